import Derived.Test.YthdnajcgdngmcaaGreatDoorKWUm
import Derived.WalkKit
import Derived.ProofKit
import Derived.RowKit3
import Derived.Deep.RegionHeld3
import Derived.WalkSpells
import Derived.StillTactics
import Derived.Laws.FloatArith
import Derived.Deep.QuietTactic
import Derived.BigQuiet
import Derived.Below
import Derived.Laws.BitsAllLaws
import Derived.Laws.Slices
import Derived.Laws.Bits64b
import Derived.RowKit
import Derived.Deep.OwnRows
import Derived.OwnWalk
import Derived.Deep.DeepCutAuto
import Derived.Deep.CutRange
namespace Go.Proofs.YthdnajcgdngmcaaGreatDoor
open Go.RowKit
namespace Fq
def bD : Int := 4503599627370496
def bS : Int := 8388608
end Fq
end Go.Proofs.YthdnajcgdngmcaaGreatDoor
namespace Go.Proofs.YthdnajcgdngmcaaGreatDoor
open Go.RowKit
namespace Fq
theorem pla_lt (x : Nat) (h : x < 18446744073709551616) : pla x < 18446744073709551616 := by unfold pla; split <;> omega
end Fq
end Go.Proofs.YthdnajcgdngmcaaGreatDoor
namespace Go.Proofs.YthdnajcgdngmcaaGreatDoor
open Go.RowKit
namespace Fq
/-- patterns that are no NaN in the order of what they stand for -/
def kyN (x : Nat) : Nat := if 9223372036854775808 ≤ pla x then 18446744073709551615 - pla x else pla x + 9223372036854775808
theorem kyN_w (n : Bool) (m : Nat) (h : m ≤ 9218868437227405312) : (kyN (wD n m) : Int) = if plz n m < 0 then 9223372036854775807 + plz n m else 9223372036854775808 + plz n m := by
  unfold kyN pla wD plz
  cases n <;> simp <;> repeat' split
  all_goals omega
theorem kyN_lt (n n' : Bool) (m m' : Nat) (h : m ≤ 9218868437227405312) (h' : m' ≤ 9218868437227405312) : kyN (wD n m) < kyN (wD n' m') ↔ plz n m < plz n' m' := by
  have e1 := kyN_w n m h
  have e2 := kyN_w n' m' h'
  have : (kyN (wD n m) < kyN (wD n' m')) ↔ ((kyN (wD n m) : Int) < kyN (wD n' m')) := by omega
  rw [this, e1, e2]
  repeat' split
  all_goals omega
end Fq
end Go.Proofs.YthdnajcgdngmcaaGreatDoor
namespace Go.Proofs.YthdnajcgdngmcaaGreatDoor
open Go.RowKit
namespace Fq
theorem xor_full (Y : Nat) (h : Y < 18446744073709551616) : 18446744073709551615 ^^^ Y = 18446744073709551615 - Y := by
  have e : 18446744073709551615 - Y = 2 ^ 64 - (Y + 1) := by omega
  rw [e, show 18446744073709551615 = 2 ^ 64 - 1 from by decide]
  apply Nat.eq_of_testBit_eq
  intro i
  rw [Nat.testBit_xor, Nat.testBit_two_pow_sub_one, Nat.testBit_two_pow_sub_succ (by omega)]
  by_cases c : i < 64
  · simp [c]
  · have : Y.testBit i = false := Nat.testBit_lt_two_pow (Nat.lt_of_lt_of_le (show Y < 2 ^ 64 by omega) (Nat.pow_le_pow_right (by decide) (by omega)))
    simp [c, this]
theorem noTop6 (n : Bool) (m X : Nat) (hm : m < 9223372036854775808) (hX : X = wD n m) : bits .andNot .u64 (X : Int) 9223372036854775808 = (m : Int) ∧ X < 18446744073709551616 := by
  have hX9 : X < 18446744073709551616 := by rw [hX]; unfold wD; split <;> omega
  have h := u64_andNot_nat X 9223372036854775808 hX9 (by decide)
  have e : X % 9223372036854775808 = m := by rw [hX]; unfold wD; split <;> omega
  rw [show 18446744073709551615 - 9223372036854775808 = 2 ^ 63 - 1 from by decide, Nat.and_two_pow_sub_one_eq_mod, show (2 : Nat) ^ 63 = 9223372036854775808 from by decide, e] at h
  exact ⟨h, hX9⟩
set_option maxRecDepth 20000 in
set_option maxHeartbeats 400000 in
theorem isnan6_ (n : Bool) (m : Nat) (hm : m < 9223372036854775808) (w : World) : Calls Tryz.prog 32 #[.int .u64 ((wD n m : Nat) : Int)] w fun e w' => e = .returned (.bool (decide (9218868437227405312 < m))) ∧ w' = w := by
  obtain ⟨X, hX⟩ : ∃ X, X = wD n m := ⟨_, rfl⟩
  have f1 := (noTop6 n m X hm hX).1
  rw [← hX]
  clear hX hm
  by_cases c : 9218868437227405312 < m
  · have t1 : 9218868437227405312 < (m : Int) := by omega
    rw [decide_eq_true c]
    clear c
    go_enter Tryz.func32, Tryz.ntmps32
    go_wp2
    exact bodyPost_ret (v := .bool true) (by simp [results, Tryz.results32, go_sem] <;> omega) rfl ⟨rfl, rfl⟩
  · have t1 : ¬ (9218868437227405312 < (m : Int)) := by omega
    rw [decide_eq_false c]
    clear c
    go_enter Tryz.func32, Tryz.ntmps32
    go_wp2
    exact bodyPost_ret (v := .bool false) (by simp [results, Tryz.results32, go_sem] <;> omega) rfl ⟨rfl, rfl⟩
set_option maxRecDepth 20000 in
set_option maxHeartbeats 400000 in
theorem rplain6_ (n : Bool) (m : Nat) (hm : m ≤ 9218868437227405312) (w : World) : Calls Tryz.prog 61 #[.int .u64 ((wD n m : Nat) : Int)] w fun e w' => e = .returned (.int .u64 ((pla (wD n m) : Nat) : Int)) ∧ w' = w := by
  have hn := isnan6_ n m (by omega)
  rw [decide_eq_false (by omega)] at hn
  obtain ⟨X, hX⟩ : ∃ X, X = wD n m := ⟨_, rfl⟩
  rw [← hX] at hn ⊢
  clear hX hm
  by_cases c : X = 9223372036854775808
  · have t : ((X : Int) == 9223372036854775808) = true := by rw [c]; rfl
    rw [show pla X = 0 from by simp [pla, c]]
    clear c hn
    go_enter Tryz.func61, Tryz.ntmps61
    go_wp2
    exact bodyPost_ret (v := .int .u64 0) (by simp [results, Tryz.results61, go_sem] <;> simp only [*]) rfl ⟨rfl, rfl⟩
  · have t : ((X : Int) == 9223372036854775808) = false := by simp; omega
    rw [show pla X = X from by simp [pla, c]]
    clear c
    go_enter Tryz.func61, Tryz.ntmps61
    go_wp2_with (first | (go_at_call 32; refine (hn _).mono ?_; rintro e w' ⟨rfl, rfl⟩))
    exact bodyPost_ret (v := .int .u64 (X : Int)) (by simp [results, Tryz.results61, go_sem] <;> simp only [*]) rfl ⟨rfl, rfl⟩
set_option maxRecDepth 20000 in
set_option maxHeartbeats 400000 in
theorem key6_ (n : Bool) (m : Nat) (hm : m ≤ 9218868437227405312) (w : World) : Calls Tryz.prog 91 #[.int .u64 ((wD n m : Nat) : Int)] w fun e w' => e = .returned (.int .u64 ((kyN (wD n m) : Nat) : Int)) ∧ w' = w := by
  have hp := rplain6_ n m hm
  have hb : pla (wD n m) < 18446744073709551616 := pla_lt _ (by unfold wD; split <;> omega)
  obtain ⟨X, hX⟩ : ∃ X, X = wD n m := ⟨_, rfl⟩
  rw [← hX] at hp hb ⊢
  unfold kyN
  obtain ⟨Y, hY⟩ : ∃ Y, Y = pla X := ⟨_, rfl⟩
  rw [← hY] at hp hb ⊢
  clear hX hm hY
  by_cases c : 9223372036854775808 ≤ Y
  · have t : 9223372036854775808 ≤ (Y : Int) := by omega
    have u : bits .xor .u64 IntKind.u64.max (Y : Int) = ((18446744073709551615 - Y : Nat) : Int) := by
      have h := u64_xor_nat 18446744073709551615 Y (by decide) hb
      rw [xor_full Y hb] at h
      exact h
    rw [if_pos c]
    clear c hb
    obtain ⟨Z, hZ⟩ : ∃ Z : Nat, Z = 18446744073709551615 - Y := ⟨_, rfl⟩
    rw [← hZ] at u ⊢
    clear hZ
    go_enter Tryz.func91, Tryz.ntmps91
    go_wp2_with (first | (go_at_call 61; refine (hp _).mono ?_; rintro e w' ⟨rfl, rfl⟩))
    exact bodyPost_ret (v := .int .u64 (Z : Int)) (by simp [results, Tryz.results91, go_sem] <;> simp only [*]) rfl ⟨rfl, rfl⟩
  · have t : decide (9223372036854775808 ≤ (Y : Int)) = false := decide_eq_false (by omega)
    have u : bits .or .u64 (Y : Int) 9223372036854775808 = ((Y + 9223372036854775808 : Nat) : Int) := by
      have h := u64_or_nat Y 9223372036854775808 hb (by decide)
      have h9 := Nat.two_pow_add_eq_or_of_lt (i := 63) (b := Y) (by omega) 1
      rw [show 2 ^ 63 * 1 = 9223372036854775808 from by decide] at h9
      rw [Nat.or_comm, ← h9, Nat.add_comm] at h
      exact h
    rw [if_neg c]
    clear c hb
    obtain ⟨Z, hZ⟩ : ∃ Z : Nat, Z = Y + 9223372036854775808 := ⟨_, rfl⟩
    rw [← hZ] at u ⊢
    clear hZ
    go_enter Tryz.func91, Tryz.ntmps91
    go_wp2_with (first | (go_at_call 61; refine (hp _).mono ?_; rintro e w' ⟨rfl, rfl⟩))
    exact bodyPost_ret (v := .int .u64 (Z : Int)) (by simp [results, Tryz.results91, go_sem] <;> simp only [*]) rfl ⟨rfl, rfl⟩
set_option maxRecDepth 20000 in
set_option maxHeartbeats 400000 in
theorem above6_ (n n' : Bool) (m m' : Nat) (hm : m < 9223372036854775808) (hm' : m' < 9223372036854775808) (w : World) : Calls Tryz.prog 59 #[.int .u64 ((wD n m : Nat) : Int), .int .u64 ((wD n' m' : Nat) : Int)] w fun e w' => e = .returned (.bool (decide (m ≤ 9218868437227405312 ∧ m' ≤ 9218868437227405312 ∧ plz n' m' < plz n m))) ∧ w' = w := by
  have hn := isnan6_ n m hm
  have hn' := isnan6_ n' m' hm'
  have kl := kyN_lt n' n m' m
  have hk := key6_ n m
  have hk' := key6_ n' m'
  have e1 : m ≤ 9218868437227405312 → m' ≤ 9218868437227405312 → decide (m ≤ 9218868437227405312 ∧ m' ≤ 9218868437227405312 ∧ plz n' m' < plz n m) = decide ((kyN (wD n' m') : Int) < (kyN (wD n m) : Int)) := by
    intro h1 h2
    have kl := kl h2 h1
    have : ((kyN (wD n' m') : Int) < (kyN (wD n m) : Int)) ↔ plz n' m' < plz n m := by rw [← kl]; omega
    simp only [this]; congr 1; apply propext; omega
  clear kl
  obtain ⟨X, hX⟩ : ∃ X, X = wD n m := ⟨_, rfl⟩
  obtain ⟨Y, hY⟩ : ∃ Y, Y = wD n' m' := ⟨_, rfl⟩
  rw [← hX] at hn hk e1 ⊢
  rw [← hY] at hn' hk' e1 ⊢
  clear hX hY
  by_cases c1 : 9218868437227405312 < m
  · rw [decide_eq_true c1] at hn
    rw [decide_eq_false (by omega)]
    clear c1 e1 hk hk' hm hm' hn'
    go_enter Tryz.func59, Tryz.ntmps59
    go_wp2_with (first | (go_at_call 32; refine (hn _).mono ?_; rintro e w' ⟨rfl, rfl⟩))
    exact bodyPost_ret (v := .bool false) (by simp [results, Tryz.results59, go_sem] <;> simp only [*]) rfl ⟨rfl, rfl⟩
  rw [decide_eq_false c1] at hn
  by_cases c2 : 9218868437227405312 < m'
  · rw [decide_eq_true c2] at hn'
    rw [decide_eq_false (by omega)]
    clear c1 c2 e1 hk hk' hm hm'
    go_enter Tryz.func59, Tryz.ntmps59
    go_wp2_with (first | (go_at_call_of 32 (Value.int .u64 (X : Int)); refine (hn _).mono ?_; rintro e w' ⟨rfl, rfl⟩) | (go_at_call_of 32 (Value.int .u64 (Y : Int)); refine (hn' _).mono ?_; rintro e w' ⟨rfl, rfl⟩))
    exact bodyPost_ret (v := .bool false) (by simp [results, Tryz.results59, go_sem] <;> simp only [*]) rfl ⟨rfl, rfl⟩
  rw [decide_eq_false c2] at hn'
  have hk := hk (by omega)
  have hk' := hk' (by omega)
  rw [e1 (by omega) (by omega)]
  clear e1 c1 c2 hm hm'
  generalize kyN X = KX at hk ⊢
  generalize kyN Y = KY at hk' ⊢
  go_enter Tryz.func59, Tryz.ntmps59
  go_wp2_with (first | (go_at_call_of 32 (Value.int .u64 (X : Int)); refine (hn _).mono ?_; rintro e w' ⟨rfl, rfl⟩) | (go_at_call_of 32 (Value.int .u64 (Y : Int)); refine (hn' _).mono ?_; rintro e w' ⟨rfl, rfl⟩) | (go_at_call_of 91 (Value.int .u64 (X : Int)); refine (hk _).mono ?_; rintro e w' ⟨rfl, rfl⟩) | (go_at_call_of 91 (Value.int .u64 (Y : Int)); refine (hk' _).mono ?_; rintro e w' ⟨rfl, rfl⟩))
  exact bodyPost_ret (v := .bool (decide ((KY : Int) < (KX : Int)))) (by simp [results, Tryz.results59, go_sem] <;> simp only [*]) rfl ⟨rfl, rfl⟩
end Fq
end Go.Proofs.YthdnajcgdngmcaaGreatDoor
namespace Go.Proofs.YthdnajcgdngmcaaGreatDoor
open Go.RowKit
namespace Fq
set_option maxRecDepth 20000 in
set_option maxHeartbeats 400000 in
theorem rempty_ (w : World) : Calls Tryz.prog 31 #[] w fun e w' => e = .returned (.agg #[.int .u64 9218868437227405312, .int .u64 18442240474082181120]) ∧ w' = w.alloc (.cells #[.int .u64 9218868437227405312, .int .u64 18442240474082181120] 33) := by
  go_enter Tryz.func31, Tryz.ntmps31
  go_wp2
  exact bodyPost_ret (v := .agg #[.int .u64 9218868437227405312, .int .u64 18442240474082181120]) (by simp [results, Tryz.results31, go_sem] <;> simp only [*]) rfl ⟨rfl, rfl⟩
set_option maxRecDepth 20000 in
set_option maxHeartbeats 1000000 in
theorem sound_ (n n' : Bool) (m m' : Nat) (hm : m < 9223372036854775808) (hm' : m' < 9223372036854775808) (w : World) : Calls Tryz.prog 60 #[.agg #[.int .u64 (((wD n m) : Nat) : Int), .int .u64 (((wD n' m') : Nat) : Int)]] w fun e w' => e = .returned (.bool (snd (wD n m) (wD n' m'))) ∧ w' = w.alloc (.cells #[.int .u64 (((wD n m) : Nat) : Int), .int .u64 (((wD n' m') : Nat) : Int)] 33) := by
  have hn := isnan6_ n m hm
  have hn' := isnan6_ n' m' hm'
  have ha := above6_ n n' m m' hm hm'
  have es := snd_w n n' m m' hm hm'
  have e1 : (wD n m = 9218868437227405312) ↔ (n = false ∧ m = 9218868437227405312) := by unfold wD; cases n <;> simp; omega
  have e2 : (wD n' m' = 18442240474082181120) ↔ (n' = true ∧ m' = 9218868437227405312) := by unfold wD; cases n' <;> simp <;> omega
  obtain ⟨X, hX⟩ : ∃ X, X = wD n m := ⟨_, rfl⟩
  obtain ⟨Y, hY⟩ : ∃ Y, Y = wD n' m' := ⟨_, rfl⟩
  rw [← hX] at hn ha es e1 ⊢
  rw [← hY] at hn' ha es e2 ⊢
  clear hX hY
  rw [es]
  by_cases c1 : 9218868437227405312 < m
  · rw [decide_eq_true c1] at hn
    rw [decide_eq_false (by omega)]
    clear c1 es e1 e2 hm hm' hn' ha
    go_enter Tryz.func60, Tryz.ntmps60
    go_wp2_with (first | (go_at_call_of 32 (Value.int .u64 (X : Int)); refine (hn _).mono ?_; rintro e w' ⟨rfl, rfl⟩))
    exact bodyPost_ret (v := .bool false) (by simp [results, Tryz.results60, go_sem] <;> simp only [*]) rfl ⟨rfl, rfl⟩
  rw [decide_eq_false c1] at hn
  by_cases c2 : 9218868437227405312 < m'
  · rw [decide_eq_true c2] at hn'
    rw [decide_eq_false (by omega)]
    clear c1 c2 es e1 e2 hm hm' ha
    go_enter Tryz.func60, Tryz.ntmps60
    go_wp2_with (first | (go_at_call_of 32 (Value.int .u64 (X : Int)); refine (hn _).mono ?_; rintro e w' ⟨rfl, rfl⟩) | (go_at_call_of 32 (Value.int .u64 (Y : Int)); refine (hn' _).mono ?_; rintro e w' ⟨rfl, rfl⟩))
    exact bodyPost_ret (v := .bool false) (by simp [results, Tryz.results60, go_sem] <;> simp only [*]) rfl ⟨rfl, rfl⟩
  rw [decide_eq_false c2] at hn'
  by_cases c3 : plz n' m' < plz n m
  · rw [decide_eq_true ⟨by omega, by omega, c3⟩] at ha
    rw [decide_eq_false (by omega)]
    clear c1 c2 c3 es e1 e2 hm hm'
    go_enter Tryz.func60, Tryz.ntmps60
    go_wp2_with (first | (go_at_call_of 32 (Value.int .u64 (X : Int)); refine (hn _).mono ?_; rintro e w' ⟨rfl, rfl⟩) | (go_at_call_of 32 (Value.int .u64 (Y : Int)); refine (hn' _).mono ?_; rintro e w' ⟨rfl, rfl⟩) | (go_at_call 59; refine (ha _).mono ?_; rintro e w' ⟨rfl, rfl⟩))
    exact bodyPost_ret (v := .bool false) (by simp [results, Tryz.results60, go_sem] <;> simp only [*]) rfl ⟨rfl, rfl⟩
  rw [decide_eq_false (by omega)] at ha
  by_cases c4 : X = 9218868437227405312
  · have t4 : ((X : Int) != 9218868437227405312) = false := by rw [c4]; rfl
    rw [decide_eq_false (fun h => h.2.2.2.1 (e1.mp c4))]
    clear c1 c2 c3 c4 es e1 e2 hm hm'
    go_enter Tryz.func60, Tryz.ntmps60
    go_wp2_with (first | (go_at_call_of 32 (Value.int .u64 (X : Int)); refine (hn _).mono ?_; rintro e w' ⟨rfl, rfl⟩) | (go_at_call_of 32 (Value.int .u64 (Y : Int)); refine (hn' _).mono ?_; rintro e w' ⟨rfl, rfl⟩) | (go_at_call 59; refine (ha _).mono ?_; rintro e w' ⟨rfl, rfl⟩))
    exact bodyPost_ret (v := .bool false) (by simp [results, Tryz.results60, go_sem] <;> simp only [*]) rfl ⟨rfl, rfl⟩
  have t4 : ((X : Int) != 9218868437227405312) = true := by simp; omega
  by_cases c5 : Y = 18442240474082181120
  · have t5 : ((Y : Int) != 18442240474082181120) = false := by rw [c5]; rfl
    rw [decide_eq_false (fun h => h.2.2.2.2 (e2.mp c5))]
    clear c1 c2 c3 c4 c5 es e1 e2 hm hm'
    go_enter Tryz.func60, Tryz.ntmps60
    go_wp2_with (first | (go_at_call_of 32 (Value.int .u64 (X : Int)); refine (hn _).mono ?_; rintro e w' ⟨rfl, rfl⟩) | (go_at_call_of 32 (Value.int .u64 (Y : Int)); refine (hn' _).mono ?_; rintro e w' ⟨rfl, rfl⟩) | (go_at_call 59; refine (ha _).mono ?_; rintro e w' ⟨rfl, rfl⟩))
    exact bodyPost_ret (v := .bool false) (by simp [results, Tryz.results60, go_sem] <;> simp only [*]) rfl ⟨rfl, rfl⟩
  have t5 : ((Y : Int) != 18442240474082181120) = true := by simp; omega
  rw [decide_eq_true ⟨by omega, by omega, by omega, fun h => c4 (e1.mpr h), fun h => c5 (e2.mpr h)⟩]
  clear c1 c2 c3 c4 c5 es e1 e2 hm hm'
  go_enter Tryz.func60, Tryz.ntmps60
  go_wp2_with (first | (go_at_call_of 32 (Value.int .u64 (X : Int)); refine (hn _).mono ?_; rintro e w' ⟨rfl, rfl⟩) | (go_at_call_of 32 (Value.int .u64 (Y : Int)); refine (hn' _).mono ?_; rintro e w' ⟨rfl, rfl⟩) | (go_at_call 59; refine (ha _).mono ?_; rintro e w' ⟨rfl, rfl⟩))
  exact bodyPost_ret (v := .bool true) (by simp [results, Tryz.results60, go_sem] <;> simp only [*]) rfl ⟨rfl, rfl⟩
set_option maxRecDepth 20000 in
set_option maxHeartbeats 1000000 in
theorem rread_ (n n' : Bool) (m m' : Nat) (hm : m < 9223372036854775808) (hm' : m' < 9223372036854775808) (w : World) : Calls Tryz.prog 23 #[.agg #[.int .u64 (((wD n m) : Nat) : Int), .int .u64 (((wD n' m') : Nat) : Int)]] w fun e w' => e = .returned (.agg #[.int .u64 (((rlo (wD n m) (wD n' m')) : Nat) : Int), .int .u64 (((rhi (wD n m) (wD n' m')) : Nat) : Int)]) ∧ Grown w w' := by
  have hs := sound_ n n' m m' hm hm'
  have es := snd_w n n' m m' hm hm'
  have hp := rplain6_ n m
  have hp' := rplain6_ n' m'
  obtain ⟨X, hX⟩ : ∃ X, X = wD n m := ⟨_, rfl⟩
  obtain ⟨Y, hY⟩ : ∃ Y, Y = wD n' m' := ⟨_, rfl⟩
  rw [← hX] at hs es hp ⊢
  rw [← hY] at hs es hp' ⊢
  clear hX hY
  by_cases c : snd X Y = true
  · rw [c] at hs
    rw [show rlo X Y = pla X from by simp [rlo, c], show rhi X Y = pla Y from by simp [rhi, c]]
    rw [c] at es
    replace es := of_decide_eq_true es.symm
    replace hp := hp es.1
    replace hp' := hp' es.2.1
    clear es c hm hm'
    generalize ((pla X : Nat) : Int) = PX at hp ⊢
    generalize ((pla Y : Nat) : Int) = PY at hp' ⊢
    generalize (X : Int) = X at hs hp ⊢
    generalize (Y : Int) = Y at hs hp' ⊢
    go_enter Tryz.func23, Tryz.ntmps23
    go_wp2_with (first | (go_at_call 60; refine (hs _).mono ?_; rintro e w' ⟨rfl, rfl⟩))
    go_region_held3 (fun w' => w'.cell? ⟨w.heap.size, 0, none⟩ = some (.int .u64 X) ∧ w'.cell? ⟨w.heap.size, 1, none⟩ = some (.int .u64 Y)) (simp [go_sem, World.cell?_alloc_past]) (first | (go_at_call_of 61 (Value.int .u64 X); refine (hp _).mono ?_; rintro e w' ⟨rfl, rfl⟩) | (go_at_call_of 61 (Value.int .u64 Y); refine (hp' _).mono ?_; rintro e w' ⟨rfl, rfl⟩))
    go_wp2
    exact bodyPost_ret (v := .agg #[.int .u64 PX, .int .u64 PY]) (by simp [results, Tryz.results23, go_sem] <;> simp only [*]) rfl ⟨rfl, (by repeat (with_reducible (first | assumption | exact Grown.refl _ | apply Grown.drew | apply Grown.alloc | apply gdrewN | (refine Grown.setCell ?_ (by simp <;> omega) _) | (refine gtrans ?_ (by assumption)))))⟩
  · have c : snd X Y = false := by simpa using c
    rw [c] at hs
    rw [show rlo X Y = 9218868437227405312 from by simp [rlo, c], show rhi X Y = 18442240474082181120 from by simp [rhi, c]]
    clear es c hm hm' hp hp'
    go_enter Tryz.func23, Tryz.ntmps23
    go_wp2_with (first | (go_at_call 60; refine (hs _).mono ?_; rintro e w' ⟨rfl, rfl⟩) | (go_at_call 31; refine (rempty_ _).mono ?_; rintro e w' ⟨rfl, rfl⟩))
    exact bodyPost_ret (v := .agg #[.int .u64 9218868437227405312, .int .u64 18442240474082181120]) (by simp [results, Tryz.results23, go_sem] <;> simp only [*]) rfl ⟨rfl, (by repeat (with_reducible (first | assumption | exact Grown.refl _ | apply Grown.drew | apply Grown.alloc | apply gdrewN | (refine Grown.setCell ?_ (by simp <;> omega) _) | (refine gtrans ?_ (by assumption)))))⟩
end Fq
end Go.Proofs.YthdnajcgdngmcaaGreatDoor
namespace Go.Proofs.YthdnajcgdngmcaaGreatDoor
open Go.RowKit
/-- one word of a difference -/
theorem minus_step (L xs ys : List Int) (k C C' Z : Nat) (hl : L.length = k) (hZ : Z + ((ys.getD k 0).toNat + C) = (xs.getD k 0).toNat + C' * 4294967296) (h : val L + val (ys.take k) = val (xs.take k) + C * 4294967296 ^ k) :
    val (L ++ [(Z : Int)]) + val (ys.take (k + 1)) = val (xs.take (k + 1)) + C' * 4294967296 ^ (k + 1) := by
  rw [val_append, val_take_succ, val_take_succ, hl]
  simp only [val, Int.toNat_natCast, Nat.mul_zero, Nat.add_zero]
  obtain ⟨P, hP⟩ : ∃ P, P = 4294967296 ^ k := ⟨_, rfl⟩
  rw [Nat.pow_succ, ← hP]
  rw [← hP] at h
  have e := congrArg (· * P) hZ
  simp only [Nat.add_mul] at e
  have e3 : C' * 4294967296 * P = C' * (P * 4294967296) := by rw [Nat.mul_comm P, Nat.mul_assoc]
  rw [Nat.mul_comm P Z]
  omega
theorem minus_end (zs xs ys : List Int) (C n : Nat) (hl : zs.length = n) (hz : Wd zs) (hle : val ys ≤ val xs) (h : val zs + val ys = val xs + C * 4294967296 ^ n) (hC : C ≤ 1) : C = 0 := by
  have h1 := val_lt zs hz
  rw [hl] at h1
  rcases (by omega : C = 0 ∨ C = 1) with c | c
  · exact c
  · subst c; omega
end Go.Proofs.YthdnajcgdngmcaaGreatDoor
namespace Go.Proofs.YthdnajcgdngmcaaGreatDoor
open Go.RowKit
theorem blen_half (n : Nat) (h : n ≠ 0) : blen n = blen (n / 2) + 1 := by
  by_cases c : n = 1
  · subst c; simp [blen_zero]; exact blen_uniq 1 0 (by simp) (by simp)
  · have h2 : n / 2 ≠ 0 := by omega
    obtain ⟨a, b, d⟩ := blen_spec (n / 2) h2
    obtain ⟨k, hk⟩ : ∃ k, blen (n / 2) = k + 1 := ⟨blen (n / 2) - 1, by omega⟩
    rw [hk] at a b ⊢
    simp only [Nat.add_sub_cancel] at a
    apply blen_uniq
    · rw [Nat.pow_succ]; omega
    · rw [Nat.pow_succ]; omega
end Go.Proofs.YthdnajcgdngmcaaGreatDoor
namespace Go.Proofs.YthdnajcgdngmcaaGreatDoor
open Go.RowKit
theorem inf32p : ∃ i, Tryz.prog.info? 80 = some i ∧ i.zero = some (.int .u32 0) ∧ i.size = 1 ∧ i.bytes = 4 := info_parts inf32
/-- one word more -/
theorem Own.push {w : World} {base : Nat} {v : Value} {xs : List Int} {X : Int} (h : w.ownsRow base 80 1 v (xs.length + 1) (xs.map (Value.int .u32) ++ [.int .u32 X])) : Own w base v (xs ++ [X]) := by
  unfold Own
  simpa using h
theorem own_block {w : World} {base : Nat} {v : Value} {xs : List Int} (h : Own w base v xs) : ∀ k, v.ownBlock = some k → base ≤ k := fun k hk => (h.lt k hk).1
theorem take_push (xs : List Int) (k : Nat) (h : k < xs.length) : xs.take k ++ [xs.getD k 0] = xs.take (k + 1) := by
  rw [List.take_add_one, List.getElem?_eq_getElem h]
  simp [List.getD, h]
end Go.Proofs.YthdnajcgdngmcaaGreatDoor
namespace Go.Proofs.YthdnajcgdngmcaaGreatDoor
open Go.RowKit
theorem and32 (S : Nat) (h : S < 18446744073709551616) : bits BinOp.and IntKind.u64 (S : Int) 4294967295 = ((S % 4294967296 : Nat) : Int) := by
  have := bits_and_u64_nat S 4294967295 h (by decide)
  have e : S &&& 4294967295 = S % 4294967296 := Nat.and_two_pow_sub_one_eq_mod S 32
  rw [e] at this
  exact this
/-- one word of a sum -/
theorem plus_step (L xs ys : List Int) (k C S : Nat) (hl : L.length = k) (hS : S = C + (xs.getD k 0).toNat + (ys.getD k 0).toNat) (h : val L + C * 4294967296 ^ k = val (xs.take k) + val (ys.take k)) :
    val (L ++ [((S % 4294967296 : Nat) : Int)]) + S / 4294967296 * 4294967296 ^ (k + 1) = val (xs.take (k + 1)) + val (ys.take (k + 1)) := by
  rw [val_append, val_take_succ, val_take_succ, hl]
  simp only [val, Int.toNat_natCast, Nat.mul_zero, Nat.add_zero]
  have e : S % 4294967296 + 4294967296 * (S / 4294967296) = S := Nat.mod_add_div _ _
  obtain ⟨P, hP⟩ : ∃ P, P = 4294967296 ^ k := ⟨_, rfl⟩
  rw [Nat.pow_succ, ← hP]
  rw [← hP] at h
  have e2 : P * (S % 4294967296) + S / 4294967296 * (P * 4294967296) = P * S := by
    have : S / 4294967296 * (P * 4294967296) = P * (4294967296 * (S / 4294967296)) := by
      rw [Nat.mul_comm, Nat.mul_assoc]
    rw [this, ← Nat.mul_add, e]
  have e3 : P * S = C * P + (xs.getD k 0).toNat * P + (ys.getD k 0).toNat * P := by
    rw [hS, Nat.mul_comm, Nat.add_mul, Nat.add_mul]
  omega
theorem getD_out (xs : List Int) (k : Nat) (h : ¬ k < xs.length) : xs.getD k 0 = 0 := by
  simp [List.getD, List.getElem?_eq_none (by omega : xs.length ≤ k)]
end Go.Proofs.YthdnajcgdngmcaaGreatDoor
namespace Go.Proofs.YthdnajcgdngmcaaGreatDoor
open Go.RowKit
set_option maxRecDepth 20000 in
set_option maxHeartbeats 1000000 in
theorem words_ (p : Option Addr) (c : Nat) (xs : List Int) (w : World) (hx : Arr w p xs) (lx : xs.length ≤ 1099511627776) :
    Calls Tryz.prog 70 #[.slice p xs.length c] w fun e w' => e = .returned (.int .i64 (tl xs : Int)) ∧ w' = w := by
  obtain ⟨N, hN⟩ : ∃ N, N = xs.length := ⟨_, rfl⟩
  rw [← hN] at lx ⊢
  have HX : Hid (Arr w p xs) := hx
  have HN : Hid (N = xs.length) := hN
  obtain ⟨T, hT⟩ : ∃ T, T = tl xs := ⟨_, rfl⟩
  rw [← hT]
  have HT : Hid (tlAux xs N = T) := by rw [hT, hN]; exact rfl
  have hT2 : T ≤ N := by rw [hT, hN]; exact tl_le xs
  clear hN hx hT
  go_enter Tryz.func70, Tryz.ntmps70
  go_wp2
  go_loop [3] (fun i => ∃ k : Nat, i = .int .i64 k ∧ k ≤ N ∧ tlAux xs k = T) (fun i => (intOf i).toNat)
  case atStart => exact ⟨N, rfl, Nat.le_refl _, HT.out⟩
  case round =>
    obtain ⟨k, rfl, hk, ht⟩ := hrel
    have hN := HN.out
    rcases k with _ | k
    · have hT0 : T = 0 := by rw [← ht]; rfl
      subst hT0
      clear hN HN HX HT ht hk
      go_wp2
      exact bodyPost_ret (v := .int .i64 0) (by simp [results, Tryz.results70, go_sem] <;> simp only [*]) rfl ⟨rfl, rfl⟩
    · obtain ⟨b, off, rfl, hc'⟩ := HX.out.at (k := k) (by omega)
      have e1 := hc' k (by omega)
      have f1 : (((k + 1 : Nat) : Int) - 1) = (k : Int) := by omega
      by_cases cz : xs.getD k 0 = 0
      · rw [tlAux_zero xs k cz] at ht
        rw [cz] at e1
        clear hN HN HX HT hc'
        go_wp2
        exact ⟨⟨k, by go_num, by omega, ht⟩, by simp [intOf]⟩
      · rw [tlAux_nz xs k cz] at ht
        subst ht
        obtain ⟨X, hX⟩ : ∃ X, X = xs.getD k 0 := ⟨_, rfl⟩
        rw [← hX] at e1 cz
        have t1 : (X == 0) = false := by simp [cz]
        clear hN HN HX HT hc' hX cz
        go_wp2
        exact bodyPost_ret (v := .int .i64 ((k + 1 : Nat) : Int)) (by simp [results, Tryz.results70, go_sem] <;> simp only [*]) rfl ⟨rfl, rfl⟩
end Go.Proofs.YthdnajcgdngmcaaGreatDoor
namespace Go.Proofs.YthdnajcgdngmcaaGreatDoor
open Go.RowKit
theorem lost_mod (xs : List Int) (h : Wd xs) (o s X : Nat) (hs : s < 32) (ho : o < xs.length) (hX : xs.getD o 0 = (X : Int)) : val xs % (4294967296 ^ o * 2 ^ s) ≠ 0 ↔ X % 2 ^ s ≠ 0 ∨ val (xs.take o) ≠ 0 := by
  obtain ⟨e1, e2⟩ := val_div xs h o (by omega)
  have e3 := val_drop xs o ho
  rw [hX, Int.toNat_natCast] at e3
  have e := split32 s hs
  have hp : 0 < 4294967296 ^ o := Nat.pow_pos (by decide)
  have e4 : val (xs.drop o) % 2 ^ s = X % 2 ^ s := by
    have : (4294967296 : Nat) * val (xs.drop (o + 1)) = 2 ^ s * (2 ^ (32 - s) * val (xs.drop (o + 1))) := by rw [← Nat.mul_assoc, ← e]
    rw [e3, this, Nat.add_mul_mod_self_left]
  rw [Nat.mod_mul, e1, e2, e4]
  constructor
  · intro h1
    by_cases c : X % 2 ^ s = 0
    · right; rw [c] at h1; simpa using h1
    · exact Or.inl c
  · rintro (h1 | h1) h2
    · have : 0 < 4294967296 ^ o * (X % 2 ^ s) := Nat.mul_pos hp (by omega)
      omega
    · omega
theorem lost_word (X s : Nat) (hs : s < 32) : X * 2 ^ (31 - s) % 4294967296 * 2 % 4294967296 = X % 2 ^ s * 2 ^ (32 - s) := by
  have e := split32 s hs
  rw [Nat.mod_mul_mod, Nat.mul_assoc, ← Nat.pow_succ, show (31 - s).succ = 32 - s from by omega, e, Nat.mul_mod_mul_right]
theorem right_word (ys : List Int) (h : Wd ys) (k s X Y : Nat) (hs : s < 32) (hk : k < ys.length) (hX : ys.getD k 0 = (X : Int)) (hY : ys.getD (k + 1) 0 = (Y : Int)) : val ys / 2 ^ s / 4294967296 ^ k % 4294967296 = (X + Y * 4294967296) / 2 ^ s % 4294967296 := by
  have hX32 := h k
  rw [hX] at hX32
  by_cases c : k + 1 < ys.length
  · rw [low_word ys h k s X Y hs c hX hY]
    exact (shr_word (X + Y * 4294967296) X Y 0 s hs (by omega) (by omega)).symm
  · have hY0 : Y = 0 := by
      have : ys.getD (k + 1) 0 = 0 := by simp [List.getD, List.getElem?_eq_none (by omega : ys.length ≤ k + 1)]
      omega
    rw [low_last ys h k s X (by omega) hX, hY0, Nat.zero_mul, Nat.add_zero]
    exact (Nat.mod_eq_of_lt (Nat.lt_of_le_of_lt (Nat.div_le_self _ _) (by omega))).symm
end Go.Proofs.YthdnajcgdngmcaaGreatDoor
namespace Go.Proofs.YthdnajcgdngmcaaGreatDoor
open Go.RowKit
theorem frac_rV (d : Int) (p a b a1 b1 ka kb x y : Nat) (exp ex t : Int) (ha : a = a1 * 2 ^ ka) (hb : b = b1 * 2 ^ kb) (hb1 : 0 < b1) (hex : ex = exp + ka - kb) (hx : x = ex.toNat) (hy : y = (-ex).toNat) :
    rV d p (a1 * 2 ^ x) (b1 * 2 ^ y) t = rV d p a b (t + exp) := by
  rw [rV_up d p a1 _ x t (Nat.mul_pos hb1 (Nat.pow_pos (by omega))), rV_down d p a1 b1 y _ hb1, ha, hb, rV_up d p a1 _ ka _ (Nat.mul_pos hb1 (Nat.pow_pos (by omega))), rV_down d p a1 b1 kb _ hb1]
  exact congrArg _ (by omega)
/-- what Frac answers of a by b times 2^exp -/
def FracOf (a b : Nat) (exp : Int) (a' b' : Nat) : Prop := b' ≠ 0 ∧ (a' = 0 ↔ a = 0) ∧ (∀ (d : Int) (p : Nat) (t : Int), a ≠ 0 → rV d p a' b' t = rV d p a b (t + exp)) ∧ blen a' ≤ 2 * blen a + exp.natAbs + 1 ∧ blen b' ≤ 2 * blen b + exp.natAbs + 1
theorem frac_of (a b a1 b1 ka kb x y : Nat) (exp ex : Int) (h0 : a1 ≠ 0) (hb1 : b1 ≠ 0) (ha : a = a1 * 2 ^ ka) (hb : b = b1 * 2 ^ kb) (_hka : ka ≤ blen a) (_hkb : kb ≤ blen b) (hex : ex = exp + ka - kb) (hx : x = ex.toNat) (hy : y = (-ex).toNat) : FracOf a b exp (a1 * 2 ^ x) (b1 * 2 ^ y) := by
  have la : blen a = blen a1 + ka := by rw [ha, blen_mul _ _ h0]
  have lb : blen b = blen b1 + kb := by rw [hb, blen_mul _ _ hb1]
  have hp : ∀ k, 0 < (2 : Nat) ^ k := fun k => Nat.pow_pos (by omega)
  refine ⟨Nat.ne_of_gt (Nat.mul_pos (by omega) (hp y)), ?_, ?_, ?_, ?_⟩
  · constructor
    · intro h; exact absurd h (Nat.ne_of_gt (Nat.mul_pos (by omega) (hp x)))
    · intro h; rw [ha] at h; exact absurd h (Nat.ne_of_gt (Nat.mul_pos (by omega) (hp ka)))
  · intro d p t _
    exact frac_rV d p a b a1 b1 ka kb x y exp ex t ha hb (by omega) hex hx hy
  · rw [blen_mul _ _ h0]; omega
  · rw [blen_mul _ _ hb1]; omega
end Go.Proofs.YthdnajcgdngmcaaGreatDoor
namespace Go.Proofs.YthdnajcgdngmcaaGreatDoor
open Go.RowKit
theorem row1 (w : World) (x : Int) : Rw (w.alloc (.cells #[.int .u32 x] 80)) w.heap.size 1 [x] := by
  have := World.rowIs_alloc w #[.int .u32 x] 80 (fun i => .int .u32 ([x].getD i 0)) (fun i hi => by
    have h : i = 0 := by simp at hi; omega
    rcases h with rfl; rfl)
  exact this
theorem own1 (w : World) : Own (w.alloc (.cells #[.int .u32 1] 80)) w.heap.size (.slice (some ⟨w.heap.size, 0, none⟩) 1 1) [1] :=
  Own.of_row (row1 w 1) (Nat.le_refl _) (Nat.le_refl _) rfl (by unfold maxLen; omega)
end Go.Proofs.YthdnajcgdngmcaaGreatDoor
namespace Go.Proofs.YthdnajcgdngmcaaGreatDoor
open Go.RowKit
set_option maxRecDepth 20000 in
set_option maxHeartbeats 1000000 in
theorem rlen_ (p : Option Addr) (c : Nat) (xs : List Int) (w : World) (hx : Arr w p xs) (hwx : Wd xs) (lx : xs.length ≤ 1099511627776) :
    Calls Tryz.prog 36 #[.slice p xs.length c] w fun e w' => e = .returned (.int .i64 (blen (val xs) : Nat)) ∧ w' = w := by
  have h1 := words_ p c xs w hx lx
  have lS := tl_le xs
  rcases Nat.eq_zero_or_pos (tl xs) with h0 | h0
  · have e0 : val xs = 0 := by rw [← val_tl xs, h0]; rfl
    rw [h0] at h1
    rw [e0, blen_zero]
    obtain ⟨N, hN⟩ : ∃ N, N = xs.length := ⟨_, rfl⟩
    rw [← hN] at h1 ⊢
    clear hx hwx lx lS h0 e0 hN
    go_enter Tryz.func36, Tryz.ntmps36
    go_wp2_with fail
    refine h1.mono ?_; rintro e w' ⟨rfl, rfl⟩
    go_wp2
    exact bodyPost_ret (v := .int .i64 0) (by simp [results, Tryz.results36, go_sem] <;> simp only [*]) rfl ⟨rfl, rfl⟩
  · obtain ⟨t, ht⟩ : ∃ t, tl xs = t + 1 := ⟨tl xs - 1, by omega⟩
    have hb := blen_val xs hwx t ht
    have hw := hwx t
    obtain ⟨b, off, rfl, hc⟩ := hx.at (k := t) (by omega)
    have e1 := hc t (by omega)
    obtain ⟨X, hX⟩ : ∃ X : Nat, (X : Int) = xs.getD t 0 := ⟨(xs.getD t 0).toNat, by omega⟩
    rw [← hX] at e1 hb
    rw [Int.toNat_natCast] at hb
    obtain ⟨R, hR⟩ : ∃ R, R = blen (val xs) := ⟨_, rfl⟩
    rw [← hR] at hb ⊢
    rw [ht] at h1
    have htN : t < xs.length := by omega
    obtain ⟨N, hN⟩ : ∃ N, N = xs.length := ⟨_, rfl⟩
    rw [← hN] at h1 htN lx ⊢
    have f1 : (((t + 1 : Nat) : Int) - 1) = (t : Int) := by omega
    have f2 : (((t + 1 : Nat) : Int) == 0) = false := by simp; omega
    have HB : Hid (R = 32 * t + blen X ∧ X < 4294967296) := ⟨hb, by omega⟩
    have hX32 : X < 4294967296 := by omega
    clear hx hwx lS h0 hN hb hw hX hc hR ht
    go_enter Tryz.func36, Tryz.ntmps36
    go_wp2_with fail
    refine h1.mono ?_; rintro e w' ⟨rfl, hw'⟩; obtain rfl := hw'.symm
    clear h1
    go_wp2
    go_loop [4, 5] (fun k x => ∃ (a X : Nat), k = .int .i64 (a : Int) ∧ x = .int .u32 (X : Int) ∧ a + blen X = R ∧ X < 4294967296 ∧ R ≤ 35184372088864) (fun _ x => (intOf x).toNat)
    case atStart => exact ⟨32 * t, X, by go_num, rfl, HB.out.1.symm, HB.out.2, by have := HB.out.1; have := blen_lt X 32 HB.out.2; omega⟩
    case round =>
      clear e1
      obtain ⟨a, Y, rfl, rfl, hR, hY, hRb⟩ := hrel
      by_cases cY : Y = 0
      · subst cY
        rw [blen_zero, Nat.add_zero] at hR
        subst hR
        clear HB hX32
        go_wp2
        exact bodyPost_ret (v := .int .i64 (a : Int)) (by simp [results, Tryz.results36, go_sem] <;> simp only [*]) rfl ⟨rfl, rfl⟩
      · have hh := blen_half Y cY
        have t1 : (0 : Int) < (Y : Int) := by omega
        have f5 : (Y : Int) / 2 = ((Y / 2 : Nat) : Int) := by omega
        have hb2 : a + 1 + blen (Y / 2) = R := by omega
        obtain ⟨Z, hZ⟩ : ∃ Z, Z = Y / 2 := ⟨_, rfl⟩
        rw [← hZ] at f5 hb2
        have hZ2 : Z < Y := by omega
        clear HB hX32 hh hZ hR
        go_wp2
        exact ⟨⟨a + 1, Z, by go_num, rfl, hb2, by omega, hRb⟩, by simp [intOf]; omega⟩
end Go.Proofs.YthdnajcgdngmcaaGreatDoor
namespace Go.Proofs.YthdnajcgdngmcaaGreatDoor
open Go.RowKit
set_option maxRecDepth 20000 in
set_option maxHeartbeats 2000000 in
theorem rnorm_ (p : Option Addr) (c : Nat) (xs : List Int) (w : World) (hx : Arr w p xs) (lx : xs.length ≤ 1099511627776) :
    Calls Tryz.prog 105 #[.slice p xs.length c] w fun e w' => ∃ v, e = .returned v ∧ Own w' w.heap.size v (nz xs) ∧ Kp w w' := by
  obtain ⟨N, hN⟩ : ∃ N, N = xs.length := ⟨_, rfl⟩
  rw [← hN] at lx ⊢
  have HX : Hid (Arr w p xs) := hx
  have HN : Hid (N = xs.length) := hN
  obtain ⟨T, hT⟩ : ∃ T, T = tl xs := ⟨_, rfl⟩
  have HT : Hid (tlAux xs N = T) := by rw [hT, hN]; exact rfl
  have HT2 : Hid (T ≤ N ∧ T = tl xs) := ⟨by rw [hT, hN]; exact tl_le xs, hT⟩
  obtain ⟨i0, hi0, hi1, hi2, hi3⟩ := inf32p
  clear hN hx hT
  go_enter Tryz.func105, Tryz.ntmps105
  go_wp2
  go_loop [3] (fun i => ∃ k : Nat, i = .int .i64 k ∧ k ≤ N ∧ tlAux xs k = T) (fun i => (intOf i).toNat)
  case atStart => exact ⟨N, rfl, Nat.le_refl _, HT.out⟩
  case round =>
    obtain ⟨k, rfl, hk, ht⟩ := hrel
    have hN := HN.out
    have step2 : k = 0 ∨ (∃ k', k = k' + 1 ∧ xs.getD k' 0 = 0) ∨ (∃ k', k = k' + 1 ∧ xs.getD k' 0 ≠ 0) := by
      rcases k with _ | k'
      · exact Or.inl rfl
      · by_cases cz : xs.getD k' 0 = 0
        · exact Or.inr (Or.inl ⟨k', rfl, cz⟩)
        · exact Or.inr (Or.inr ⟨k', rfl, cz⟩)
    rcases step2 with rfl | ⟨k, rfl, cz⟩ | ⟨k, rfl, cz⟩
    · have hT0 : T = 0 := by rw [← ht]; rfl
      subst hT0
      clear hN HN HX HT ht hk
      have hnz : nz xs = [] := by unfold nz; rw [← HT2.out.2]; rfl
      go_wp2
      go_loopw [4, 5] (fun v i wr => v = .slice none 0 0 ∧ i = .int .i64 0 ∧ wr = w) (fun _ _ _ => 0)
      case atStart => exact ⟨rfl, rfl, rfl⟩
      case round =>
        obtain ⟨rfl, rfl, rfl⟩ := hrel
        go_wp2
        exact bodyPost_ret (v := .slice none 0 0) (by simp [results, Tryz.results105, go_sem] <;> simp only [*]) rfl ⟨_, rfl, by rw [hnz]; exact Own.nil _ _, Kp.refl _⟩
    · obtain ⟨b, off, rfl, hc'⟩ := HX.out.at (k := k) (by omega)
      have e1 := hc' k (by omega)
      rw [tlAux_zero xs k cz] at ht
      rw [cz] at e1
      clear hN HN HX HT hc' HT2
      go_wp2
      exact ⟨⟨k, by go_num, by omega, ht⟩, by simp [intOf]⟩
    · obtain ⟨b, off, rfl, hc'⟩ := HX.out.at (k := k) (by omega)
      have e1 := hc' k (by omega)
      rw [tlAux_nz xs k cz] at ht
      obtain ⟨X, hX⟩ : ∃ X, X = xs.getD k 0 := ⟨_, rfl⟩
      rw [← hX] at e1 cz
      have t1 : (X == 0) = false := by simp [cz]
      have HK : Hid (k + 1 = T) := ht
      clear hN HT hc' hX cz ht
      go_wp2
      go_loopw [4, 5] (fun a i wr => ∃ (v : Value) (j : Nat), v = a ∧ j ≤ k + 1 ∧ i = .int .i64 j ∧ Own wr w.heap.size v (xs.take j) ∧ Kp w wr) (fun _ i _ => k + 1 - (intOf i).toNat)
      case atStart => exact ⟨_, 0, rfl, Nat.zero_le _, rfl, by simpa using Own.nil w w.heap.size, Kp.refl _⟩
      case round =>
        obtain ⟨v, j, rfl, hj, rfl, hown, hkp⟩ := hrel
        obtain ⟨hTN, hTe⟩ := HT2.out
        have hKT := HK.out
        have hN := HN.out
        clear e1 t1
        by_cases cj : j < k + 1
        · obtain ⟨b2, off2, hb2, hc2⟩ := HX.out.at (k := j) (by omega)
          obtain ⟨rfl, rfl⟩ : b = b2 ∧ off = off2 := by simpa using hb2
          have e2 := kkeep hkp (hc2 j (by omega))
          have hpush := take_push xs j (by omega)
          have hob := own_block hown
          have hlen : (xs.take j).length = j := by rw [List.length_take]; omega
          have hown' : wr.ownsRow w.heap.size 80 1 v ((xs.take j).length) ((xs.take j).map (Value.int .u32)) := hown
          obtain ⟨Y, hY⟩ : ∃ Y, Y = xs.getD j 0 := ⟨_, rfl⟩
          rw [← hY] at e2 hpush
          have hsz := hkp.size
          clear hc2 hb2 hY hTe HX HN HT2 HK hown
          clear hN
          go_wp2_with (first | (at_builtin; refine wpList_append_own _ rfl _ _ 47 rfl w.heap.size 80 i0 (.int .u32 0) 1 4 Tryz.underlying47 hi0 hi1 hi2 hi3 rfl (by decide) _ _ _ rfl (hown'.alloc _) ⟨wr.heap.size, 0, none⟩ 1 1 [.int .u32 Y] rfl rfl ?c1 ?c2 ?c3 ?c4 ?c5 ?_))
          case c1 =>
            intro j' u hj'
            match j', hj' with
            | 0, hj' => simp at hj'; subst hj'; simp [Addr.add]
          case c2 => intro u hu; simp at hu; subst hu; rfl
          case c3 => unfold maxLen; omega
          case c4 => omega
          case c5 => simp; omega
          intro v' w1 hown2 hgrow _
          have hO : Own w1 w.heap.size v' (xs.take (j + 1)) := by rw [← hpush]; refine Own.push ?_; rw [hlen, List.map_take]; exact hown2
          have hK2 : Kp w w1 := (hkp.alloc _).grown hgrow hob
          clear hown2 hgrow hown' hkp hob e2 hsz hpush hlen
          go_wp2
          exact ⟨⟨_, j + 1, rfl, by omega, by go_num, hO, hK2⟩, by simp [intOf]; omega⟩
        · have hjk : j = k + 1 := by omega
          have hnz : nz xs = xs.take j := by unfold nz; rw [← hTe, ← hKT, hjk]
          clear hN HN HX HT2 HK hTe hTN hKT
          go_wp2
          exact bodyPost_ret (v := v) (by simp [results, Tryz.results105, go_sem] <;> simp only [*]) rfl ⟨_, rfl, by rw [hnz]; exact hown, hkp⟩
end Go.Proofs.YthdnajcgdngmcaaGreatDoor
namespace Go.Proofs.YthdnajcgdngmcaaGreatDoor
open Go.RowKit
set_option maxRecDepth 20000 in
set_option maxHeartbeats 1000000 in
theorem rbit_ (p : Option Addr) (c i j : Nat) (xs : List Int) (w : World) (hx : Arr w p xs) (hwx : Wd xs) (lx : xs.length ≤ 16777216) (hi : i < xs.length) (hj : j < 32) :
    Calls Tryz.prog 139 #[.slice p xs.length c, .int .i64 ((32 * i + j : Nat) : Int)] w fun e w' => e = .returned (.int .u32 ((xs.getD i 0).toNat / 2 ^ j % 2 : Nat)) ∧ w' = w := by
  obtain ⟨N, hN⟩ : ∃ N, N = xs.length := ⟨_, rfl⟩
  obtain ⟨b, off, rfl, hc⟩ := hx.at hi
  have e1 := hc i hi
  have wx := hwx i
  obtain ⟨X, hX⟩ : ∃ X : Nat, (X : Int) = xs.getD i 0 := ⟨(xs.getD i 0).toNat, by omega⟩
  rw [← hX] at e1 ⊢
  rw [Int.toNat_natCast]
  obtain ⟨k, hk⟩ : ∃ k, k = 32 * i + j := ⟨_, rfl⟩
  rw [← hk, ← hN]
  have t0 : ¬ ((k : Int) < 0) := by omega
  have f1 : (k : Int) / 32 = (i : Int) := by omega
  have f2 : (k : Int) % 32 = (j : Int) := by omega
  have i0 : (0 : Int) ≤ (i : Int) := by omega
  have i1 : (i : Int) < (N : Int) := by omega
  have i2 : ¬ ((N : Int) ≤ (i : Int)) := by omega
  have f3 : IntKind.u64.wrap (j : Int) = (j : Int) := by rw [IntKind.wrap_u64]; omega
  have f7 : wrap64 (i : Int) = (i : Int) := by unfold wrap64; omega
  have f8 : wrap64 (j : Int) = (j : Int) := by unfold wrap64; omega
  obtain ⟨Q, hQ⟩ : ∃ Q, Q = X / 2 ^ j := ⟨_, rfl⟩
  rw [← hQ]
  have hQX : Q ≤ X := by rw [hQ]; exact Nat.div_le_self _ _
  have f4 : (X : Int) / 2 ^ j = (Q : Int) := by rw [hQ]; push_cast; rfl
  have f5 : bits BinOp.and IntKind.u32 (Q : Int) 1 = ((Q % 2 : Nat) : Int) := by
    have := u32_and_nat Q 1 (by omega) (by omega)
    rw [Nat.and_one_is_mod] at this
    exact this
  obtain ⟨B, hB⟩ : ∃ B, B = Q % 2 := ⟨_, rfl⟩
  rw [← hB] at f5 ⊢
  clear hx hwx lx hi hc wx hX hk hN hQ hQX hB
  go_enter Tryz.func139, Tryz.ntmps139
  go_wp2
  exact bodyPost_ret (v := .int .u32 (B : Int)) (by simp [results, Tryz.results139, go_sem] <;> simp only [*]) rfl ⟨rfl, rfl⟩
set_option maxRecDepth 20000 in
set_option maxHeartbeats 1000000 in
theorem rzeros_ (p : Option Addr) (c : Nat) (xs : List Int) (w : World) (hx : Arr w p xs) (hwx : Wd xs) (lx : xs.length ≤ 16777216) :
    Calls Tryz.prog 106 #[.slice p xs.length c] w fun e w' => e = .returned (.int .i64 (ctz (val xs) : Nat)) ∧ w' = w := by
  have h1 := words_ p c xs w hx (by omega)
  have lS := tl_le xs
  obtain ⟨R, hR⟩ : ∃ R, R = ctz (val xs) := ⟨_, rfl⟩
  rcases Nat.eq_zero_or_pos (tl xs) with h0 | h0
  · have e0 : val xs = 0 := by rw [← val_tl xs, h0]; rfl
    rw [h0] at h1
    rw [e0, ctz_zero]
    obtain ⟨N, hN⟩ : ∃ N, N = xs.length := ⟨_, rfl⟩
    rw [← hN] at h1 ⊢
    clear hx hwx lx lS h0 e0 hN hR
    go_enter Tryz.func106, Tryz.ntmps106
    go_wp2_with fail
    refine h1.mono ?_; rintro e w' ⟨rfl, hw'⟩; obtain rfl := hw'.symm
    go_wp2
    exact bodyPost_ret (v := .int .i64 0) (by simp [results, Tryz.results106, go_sem] <;> simp only [*]) rfl ⟨rfl, rfl⟩
  · have hbit := fun (i j : Nat) hi hj => rbit_ p c i j xs w hx hwx lx hi hj
    have htop : xs.getD (tl xs - 1) 0 ≠ 0 := by
      rcases (tl_spec xs xs.length).2 with e | e
      · exfalso; have : tl xs = 0 := e; omega
      · exact e
    obtain ⟨N, hN⟩ : ∃ N, N = xs.length := ⟨_, rfl⟩
    obtain ⟨S, hS⟩ : ∃ S, S = tl xs := ⟨_, rfl⟩
    rw [← hN, ← hS] at h1
    rw [← hS] at htop h0 lS
    rw [← hR]
    rw [← hN] at hbit lS lx ⊢
    have t0 : ((S : Int) == 0) = false := by simp; omega
    have HX : Hid (Arr w p xs ∧ Wd xs ∧ N = xs.length ∧ R = ctz (val xs) ∧ xs.getD (S - 1) 0 ≠ 0 ∧ 0 < S ∧ S ≤ N) := ⟨hx, hwx, hN, hR, htop, h0, lS⟩
    have HB : Hid (∀ (i j : Nat), i < N → j < 32 → Calls Tryz.prog 139 #[.slice p N c, .int .i64 ((32 * i + j : Nat) : Int)] w fun e w' => e = .returned (.int .u32 ((xs.getD i 0).toNat / 2 ^ j % 2 : Nat)) ∧ w' = w) := hbit
    clear hx hwx hN hR hbit htop h0 hS lS
    go_enter Tryz.func106, Tryz.ntmps106
    go_wp2_with fail
    refine h1.mono ?_; rintro e w' ⟨rfl, hw'⟩; obtain rfl := hw'.symm
    clear h1
    go_wp2
    clear t0
    go_loop [3] (fun z => ∃ i : Nat, z = .int .i64 ((32 * i : Nat) : Int) ∧ i < S ∧ ∀ j, j < i → xs.getD j 0 = 0) (fun z => 32 * S - (intOf z).toNat)
    case atStart => exact ⟨0, rfl, HX.out.2.2.2.2.2.1, fun j h => by omega⟩
    case round =>
      obtain ⟨i, rfl, hi, hz⟩ := hrel
      obtain ⟨hx, hwx, hN, hR, htop, h0, lS⟩ := HX.out
      obtain ⟨b, off, rfl, hc⟩ := hx.at (k := i) (by omega)
      have e1 := hc i (by omega)
      obtain ⟨k, hk⟩ : ∃ k, k = 32 * i := ⟨_, rfl⟩
      rw [← hk]
      have f1 : (k : Int) / 32 = (i : Int) := by omega
      have i0 : (0 : Int) ≤ (i : Int) := by omega
      have i1 : (i : Int) < (N : Int) := by omega
      have hkb : k ≤ 536870912 := by omega
      by_cases cx : xs.getD i 0 = 0
      · have hi2 : i + 1 < S := by
          by_cases e : i = S - 1
          · subst e; exact absurd cx htop
          · omega
        have HZ : Hid ((∀ j, j < i + 1 → xs.getD j 0 = 0) ∧ k = 32 * i) := ⟨fun j hj => by
          by_cases e : j = i
          · subst e; exact cx
          · exact hz j (by omega), hk⟩
        rw [cx] at e1
        clear HX HB hx hwx hN hR htop h0 lS hc cx hz hk
        go_wp2
        exact ⟨⟨i + 1, by have := HZ.out.2; go_num, hi2, HZ.out.1⟩, by have := HZ.out.2; simp [intOf]; omega⟩
      · have wx := hwx i
        obtain ⟨X, hX⟩ : ∃ X : Nat, (X : Int) = xs.getD i 0 := ⟨(xs.getD i 0).toNat, by omega⟩
        have HX2 : Hid (R = ctz (val xs) ∧ (∀ j, j < i → xs.getD j 0 = 0) ∧ i < xs.length ∧ (X : Int) = xs.getD i 0 ∧ X ≠ 0 ∧ X < 4294967296 ∧ k = 32 * i ∧ i < N) := ⟨hR, hz, by omega, hX, by omega, by omega, hk, by omega⟩
        rw [← hX] at e1
        have t1 : ((X : Int) == 0) = false := by simp; omega
        clear HX hx hwx hN hR htop h0 lS hc cx hz wx hX
        go_wp2
        clear e1 t1 f1 i0 i1 hk hi
        go_loop [3] (fun z => ∃ j : Nat, z = .int .i64 ((32 * i + j : Nat) : Int) ∧ j < 32 ∧ X % 2 ^ j = 0) (fun z => 32 * (i + 1) - (intOf z).toNat)
        case atStart => exact ⟨0, by simp, by omega, by simp [Nat.mod_one]⟩
        case round =>
          obtain ⟨j, rfl, hj, hm⟩ := hrel
          obtain ⟨hR, hz, hi, hX, hX0, hX32, hk, hiN⟩ := HX2.out
          have h2 := HB.out i j hiN hj
          rw [← hX, Int.toNat_natCast] at h2
          have hXd : X = X / 2 ^ j * 2 ^ j := by
            have := Nat.div_add_mod X (2 ^ j)
            rw [hm, Nat.add_zero, Nat.mul_comm] at this
            exact this.symm
          obtain ⟨Q, hQ⟩ : ∃ Q, Q = X / 2 ^ j := ⟨_, rfl⟩
          rw [← hQ] at h2 hXd
          rcases (by omega : Q % 2 = 0 ∨ Q % 2 = 1) with cq | cq
          · rw [cq] at h2
            have hj2 : j + 1 < 32 := by
              by_cases e : j = 31
              · exfalso
                subst e
                have : Q = 0 ∨ 2 ≤ Q := by omega
                rcases this with q0 | q0
                · rw [q0] at hXd; simp at hXd; exact hX0 hXd
                · have : 2 * 2 ^ 31 ≤ Q * 2 ^ 31 := Nat.mul_le_mul_right _ q0
                  omega
              · omega
            have HM : Hid (X % 2 ^ (j + 1) = 0) := by
              show X % 2 ^ (j + 1) = 0
              rw [hXd, Nat.pow_succ, Nat.mul_comm Q, Nat.mul_mod_mul_left, cq, Nat.mul_zero]
            obtain ⟨z, hz2⟩ : ∃ z, z = 32 * i + j := ⟨_, rfl⟩
            rw [← hz2] at h2 ⊢
            have hzb : z ≤ 536870944 := by omega
            have HZ : Hid (z = 32 * i + j) := hz2
            clear HX2 HB hR hz hi hX hX0 hX32 hk hiN hXd hQ cq hm hz2
            go_wp2_with fail
            refine h2.mono ?_; rintro e w' ⟨rfl, hw'⟩; obtain rfl := hw'.symm
            clear h2
            go_wp2
            exact ⟨⟨j + 1, by have := HZ.out; go_num, hj2, HM.out⟩, by have := HZ.out; simp [intOf]; omega⟩
          · rw [cq] at h2
            have hRv := ctz_val xs i Q j hz hi cq hj (by rw [← hX, Int.toNat_natCast]; exact hXd)
            rw [← hR] at hRv
            rw [← hRv] at h2 ⊢
            clear HX2 HB hR hz hi hX hX0 hX32 hk hiN hXd hQ cq hm hRv
            go_wp2_with fail
            refine h2.mono ?_; rintro e w' ⟨rfl, hw'⟩; obtain rfl := hw'.symm
            clear h2
            go_wp2
            exact bodyPost_ret (v := .int .i64 (R : Int)) (by simp [results, Tryz.results106, go_sem] <;> simp only [*]) rfl ⟨rfl, rfl⟩
end Go.Proofs.YthdnajcgdngmcaaGreatDoor
namespace Go.Proofs.YthdnajcgdngmcaaGreatDoor
open Go.RowKit
set_option maxRecDepth 20000 in
set_option maxHeartbeats 1000000 in
theorem rsmall_ (v : Nat) (hv : v < 18446744073709551616) (w : World) :
    Calls Tryz.prog 69 #[.int .u64 (v : Int)] w fun e w' => ∃ r, e = .returned r ∧ Own w' w.heap.size r (dig v) ∧ Kp w w' := by
  have f0 := and32 v hv
  obtain ⟨lo, hlo⟩ : ∃ lo : Nat, lo = v % 4294967296 := ⟨_, rfl⟩
  obtain ⟨hi, hhi⟩ : ∃ hi : Nat, hi = v / 4294967296 := ⟨_, rfl⟩
  rw [← hlo] at f0
  have f1 : IntKind.u32.wrap (lo : Int) = (lo : Int) := by rw [IntKind.wrap_u32]; omega
  have f2 : (v : Int) / 4294967296 = (hi : Int) := by omega
  have f3 : IntKind.u32.wrap (hi : Int) = (hi : Int) := by rw [IntKind.wrap_u32]; omega
  have hw : Wd [(lo : Int), (hi : Int)] := Wd.mk (by omega) (Wd.mk (by omega) Wd.nil)
  have hval : val [(lo : Int), (hi : Int)] = v := by simp [val]; omega
  have hr := row2 w (lo : Int) (hi : Int)
  have hk : Kp w (w.alloc (.cells #[.int .u32 (lo : Int), .int .u32 (hi : Int)] 80)) := (Kp.refl w).alloc _
  have hno := rnorm_ (some ⟨w.heap.size, 0, none⟩) 2 [(lo : Int), (hi : Int)] _ (by simpa using hr.arr 2 (Nat.le_refl _) (by simp)) (by simp)
  rw [nz_dig _ hw, hval] at hno
  obtain ⟨Z, hZ⟩ : ∃ Z, Z = dig v := ⟨_, rfl⟩
  rw [← hZ] at hno ⊢
  have hno2 : Calls Tryz.prog 105 #[.slice (some ⟨w.heap.size, 0, none⟩) 2 2] (w.alloc (.cells #[.int .u32 (lo : Int), .int .u32 (hi : Int)] 80)) fun e w' => ∃ v, e = .returned v ∧ Own w' (w.alloc (.cells #[.int .u32 (lo : Int), .int .u32 (hi : Int)] 80)).heap.size v Z ∧ Kp (w.alloc (.cells #[.int .u32 (lo : Int), .int .u32 (hi : Int)] 80)) w' := hno
  clear hno hZ hval hw hlo hhi hv hr
  go_enter Tryz.func69, Tryz.ntmps69
  go_wp2_with fail
  refine hno2.mono ?_; rintro e w1 ⟨r, rfl, hO, hk2⟩
  have hO2 := hO.mono hk.size
  have hk3 := hk.trans hk2
  clear hno2 hO hk hk2
  go_wp2
  exact bodyPost_ret (v := r) (by simp [results, Tryz.results69, go_sem] <;> simp only [*]) rfl ⟨_, rfl, hO2, hk3⟩
end Go.Proofs.YthdnajcgdngmcaaGreatDoor
namespace Go.Proofs.YthdnajcgdngmcaaGreatDoor
open Go.RowKit
theorem Own.setOther {w : World} {base : Nat} {v : Value} {xs : List Int} (h : Own w base v xs) {a : Addr} (ha : a.block < base) (u : Value) : Own (w.setCell a u) base v xs := by
  refine ⟨h.1, ?_⟩
  rcases h.2 with h' | ⟨g, cap, cur, h1, h2, h3, h4⟩
  · exact Or.inl h'
  · refine Or.inr ⟨g, cap, cur, h1, h2, ?_, h4⟩
    rw [← h3]
    simp only [World.setCell, Array.getElem?_modify]
    rw [if_neg (by omega)]
end Go.Proofs.YthdnajcgdngmcaaGreatDoor
namespace Go.Proofs.YthdnajcgdngmcaaGreatDoor
open Go.RowKit
set_option maxRecDepth 20000 in
set_option maxHeartbeats 1000000 in
theorem rleft_ (p : Option Addr) (c m : Nat) (xs : List Int) (w : World) (hx : Arr w p xs) (hwx : Wd xs) (lx : xs.length ≤ 1048576) (hm : m ≤ 16777216) :
    Calls Tryz.prog 108 #[.slice p xs.length c, .int .i64 (m : Int)] w fun e w' => ∃ v, e = .returned v ∧ Own w' w.heap.size v (dig (val xs * 2 ^ m)) ∧ Kp w w' := by
  have h1 := words_ p c xs w hx (by omega)
  have lS := tl_le xs
  have hvx := val_tl xs
  obtain ⟨N, hN⟩ : ∃ N, N = xs.length := ⟨_, rfl⟩
  obtain ⟨S, hS⟩ : ∃ S, S = tl xs := ⟨_, rfl⟩
  rw [← hS] at h1 lS hvx
  rw [← hN] at h1 lS lx ⊢
  rcases Nat.eq_zero_or_pos S with h0 | h0
  · subst h0
    have e0 : val xs = 0 := by rw [← hvx]; rfl
    rw [e0, Nat.zero_mul, dig_zero]
    clear hx hwx lx lS hN hS hvx e0 hm
    go_enter Tryz.func108, Tryz.ntmps108
    go_wp2_with fail
    refine h1.mono ?_; rintro e w' ⟨rfl, hw'⟩; obtain rfl := hw'.symm
    go_wp2
    exact bodyPost_ret (v := .slice none 0 0) (by simp [results, Tryz.results108, go_sem] <;> simp only [*]) rfl ⟨_, rfl, Own.nil _ _, Kp.refl _⟩
  · obtain ⟨o, ho⟩ : ∃ o, o = m / 32 := ⟨_, rfl⟩
    obtain ⟨s, hs⟩ : ∃ s, s = m % 32 := ⟨_, rfl⟩
    obtain ⟨L, hL⟩ : ∃ L, L = o + S + 1 := ⟨_, rfl⟩
    have hps := pow_split m
    rw [← ho, ← hs] at hps
    have hmk : ∀ w : World, (Instr.makeSlice 47 (.int .i64 ((o : Int) + (S : Int) + 1)) (.int .i64 ((o : Int) + (S : Int) + 1))).run Tryz.prog w = .ok (.slice (some ⟨w.heap.size, 0, none⟩) L L) (w.alloc (.cells (madeCells #[.int .u32 0] L) 80)) := by
      have := mk32 L (by omega)
      have e : ((L : Nat) : Int) = (o : Int) + (S : Int) + 1 := by omega
      rw [e] at this
      exact this
    have hk1 : Kp w (w.alloc (.cells (madeCells #[.int .u32 0] L) 80)) := (Kp.refl w).alloc _
    have hrz : Rw (w.alloc (.cells (madeCells #[.int .u32 0] L) 80)) w.heap.size L (List.replicate L 0) := World.rowIs.congr (World.rowIs_made w (.int .u32 0) L 80) (fun j _ => by rw [rep0_getD])
    obtain ⟨zs0, hz0⟩ : ∃ zs0, zs0 = List.replicate L (0 : Int) := ⟨_, rfl⟩
    have hzl0 : zs0.length = L := by rw [hz0]; simp
    have hwz0 : Wd zs0 := by rw [hz0]; exact Wd_rep0 _
    have hzz0 : ∀ j, zs0.getD j 0 = 0 := fun j => by rw [hz0]; exact rep0_getD _ _
    have hvz0 := val_zeros zs0 hzz0
    rw [← hz0] at hrz
    obtain ⟨g, hg⟩ : ∃ g, g = w.heap.size := ⟨_, rfl⟩
    rw [← hg] at hrz
    have f1 : (m : Int) / 32 = (o : Int) := by omega
    have f2 : (m : Int) % 32 = (s : Int) := by omega
    have f3 : IntKind.u64.wrap (s : Int) = (s : Int) := by rw [IntKind.wrap_u64]; omega
    have t0 : ((S : Int) == 0) = false := by simp; omega
    have i00 : (0 : Int) ≤ (s : Int) := by omega
    have lS2 : S ≤ 1048576 := by omega
    have lo : o ≤ 524288 := by omega
    have HX : Hid (Arr w p xs ∧ Wd xs ∧ val (xs.take S) = val xs ∧ N = xs.length ∧ S ≤ N ∧ L = o + S + 1 ∧ s < 32 ∧ g = w.heap.size ∧ 2 ^ s * 4294967296 ^ o = 2 ^ m) := ⟨hx, hwx, hvx, hN, lS, hL, by omega, hg, hps⟩
    clear hx hwx hN hS hvx lS hL ho hs hps hz0 lx h0 hm
    go_enter Tryz.func108, Tryz.ntmps108
    go_wp2_with fail
    refine h1.mono ?_; rintro e w' ⟨rfl, hw'⟩; obtain rfl := hw'.symm
    clear h1
    go_wp2
    rw [← hg]
    clear hmk hg t0
    go_loopw [8] (fun i wr => ∃ (k C : Nat) (us : List Int), i = .int .i64 k ∧ k ≤ S ∧ Rw wr g L us ∧ us.length = L ∧ Wd us ∧ us.getD (o + k) 0 = (C : Int) ∧ C < 2 ^ s ∧ val us = val (xs.take k) * 2 ^ s * 4294967296 ^ o ∧ (∀ j, o + k < j → us.getD j 0 = 0) ∧ Kp w wr) (fun i _ => S - (intOf i).toNat)
    case atStart => exact ⟨0, 0, zs0, rfl, Nat.zero_le _, hrz, hzl0, hwz0, hzz0 _, Nat.two_pow_pos s, by rw [hvz0]; simp [val], fun j _ => hzz0 j, hk1⟩
    case round =>
      clear hrz hzl0 hwz0 hzz0 hvz0 hk1
      obtain ⟨k, C, us, rfl, hk, hrow, hul, hwu, hCe, hC, hv, hz, hkp⟩ := hrel
      obtain ⟨hx, hwx, hvx, hN, lS, hL, hs, hg, hps⟩ := HX.out
      by_cases ck : k < S
      · obtain ⟨b, off, rfl, hc⟩ := hx.at (k := k) (by omega)
        have e0 := hc k (by omega)
        have e1 := kkeep hkp e0
        have wx := hwx k
        obtain ⟨X, hX⟩ : ∃ X : Nat, (X : Int) = xs.getD k 0 := ⟨(xs.getD k 0).toNat, by omega⟩
        rw [← hX] at e1
        have h2s : 2 ^ s ≤ 2147483648 := by
          have := Nat.pow_le_pow_right (show 0 < 2 by decide) (show s ≤ 31 by omega)
          exact Nat.le_trans this (by decide)
        have hX32 : X < 4294967296 := by omega
        obtain ⟨w1, w2, w3, w4⟩ := shl_word X C s hs hX32 hC
        have hV63 : X * 2 ^ s < 18446744073709551616 := by
          have a1 : X * 2 ^ s ≤ 4294967295 * 2147483648 := Nat.mul_le_mul (by omega) h2s
          omega
        have hhi : X * 2 ^ s / 4294967296 = X / 2 ^ (32 - s) := by omega
        obtain ⟨V, hV⟩ : ∃ V, V = X * 2 ^ s := ⟨_, rfl⟩
        obtain ⟨H, hH⟩ : ∃ H, H = X / 2 ^ (32 - s) := ⟨_, rfl⟩
        rw [← hV] at w1 w2 w4 hV63 hhi
        rw [← hH] at w3 w4 hhi
        have f4 : IntKind.u64.wrap (X : Int) = (X : Int) := by rw [IntKind.wrap_u64]; omega
        have f5 : IntKind.u64.wrap ((X : Int) * 2 ^ s) = (V : Int) := by
          have : (X : Int) * 2 ^ s = (V : Int) := by rw [hV, Int.natCast_mul, Int.natCast_pow]; rfl
          rw [this, IntKind.wrap_u64]; omega
        have f6 := and32 V hV63
        obtain ⟨Y, hY⟩ : ∃ Y, Y = V % 4294967296 := ⟨_, rfl⟩
        rw [← hY] at f6 w1 w2 w4
        have f7 : IntKind.u32.wrap (Y : Int) = (Y : Int) := by rw [IntKind.wrap_u32]; omega
        have f8 := u32_or_nat C Y (by omega) (by omega)
        rw [Nat.or_comm, w1] at f8
        have f9 : (V : Int) / 4294967296 = (H : Int) := by omega
        have f10 : IntKind.u32.wrap (H : Int) = (H : Int) := by rw [IntKind.wrap_u32]; omega
        obtain ⟨Z, hZ⟩ : ∃ Z, Z = Y + C := ⟨_, rfl⟩
        rw [← hZ] at f8 w2 w4
        have hv1 := val_set us (o + k) (Z : Int) (by omega)
        rw [hCe, Int.toNat_natCast, Int.toNat_natCast] at hv1
        have hg1 : (us.set (o + k) (Z : Int)).getD (o + k + 1) 0 = 0 := by
          have e2 : (us.set (o + k) (Z : Int)).getD (o + k + 1) 0 = us.getD (o + k + 1) 0 := by simp [List.getD]
          rw [e2]; exact hz _ (by omega)
        have hv2 := val_set (us.set (o + k) (Z : Int)) (o + k + 1) (H : Int) (by rw [List.length_set]; omega)
        rw [hg1, Int.toNat_natCast] at hv2
        have hg2 := mul_grow xs (2 ^ s) o k
        rw [show (xs.getD k 0).toNat = X from by omega, ← hV] at hg2
        have hval : val ((us.set (o + k) (Z : Int)).set (o + k + 1) (H : Int)) = val (xs.take (k + 1)) * 2 ^ s * 4294967296 ^ o := by
          rw [hg2, ← hv]
          rw [Nat.pow_succ] at hv2
          generalize 4294967296 ^ (o + k) = P at hv1 hv2 ⊢
          have e := congrArg (· * P) w4
          simp only [Nat.add_mul] at e
          have e3 : H * (P * 4294967296) = 4294967296 * H * P := by simp only [Nat.mul_comm, Nat.mul_left_comm]
          simp at hv2
          omega
        have hw2 : Wd ((us.set (o + k) (Z : Int)).set (o + k + 1) (H : Int)) := (hwu.set (o + k) Z (by omega)).set _ _ (by omega)
        have hl2 : ((us.set (o + k) (Z : Int)).set (o + k + 1) (H : Int)).length = L := by rw [List.length_set, List.length_set]; exact hul
        have hH2 : ((us.set (o + k) (Z : Int)).set (o + k + 1) (H : Int)).getD (o + (k + 1)) 0 = (H : Int) := by
          rw [← Nat.add_assoc]; simp [List.getD, show o + k + 1 < us.length from by omega]
        have hz2 : ∀ j, o + (k + 1) < j → ((us.set (o + k) (Z : Int)).set (o + k + 1) (H : Int)).getD j 0 = 0 := fun j h1 => by
          have e1 : ((us.set (o + k) (Z : Int)).set (o + k + 1) (H : Int)).getD j 0 = us.getD j 0 := by simp [List.getD, show ¬ o + k = j from by omega, show ¬ o + k + 1 = j from by omega]
          rw [e1]; exact hz j (by omega)
        have e3 := World.rowIs.cell hrow (i := o + k) (by omega)
        rw [hCe] at e3
        have e4 := World.rowIs.frozen hrow (o + k)
        have hR1 := hrow.set (o + k) (Z : Int) (by omega)
        have e5 := World.rowIs.cell hR1 (i := o + k + 1) (by omega)
        have e6 := World.rowIs.frozen hR1 (o + k + 1)
        have hR2 := hR1.set (o + k + 1) (H : Int) (by rw [List.length_set]; omega)
        have hgw : w.heap.size ≤ g := by omega
        have hK := (hkp.setCell (p := ⟨g, o + k, none⟩) hgw (.int .u32 (Z : Int))).setCell (p := ⟨g, o + k + 1, none⟩) hgw (.int .u32 (H : Int))
        have i0 : (0 : Int) ≤ (k : Int) := by omega
        have i1 : (k : Int) < (S : Int) := by omega
        have i2 : (k : Int) < (N : Int) := by omega
        have i3 : (0 : Int) ≤ (o : Int) + (k : Int) := by omega
        have i4 : (o : Int) + (k : Int) < (L : Int) := by omega
        have i5 : (0 : Int) ≤ (o : Int) + (k : Int) + 1 := by omega
        have i6 : (o : Int) + (k : Int) + 1 < (L : Int) := by omega
        have HH : Hid (H < 2 ^ s) := w3
        clear HX hx hwx hvx hN lS hL hs hg hps hc e0 wx hX hV hH hY hZ hCe hC hv hz hrow hul hwu hkp h2s hV63 hhi w1 w2 w3 w4 hv1 hv2 hg1 hg2 hR1 hX32
        go_wp2
        exact ⟨⟨k + 1, H, (us.set (o + k) (Z : Int)).set (o + k + 1) (H : Int), by go_num, by omega, hR2, hl2, hw2, hH2, HH.out, hval, hz2, hK⟩, by simp [intOf]; omega⟩
      · have hkS : k = S := by omega
        subst hkS
        rw [hvx, Nat.mul_assoc, hps] at hv
        have hA := hrow.arr L (Nat.le_refl _) (by omega)
        rw [List.take_of_length_le (by omega)] at hA
        have hno := rnorm_ (some ⟨g, 0, none⟩) L us wr hA (by omega)
        rw [nz_dig us hwu, hv, hul] at hno
        have hsz := hkp.size
        have i1 : ¬ ((k : Int) < (k : Int)) := by omega
        clear HX hx hwx hvx hN lS hL hs hg hps hA hrow hul hwu hCe hC hv hz hk ck
        go_wp2_with fail
        refine hno.mono ?_
        rintro e w2 ⟨v2, rfl, hO2, hk2⟩
        clear hno
        go_wp2
        exact bodyPost_ret (v := v2) (by simp [results, Tryz.results108, go_sem] <;> simp only [*]) rfl ⟨v2, rfl, hO2.mono hsz, hkp.trans hk2⟩
end Go.Proofs.YthdnajcgdngmcaaGreatDoor
namespace Go.Proofs.YthdnajcgdngmcaaGreatDoor
open Go.RowKit
set_option maxRecDepth 20000 in
set_option maxHeartbeats 1000000 in
theorem rcmp_ (p q : Option Addr) (c d : Nat) (xs ys : List Int) (w : World) (hx : Arr w p xs) (hy : Arr w q ys) (hwx : Wd xs) (hwy : Wd ys) (lx : xs.length ≤ 1099511627776) (ly : ys.length ≤ 1099511627776) :
    Calls Tryz.prog 72 #[.slice p xs.length c, .slice q ys.length d] w fun e w' => e = .returned (.int .i64 (cmpN (val xs) (val ys))) ∧ Kp w w' := by
  have h1 := words_ p c xs w hx lx
  have h2 := words_ q d ys w hy ly
  have lS := tl_le xs
  have lT := tl_le ys
  have hg : Kp w w := Kp.refl w
  have dlt := fun h => cmpN_lt (tl_lt_val xs ys hwx hwy h)
  have dgt := fun h => cmpN_gt (tl_lt_val ys xs hwy hwx h)
  have deq : tl xs = tl ys → (∀ j, j < tl xs → xs.getD j 0 = ys.getD j 0) → cmpN (val xs) (val ys) = 0 := fun e h => by
    apply cmpN_eq
    rw [← val_tl xs, ← val_tl ys, ← e]
    exact cmp_all xs ys _ h
  have tlt : ∀ k, tl xs = tl ys → k < tl xs → xs.getD k 0 < ys.getD k 0 → (∀ j, k < j → j < tl xs → xs.getD j 0 = ys.getD j 0) → cmpN (val xs) (val ys) = -1 := fun k e h1 h2 h3 => by
    apply cmpN_lt
    rw [← val_tl xs, ← val_tl ys, ← e]
    exact cmp_top xs ys hwx k (hwx k).1 h2 _ h1 h3
  have tgt : ∀ k, tl xs = tl ys → k < tl xs → ys.getD k 0 < xs.getD k 0 → (∀ j, k < j → j < tl xs → xs.getD j 0 = ys.getD j 0) → cmpN (val xs) (val ys) = 1 := fun k e h1 h2 h3 => by
    apply cmpN_gt
    rw [← val_tl xs, ← val_tl ys, ← e]
    exact cmp_top ys xs hwy k (hwy k).1 h2 _ h1 (fun j a b => (h3 j a b).symm)
  obtain ⟨R, hR⟩ : ∃ R, R = cmpN (val xs) (val ys) := ⟨_, rfl⟩
  obtain ⟨N, hN⟩ : ∃ N, N = xs.length := ⟨_, rfl⟩
  obtain ⟨M, hM⟩ : ∃ M, M = ys.length := ⟨_, rfl⟩
  obtain ⟨S, hS⟩ : ∃ S, S = tl xs := ⟨_, rfl⟩
  obtain ⟨T, hT⟩ : ∃ T, T = tl ys := ⟨_, rfl⟩
  rw [← hS, ← hN] at h1 lS
  rw [← hT, ← hM] at h2 lT
  rw [← hS, ← hT, ← hR] at dlt dgt deq tlt tgt
  rw [← hN, ← hM, ← hR]
  have HX : Hid (Arr w p xs) := hx
  have HY : Hid (Arr w q ys) := hy
  have HN : Hid (N = xs.length ∧ M = ys.length) := ⟨hN, hM⟩
  have lS2 : S ≤ 1099511627776 := by omega
  clear hx hy hwx hwy lx ly hN hM hS hT hR
  rcases Nat.lt_trichotomy S T with cST | cST | cST
  · rw [dlt cST]
    have t1 : (S : Int) < (T : Int) := by omega
    clear dlt dgt deq tlt tgt HX HY HN cST lS lT
    go_enter Tryz.func72, Tryz.ntmps72
    go_wp2_with fail
    refine h1.mono ?_; rintro e w' ⟨rfl, hw'⟩; obtain rfl := hw'.symm
    go_wp2_with fail
    refine h2.mono ?_; rintro e w' ⟨rfl, hw'⟩; obtain rfl := hw'.symm
    go_wp2
    exact bodyPost_ret (v := .int .i64 (-1)) (by simp [results, Tryz.results72, go_sem] <;> simp only [*]) rfl ⟨rfl, hg⟩
  · subst cST
    have t1 : ¬ ((S : Int) < (S : Int)) := by omega
    have HD : Hid ((∀ j, j < S → xs.getD j 0 = ys.getD j 0) → R = 0) := deq rfl
    have HL : Hid (∀ k, k < S → xs.getD k 0 < ys.getD k 0 → (∀ j, k < j → j < S → xs.getD j 0 = ys.getD j 0) → R = -1) := fun k => tlt k rfl
    have HR : Hid (∀ k, k < S → ys.getD k 0 < xs.getD k 0 → (∀ j, k < j → j < S → xs.getD j 0 = ys.getD j 0) → R = 1) := fun k => tgt k rfl
    clear dlt dgt deq tlt tgt
    go_enter Tryz.func72, Tryz.ntmps72
    go_wp2_with fail
    refine h1.mono ?_; rintro e w' ⟨rfl, hw'⟩; obtain rfl := hw'.symm
    go_wp2_with fail
    refine h2.mono ?_; rintro e w' ⟨rfl, hw'⟩; obtain rfl := hw'.symm
    clear h1 h2
    go_wp2
    clear t1
    go_loopw [7] (fun i wr => ∃ (k : Nat) (z : Int), k ≤ S ∧ z = (k : Int) - 1 ∧ i = .int .i64 z ∧ Kp w wr ∧ ∀ j, k ≤ j → j < S → xs.getD j 0 = ys.getD j 0) (fun i _ => (intOf i + 1).toNat)
    case atStart => exact ⟨S, _, Nat.le_refl _, rfl, by go_num, hg, fun j _ _ => by omega⟩
    case round =>
      clear hg
      obtain ⟨k, z, hk, hz, rfl, hg, hs⟩ := hrel
      rcases k with _ | k
      · have hR0 := HD.out (fun j hj => hs j (Nat.zero_le _) hj)
        subst hR0
        have hz0 : z = -1 := by omega
        subst hz0
        clear hz HX HY HN HD HL HR hs hk lS lT
        go_wp2
        exact bodyPost_ret (v := .int .i64 (0)) (by simp [results, Tryz.results72, go_sem] <;> simp only [*]) rfl ⟨rfl, hg⟩
      · have hz0 : z = (k : Int) := by omega
        subst hz0
        obtain ⟨hN, hM⟩ := HN.out
        obtain ⟨b, off, rfl, hc⟩ := HX.out.at (k := k) (by omega)
        obtain ⟨b', off', rfl, hc'⟩ := HY.out.at (k := k) (by omega)
        have e1 := kkeep hg (hc k (by omega))
        have e2 := kkeep hg (hc' k (by omega))
        have i0 : (0 : Int) ≤ (k : Int) := by omega
        have i1 : (k : Int) < (N : Int) := by omega
        have i2 : (k : Int) < (M : Int) := by omega
        have rl := fun h => HL.out k (by omega) h (fun j a b => hs j (by omega) b)
        have rg := fun h => HR.out k (by omega) h (fun j a b => hs j (by omega) b)
        have re : xs.getD k 0 = ys.getD k 0 → ∀ j, k ≤ j → j < S → xs.getD j 0 = ys.getD j 0 := fun h j a b => by
          by_cases e : j = k
          · subst e; exact h
          · exact hs j (by omega) b
        obtain ⟨X, hX⟩ : ∃ X, X = xs.getD k 0 := ⟨_, rfl⟩
        obtain ⟨Y, hY⟩ : ∃ Y, Y = ys.getD k 0 := ⟨_, rfl⟩
        rw [← hX] at e1 rl rg re
        rw [← hY] at e2 rl rg re
        have hk2 : k ≤ S := by omega
        clear hc hc' HX HY HN HD HL HR hs hN hM hX hY hz hk lS lT
        rcases (by omega : X < Y ∨ Y < X ∨ X = Y) with cx | cx | cx
        · have hR1 := rl cx
          subst hR1
          clear rl rg re
          go_wp2
          refine wp_region_kp (by kernel_rfl) (by kernel_rfl) (fun ι _ G hG hall => ?_)
          have c0 : ∀ n, (G n).cell? ⟨b, off + k, none⟩ = some (.int .u32 X) := fun n => kkeep (hG n) e1
          have c1 : ∀ n, (G n).cell? ⟨b', off' + k, none⟩ = some (.int .u32 Y) := fun n => kkeep (hG n) e2
          repeat (go_big_quiet_step (fail))
          refine wpQuiet_nil ?_
          rintro _ ⟨nq, rfl⟩
          have gq := hG nq
          replace e1 := kkeep gq e1
          replace e2 := kkeep gq e2
          replace hg := hg.trans gq
          clear c0 c1 hall hG gq
          go_wp2
          exact bodyPost_ret (v := .int .i64 (-1)) (by simp [results, Tryz.results72, go_sem] <;> simp only [*]) rfl ⟨rfl, hg⟩
        · have hR1 := rg cx
          subst hR1
          have cy : ¬ (X < Y) := by omega
          clear rl rg re
          go_wp2
          refine wp_region_kp (by kernel_rfl) (by kernel_rfl) (fun ι _ G hG hall => ?_)
          have c0 : ∀ n, (G n).cell? ⟨b, off + k, none⟩ = some (.int .u32 X) := fun n => kkeep (hG n) e1
          have c1 : ∀ n, (G n).cell? ⟨b', off' + k, none⟩ = some (.int .u32 Y) := fun n => kkeep (hG n) e2
          repeat (go_big_quiet_step (fail))
          refine wpQuiet_nil ?_
          rintro _ ⟨nq, rfl⟩
          have gq := hG nq
          replace e1 := kkeep gq e1
          replace e2 := kkeep gq e2
          replace hg := hg.trans gq
          clear c0 c1 hall hG gq
          go_wp2
          refine wp_region_kp (by kernel_rfl) (by kernel_rfl) (fun ι2 _ G2 hG hall => ?_)
          have c0 : ∀ n, (G2 n).cell? ⟨b, off + k, none⟩ = some (.int .u32 X) := fun n => kkeep (hG n) e1
          have c1 : ∀ n, (G2 n).cell? ⟨b', off' + k, none⟩ = some (.int .u32 Y) := fun n => kkeep (hG n) e2
          repeat (go_big_quiet_step (fail))
          refine wpQuiet_nil ?_
          rintro _ ⟨nq2, rfl⟩
          have gq := hG nq2
          replace e1 := kkeep gq e1
          replace e2 := kkeep gq e2
          replace hg := hg.trans gq
          clear c0 c1 hall hG gq
          go_wp2
          exact bodyPost_ret (v := .int .i64 (1)) (by simp [results, Tryz.results72, go_sem] <;> simp only [*]) rfl ⟨rfl, hg⟩
        · have hs2 := re cx
          subst cx
          have cy : ¬ (X < X) := by omega
          clear rl rg re
          go_wp2
          refine wp_region_kp (by kernel_rfl) (by kernel_rfl) (fun ι _ G hG hall => ?_)
          have c0 : ∀ n, (G n).cell? ⟨b, off + k, none⟩ = some (.int .u32 X) := fun n => kkeep (hG n) e1
          have c1 : ∀ n, (G n).cell? ⟨b', off' + k, none⟩ = some (.int .u32 X) := fun n => kkeep (hG n) e2
          repeat (go_big_quiet_step (fail))
          refine wpQuiet_nil ?_
          rintro _ ⟨nq, rfl⟩
          have gq := hG nq
          replace e1 := kkeep gq e1
          replace e2 := kkeep gq e2
          replace hg := hg.trans gq
          clear c0 c1 hall hG gq
          go_wp2
          refine wp_region_kp (by kernel_rfl) (by kernel_rfl) (fun ι2 _ G2 hG hall => ?_)
          have c0 : ∀ n, (G2 n).cell? ⟨b, off + k, none⟩ = some (.int .u32 X) := fun n => kkeep (hG n) e1
          have c1 : ∀ n, (G2 n).cell? ⟨b', off' + k, none⟩ = some (.int .u32 X) := fun n => kkeep (hG n) e2
          repeat (go_big_quiet_step (fail))
          refine wpQuiet_nil ?_
          rintro _ ⟨nq2, rfl⟩
          have gq := hG nq2
          replace e1 := kkeep gq e1
          replace e2 := kkeep gq e2
          replace hg := hg.trans gq
          clear c0 c1 hall hG gq
          go_wp2
          exact ⟨⟨k, _, hk2, rfl, by go_num, hg, hs2⟩, by simp [intOf]⟩
  · rw [dgt cST]
    have t1 : ¬ ((S : Int) < (T : Int)) := by omega
    have t2 : (T : Int) < (S : Int) := by omega
    clear dlt dgt deq tlt tgt HX HY HN cST lS lT
    go_enter Tryz.func72, Tryz.ntmps72
    go_wp2_with fail
    refine h1.mono ?_; rintro e w' ⟨rfl, hw'⟩; obtain rfl := hw'.symm
    go_wp2_with fail
    refine h2.mono ?_; rintro e w' ⟨rfl, hw'⟩; obtain rfl := hw'.symm
    go_wp2
    exact bodyPost_ret (v := .int .i64 (1)) (by simp [results, Tryz.results72, go_sem] <;> simp only [*]) rfl ⟨rfl, hg⟩
end Go.Proofs.YthdnajcgdngmcaaGreatDoor
namespace Go.Proofs.YthdnajcgdngmcaaGreatDoor
open Go.RowKit
set_option maxRecDepth 20000 in
set_option maxHeartbeats 3000000 in
theorem rright_ (p : Option Addr) (c m : Nat) (xs : List Int) (w : World) (hx : Arr w p xs) (hwx : Wd xs) (lx : xs.length ≤ 1048576) (hm9 : (m : Int) < 9223372036854775808) :
    Calls Tryz.prog 107 #[.slice p xs.length c, .int .i64 (m : Int)] w fun e w' => ∃ v, e = .returned (.tuple #[v, .bool (decide (val xs % 2 ^ m ≠ 0))]) ∧ Own w' w.heap.size v (dig (val xs / 2 ^ m)) ∧ Kp w w' := by
  have h1 := words_ p c xs w hx (by omega)
  have lS := tl_le xs
  obtain ⟨o, ho⟩ : ∃ o, o = m / 32 := ⟨_, rfl⟩
  obtain ⟨s, hs⟩ : ∃ s, s = m % 32 := ⟨_, rfl⟩
  have hpd := pow_div (val xs) m
  rw [← ho, ← hs] at hpd
  have hps := pow_split m
  rw [← ho, ← hs, Nat.mul_comm] at hps
  have hs32 : s < 32 := by omega
  have f1 : (m : Int) / 32 = (o : Int) := by omega
  have f2 : (m : Int) % 32 = (s : Int) := by omega
  have hz0 : tl xs = 0 → val xs = 0 := fun h => by rw [← val_tl xs, h]; rfl
  have hz1 : tl xs ≠ 0 → val xs ≠ 0 := fun h h2 => by
    have := val_ge_tl xs hwx 0 (by omega)
    rw [h2] at this
    simp at this
  rcases Nat.eq_zero_or_pos (tl xs) with h0 | h0
  · have e0 := hz0 h0
    rw [e0, Nat.zero_mod, Nat.zero_div, dig_zero]
    rw [h0] at h1
    obtain ⟨N, hN⟩ : ∃ N, N = xs.length := ⟨_, rfl⟩
    rw [← hN] at h1 ⊢
    have hb : decide ((0 : Nat) ≠ 0) = false := by simp
    rw [hb]
    clear hx hwx lx lS hN h0 e0 hz0 hz1 hpd hps hs32 ho hs hm9 hb
    go_enter Tryz.func107, Tryz.ntmps107
    go_wp2_with fail
    refine h1.mono ?_; rintro e w' ⟨rfl, hw'⟩; obtain rfl := hw'.symm
    go_wp2
    exact bodyPost_ret (v := .tuple #[.slice none 0 0, .bool false]) (by simp [results, Tryz.results107, go_sem] <;> simp only [*]) rfl ⟨_, rfl, Own.nil _ _, Kp.refl _⟩
  have hv0 := hz1 (by omega)
  by_cases co : tl xs ≤ o
  · have hlt : val xs < 4294967296 ^ o := by
      have h2 := val_take_lt xs hwx (tl xs)
      rw [val_tl] at h2
      exact Nat.lt_of_lt_of_le h2 (Nat.pow_le_pow_right (by decide) co)
    have e0 : val xs / 2 ^ m = 0 := by rw [hpd, Nat.div_eq_of_lt hlt, Nat.zero_div]
    have e2 : val xs % 2 ^ m = val xs := Nat.mod_eq_of_lt (by rw [← hps]; exact Nat.lt_of_lt_of_le hlt (Nat.le_mul_of_pos_right _ (Nat.two_pow_pos s)))
    have hb : decide (val xs % 2 ^ m ≠ 0) = true := decide_eq_true (by rw [e2]; exact hv0)
    rw [e0, hb, dig_zero]
    obtain ⟨N, hN⟩ : ∃ N, N = xs.length := ⟨_, rfl⟩
    obtain ⟨S, hS⟩ : ∃ S, S = tl xs := ⟨_, rfl⟩
    rw [← hN, ← hS] at h1
    rw [← hN]
    rw [← hS] at co h0
    have t0 : ((S : Int) == 0) = false := by simp; omega
    have t1 : (S : Int) ≤ (o : Int) := by omega
    have f3 := w64 (o : Int) (Int.natCast_nonneg _) (by omega)
    clear hx hwx lx lS hN h0 e0 hz0 hz1 hpd hps hs32 ho hs hm9 hb hS co hv0 hlt e2
    go_enter Tryz.func107, Tryz.ntmps107
    go_wp2_with fail
    refine h1.mono ?_; rintro e w' ⟨rfl, hw'⟩; obtain rfl := hw'.symm
    go_wp2
    exact bodyPost_ret (v := .tuple #[.slice none 0 0, .bool true]) (by simp [results, Tryz.results107, go_sem] <;> simp only [*]) rfl ⟨_, rfl, Own.nil _ _, Kp.refl _⟩
  obtain ⟨b, off, rfl, hcx⟩ := hx.at (k := 0) (by omega)
  have hnl := nz_length xs
  have hg : ∀ j, j < tl xs → (nz xs).getD j 0 = xs.getD j 0 := fun j hj => by unfold nz; simp [List.getD, hj]
  have hvn := val_nz xs
  have hwn : Wd (nz xs) := hwx.take _
  obtain ⟨zs, hzs⟩ : ∃ zs, zs = nz xs := ⟨_, rfl⟩
  rw [← hzs] at hnl hg hvn hwn
  rw [← hvn] at hpd ⊢
  have hc : ∀ j, j < zs.length → w.cell? ⟨b, off + j, none⟩ = some (.int .u32 (zs.getD j 0)) := fun j hj => by rw [hg j (by omega)]; exact hcx j (by omega)
  obtain ⟨S, hS⟩ : ∃ S, S = tl xs := ⟨_, rfl⟩
  obtain ⟨N, hN⟩ : ∃ N, N = xs.length := ⟨_, rfl⟩
  rw [← hS] at h1 lS co h0 hnl
  rw [← hN] at h1 lS lx ⊢
  have wX := hwn o
  obtain ⟨X0, hX0⟩ : ∃ X0 : Nat, zs.getD o 0 = (X0 : Int) := ⟨(zs.getD o 0).toNat, by omega⟩
  have hlm := lost_mod zs hwn o s X0 hs32 (by omega) hX0
  rw [hps] at hlm
  have hlw := lost_word X0 s hs32
  rw [(val_div zs hwn o (by omega)).1] at hpd
  have hyl : (zs.drop o).length = S - o := by rw [List.length_drop, hnl]
  have hwy := hwn.drop o
  have hyz : ∀ j, (zs.drop o).getD j 0 = zs.getD (o + j) 0 := fun j => by simp [List.getD, List.getElem?_drop]
  obtain ⟨ys, hys⟩ : ∃ ys, ys = zs.drop o := ⟨_, rfl⟩
  rw [← hys] at hpd hyl hwy hyz
  rw [hpd]
  obtain ⟨RB, hRB⟩ : ∃ RB, RB = decide (val zs % 2 ^ m ≠ 0) := ⟨_, rfl⟩
  rw [← hRB]
  have e1 := hc o (by omega)
  rw [hX0] at e1
  obtain ⟨A1, hA1⟩ : ∃ A1, A1 = X0 * 2 ^ (31 - s) % 4294967296 := ⟨_, rfl⟩
  rw [← hA1] at hlw
  have f4 : IntKind.u32.wrap ((X0 : Int) * 2 ^ (31 - s)) = (A1 : Int) := by rw [IntKind.wrap_u32, hA1]; exact (cast_shl X0 (31 - s)).symm
  obtain ⟨A2, hA2⟩ : ∃ A2, A2 = A1 * 2 % 4294967296 := ⟨_, rfl⟩
  have f5 : IntKind.u32.wrap ((A1 : Int) * 2) = (A2 : Int) := by rw [IntKind.wrap_u32, hA2]; omega
  rw [← hA2] at hlw
  have f6 : IntKind.u64.wrap (s : Int) = (s : Int) := by rw [IntKind.wrap_u64]; omega
  have f7 : IntKind.u64.wrap (31 - (s : Int)) = 31 - (s : Int) := by rw [IntKind.wrap_u64]; omega
  have i11 : (31 - (s : Int)).toNat = 31 - s := by omega
  have i10 : (0 : Int) ≤ 31 - (s : Int) := by omega
  have i9 : (0 : Int) ≤ (s : Int) := by omega
  have t0 : ((S : Int) == 0) = false := by simp; omega
  have t1 : ¬ ((S : Int) ≤ (o : Int)) := by omega
  have iz : (0 : Int) ≤ (o : Int) := by omega
  have i1 : (o : Int) < (N : Int) := by omega
  have lo : o ≤ 1048576 := by omega
  have hlost : ∃ LB : Bool, LB = decide (X0 % 2 ^ s ≠ 0) ∧ ((A2 : Int) != 0) = LB ∧ (LB = true → (0 : Int) < (s : Int)) := by
    refine ⟨_, rfl, ?_, fun h => ?_⟩
    · by_cases e : X0 % 2 ^ s = 0
      · have : A2 = 0 := by rw [hlw, e, Nat.zero_mul]
        simp [e, this]
      · have : 0 < A2 := by rw [hlw]; exact Nat.mul_pos (by omega) (Nat.two_pow_pos _)
        simp [e]; omega
    · by_cases e : s = 0
      · rw [e, Nat.pow_zero, Nat.mod_one] at h; simp at h
      · omega
  obtain ⟨LB, hLB, t2, t3⟩ := hlost
  have HX2 : Hid (Wd zs ∧ zs.length = S ∧ ys.length = S - o ∧ Wd ys ∧ (∀ j, j < zs.length → w.cell? ⟨b, off + j, none⟩ = some (.int .u32 (zs.getD j 0))) ∧ (∀ j, ys.getD j 0 = zs.getD (o + j) 0) ∧ s < 32 ∧ S ≤ N) := ⟨hwn, hnl, hyl, hwy, hc, hyz, hs32, lS⟩
  have HR : Hid (RB = decide (val zs % 2 ^ m ≠ 0) ∧ (val zs % 2 ^ m ≠ 0 ↔ X0 % 2 ^ s ≠ 0 ∨ val (zs.take o) ≠ 0) ∧ LB = decide (X0 % 2 ^ s ≠ 0)) := ⟨hRB, hlm, hLB⟩
  have lS2 : S ≤ 1048576 := by omega
  have hoS : o < S := by omega
  clear hx hwx lx lS hN h0 hz0 hz1 hpd hps hs32 ho hs hm9 hS co hv0 hcx hnl hg hvn hwn hzs hc wX hX0 hlm hlw hyl hwy hyz hys hRB hA1 hA2 hLB
  go_enter Tryz.func107, Tryz.ntmps107
  go_wp2_with fail
  refine h1.mono ?_; rintro e w' ⟨rfl, hw'⟩; obtain rfl := hw'.symm
  clear h1
  rcases LB with _ | _
  · go_wp2
    clear t2 t3 e1 f4 f5 f7 i10 i11 t0 t1
    go_loop [8, 9] (fun lb i => ∃ (k : Nat) (B : Bool), i = .int .i64 k ∧ k ≤ o ∧ lb = .bool B ∧ (B = true ↔ X0 % 2 ^ s ≠ 0 ∨ val (zs.take k) ≠ 0)) (fun _ i => o - (intOf i).toNat)
    case atStart => exact ⟨0, false, rfl, Nat.zero_le _, (by first | rfl | (simp; omega)), by
      have h := HR.out.2.2
      simp at h
      simp [val, h]⟩
    case round =>
      obtain ⟨k, B, rfl, hk, rfl, hB⟩ := hrel
      obtain ⟨hwz, hzl, hyl, hwy, hc, hyz, hs32, lS⟩ := HX2.out
      by_cases ck : k < o
      · have e1 := hc k (by omega)
        have wz := hwz k
        have hts := val_take_succ zs k
        obtain ⟨X, hX⟩ : ∃ X : Nat, zs.getD k 0 = (X : Int) := ⟨(zs.getD k 0).toNat, by omega⟩
        rw [hX] at e1 hts
        rw [Int.toNat_natCast] at hts
        have hp : 0 < 4294967296 ^ k := Nat.pow_pos (by decide)
        have j0 : (0 : Int) ≤ (k : Int) := by omega
        have j1 : (k : Int) < (o : Int) := by omega
        have j2 : (k : Int) < (N : Int) := by omega
        cases B with
        | true =>
          have HB : Hid (X0 % 2 ^ s ≠ 0 ∨ val (zs.take (k + 1)) ≠ 0) := by
            show X0 % 2 ^ s ≠ 0 ∨ val (zs.take (k + 1)) ≠ 0
            rcases hB.1 rfl with q | q
            · exact Or.inl q
            · right; omega
          clear HX2 HR hwz hzl hyl hwy hc hyz hs32 lS hX hts hp wz hB
          go_wp2
          exact ⟨⟨k + 1, true, by go_num, by omega, rfl, ⟨fun _ => HB.out, fun _ => rfl⟩⟩, by simp [intOf]; omega⟩
        | false =>
          have hB2 : ¬ (X0 % 2 ^ s ≠ 0 ∨ val (zs.take k) ≠ 0) := fun h => by have := hB.2 h; cases this
          by_cases cx : X = 0
          · have HB : Hid (¬ (X0 % 2 ^ s ≠ 0 ∨ val (zs.take (k + 1)) ≠ 0)) := by
              show ¬ (X0 % 2 ^ s ≠ 0 ∨ val (zs.take (k + 1)) ≠ 0)
              rw [hts, cx, Nat.zero_mul, Nat.add_zero]; exact hB2
            have t4 : ((X : Int) != 0) = false := by simp [cx]
            clear HX2 HR hwz hzl hyl hwy hc hyz hs32 lS hX hts hp wz hB hB2 cx
            go_wp2
            exact ⟨⟨k + 1, false, by go_num, by omega, rfl, ⟨fun h => (by cases h), fun h => absurd h HB.out⟩⟩, by simp [intOf]; omega⟩
          · have HB : Hid (X0 % 2 ^ s ≠ 0 ∨ val (zs.take (k + 1)) ≠ 0) := by
              show X0 % 2 ^ s ≠ 0 ∨ val (zs.take (k + 1)) ≠ 0
              right
              have : 0 < X * 4294967296 ^ k := Nat.mul_pos (by omega) hp
              omega
            have t4 : ((X : Int) != 0) = true := by simp; omega
            clear HX2 HR hwz hzl hyl hwy hc hyz hs32 lS hX hts hp wz hB hB2 cx
            go_wp2
            exact ⟨⟨k + 1, true, by go_num, by omega, rfl, ⟨fun _ => HB.out, fun _ => rfl⟩⟩, by simp [intOf]; omega⟩
      · have hko : k = o := by omega
        subst hko
        have hRB : RB = B := by
          rw [HR.out.1]
          cases B with
          | true => exact decide_eq_true (HR.out.2.1.2 (hB.1 rfl))
          | false => exact decide_eq_false (fun h => by have := hB.2 (HR.out.2.1.1 h); cases this)
        subst hRB
        have j1 : ¬ ((k : Int) < (k : Int)) := by omega
        obtain ⟨i0, hi0, hi1, hi2, hi3⟩ := inf32p
        clear HR hB hwz hzl hyl hwy hc hyz hs32 lS hk ck
        go_wp2
        clear j1
        obtain ⟨o, ho⟩ : ∃ o, o = k := ⟨_, rfl⟩
        subst ho
        go_loopw [10, 11] (fun a ii wr => ∃ (v : Value) (k : Nat) (Ls : List Int), v = a ∧ ii = .int .i64 ((o : Int) + (k : Int)) ∧ o + k ≤ S ∧ Own wr w.heap.size v Ls ∧ Kp w wr ∧ Ls.length = k ∧ Wd Ls ∧ (∀ j, j < k → Ls.getD j 0 = ((val ys / 2 ^ s / 4294967296 ^ j % 4294967296 : Nat) : Int))) (fun _ i _ => S - (intOf i).toNat)
        case atStart => exact ⟨_, 0, [], rfl, by simp, by omega, Own.nil _ _, Kp.refl _, rfl, Wd.nil, fun j h => by omega⟩
        case round =>
          obtain ⟨v, k, Ls, rfl, rfl, hk, hown, hkp, hll, hwl, hdg⟩ := hrel
          obtain ⟨hwz, hzl, hyl, hwy, hc, hyz, hs32, lS⟩ := HX2.out
          by_cases ck : o + k < S
          · have e1 := kkeep hkp (hc (o + k) (by omega))
            have w1 := hwz (o + k)
            have w2 := hwz (o + k + 1)
            obtain ⟨X, hgx⟩ : ∃ X : Nat, zs.getD (o + k) 0 = (X : Int) := ⟨(zs.getD (o + k) 0).toNat, by omega⟩
            obtain ⟨Y, hgy1⟩ : ∃ Y : Nat, zs.getD (o + k + 1) 0 = (Y : Int) := ⟨(zs.getD (o + k + 1) 0).toNat, by omega⟩
            have hX32 : X < 4294967296 := by omega
            have hY32 : Y < 4294967296 := by omega
            have hX : ys.getD k 0 = (X : Int) := by rw [hyz k]; exact hgx
            have hYd : ys.getD (k + 1) 0 = (Y : Int) := by rw [hyz (k + 1)]; exact hgy1
            have hrw := right_word ys hwy k s X Y hs32 (by omega) hX hYd
            rw [hgx] at e1
            clear w1 w2
            by_cases cl : o + k + 1 < S
            · skip
              have f3 : IntKind.u64.wrap (X : Int) = (X : Int) := by rw [IntKind.wrap_u64]; omega
              have e2 := kkeep hkp (hc (o + k + 1) (by omega))
              rw [hgy1] at e2
              have f4 : IntKind.u64.wrap (Y : Int) = (Y : Int) := by rw [IntKind.wrap_u64]; omega
              have f5 : IntKind.u64.wrap ((Y : Int) * 4294967296) = ((Y * 4294967296 : Nat) : Int) := by rw [IntKind.wrap_u64]; omega
              have f6 := bits_or_u64_nat X (Y * 4294967296) (by omega) (by omega)
              have e3 : X ||| Y * 4294967296 = X + Y * 4294967296 := or_low X Y 32 (by omega)
              rw [e3] at f6
              obtain ⟨YB, hYB⟩ : ∃ YB, YB = Y * 4294967296 := ⟨_, rfl⟩
              rw [← hYB] at f5 f6 hrw
              obtain ⟨V, hV⟩ : ∃ V, V = X + YB := ⟨_, rfl⟩
              rw [← hV] at f6 hrw
              have hV64 : V < 18446744073709551616 := by omega
              obtain ⟨Q, hQ⟩ : ∃ Q, Q = V / 2 ^ s := ⟨_, rfl⟩
              have f7 : (V : Int) / 2 ^ s = (Q : Int) := by rw [hQ]; push_cast; rfl
              have hQ64 : Q < 18446744073709551616 := by rw [hQ]; exact Nat.lt_of_le_of_lt (Nat.div_le_self _ _) hV64
              have f8 := and32 Q hQ64
              rw [← hQ] at hrw
              obtain ⟨Z, hZ⟩ : ∃ Z, Z = Q % 4294967296 := ⟨_, rfl⟩
              rw [← hZ] at f8 hrw
              have f9 : IntKind.u32.wrap (Z : Int) = (Z : Int) := by rw [IntKind.wrap_u32]; omega
              have hWL : Wd (Ls ++ [(Z : Int)]) := hwl.append (Wd.one (by omega))
              have HD : Hid (∀ j, j < k + 1 → (Ls ++ [(Z : Int)]).getD j 0 = ((val ys / 2 ^ s / 4294967296 ^ j % 4294967296 : Nat) : Int)) := fun j hj => by
                by_cases e : j = k
                · subst e; rw [hrw]; simp [List.getD, hll]
                · rw [← hdg j (by omega)]; simp [List.getD, List.getElem?_append, show j < Ls.length from by omega]
              have hob := own_block hown
              have hown' : wr.ownsRow w.heap.size 80 1 v k (Ls.map (Value.int .u32)) := by rw [← hll]; exact hown
              have hsz := hkp.size
              have j0 : (0 : Int) ≤ (o : Int) + (k : Int) := by omega
              have j1 : (o : Int) + (k : Int) < (N : Int) := by omega
              have j2 : (o : Int) + (k : Int) < (S : Int) := by omega
              have j3 : ((o : Int) + (k : Int) + 1 < (S : Int)) := by omega
              have j4 : (0 : Int) ≤ (o : Int) + (k : Int) + 1 := by omega
              have j5 : (o : Int) + (k : Int) + 1 < (N : Int) := by omega
              have hkb : k ≤ 1048576 := by omega
              clear HX2 hwz hzl hyl hwy hc hX hYd hgx hyz hrw hdg hwl hown hQ hZ hV64 hQ64 hV hYB e3 hgy1
              go_wp2_with (first | (at_builtin; refine wpList_append_own _ rfl _ _ 47 rfl w.heap.size 80 i0 (.int .u32 0) 1 4 Tryz.underlying47 hi0 hi1 hi2 hi3 rfl (by decide) _ _ _ rfl (hown'.alloc _) ⟨wr.heap.size, 0, none⟩ 1 1 [.int .u32 (Z : Int)] rfl rfl ?c1mf ?c2mf ?c3mf ?c4mf ?c5mf ?_))
              try case c1mf =>
                intro j' u hj'
                match j', hj' with
                | 0, hj' => simp at hj'; subst hj'; simp [Addr.add]
              case c2mf => first | rfl | (intro u hu; simp at hu; subst hu; rfl)
              case c3mf => unfold maxLen; omega
              case c4mf => omega
              case c5mf => first | omega | (simp; omega)
              intro v' w1 hown2 hgrow _
              have hO : Own w1 w.heap.size v' (Ls ++ [(Z : Int)]) := by refine Own.push ?_; rw [hll]; exact hown2
              have hK2 : Kp w w1 := (hkp.alloc _).grown hgrow hob
              clear hown2 hgrow hown' hkp hob hsz
              go_wp2
              exact ⟨⟨v', k + 1, Ls ++ [(Z : Int)], rfl, by go_num, by omega, hO, hK2, by simp [hll], hWL, HD.out⟩, by simp [intOf]; omega⟩
            · skip
              have f3 : IntKind.u64.wrap (X : Int) = (X : Int) := by rw [IntKind.wrap_u64]; omega
              have hY0 : Y = 0 := by
                have h1 : zs.getD (o + k + 1) 0 = 0 := by simp [List.getD, List.getElem?_eq_none (by omega : zs.length ≤ o + k + 1)]
                have h2 := hYd
                rw [hyz (k + 1)] at h2
                rw [show o + (k + 1) = o + k + 1 from by omega, h1] at h2
                omega
              rw [hY0, Nat.zero_mul, Nat.add_zero] at hrw
              obtain ⟨V, hV⟩ : ∃ V, V = X := ⟨_, rfl⟩
              rw [← hV] at hrw e1 f3
              have hV64 : V < 18446744073709551616 := by omega
              obtain ⟨Q, hQ⟩ : ∃ Q, Q = V / 2 ^ s := ⟨_, rfl⟩
              have f7 : (V : Int) / 2 ^ s = (Q : Int) := by rw [hQ]; push_cast; rfl
              have hQ64 : Q < 18446744073709551616 := by rw [hQ]; exact Nat.lt_of_le_of_lt (Nat.div_le_self _ _) hV64
              have f8 := and32 Q hQ64
              rw [← hQ] at hrw
              obtain ⟨Z, hZ⟩ : ∃ Z, Z = Q % 4294967296 := ⟨_, rfl⟩
              rw [← hZ] at f8 hrw
              have f9 : IntKind.u32.wrap (Z : Int) = (Z : Int) := by rw [IntKind.wrap_u32]; omega
              have hWL : Wd (Ls ++ [(Z : Int)]) := hwl.append (Wd.one (by omega))
              have HD : Hid (∀ j, j < k + 1 → (Ls ++ [(Z : Int)]).getD j 0 = ((val ys / 2 ^ s / 4294967296 ^ j % 4294967296 : Nat) : Int)) := fun j hj => by
                by_cases e : j = k
                · subst e; rw [hrw]; simp [List.getD, hll]
                · rw [← hdg j (by omega)]; simp [List.getD, List.getElem?_append, show j < Ls.length from by omega]
              have hob := own_block hown
              have hown' : wr.ownsRow w.heap.size 80 1 v k (Ls.map (Value.int .u32)) := by rw [← hll]; exact hown
              have hsz := hkp.size
              have j0 : (0 : Int) ≤ (o : Int) + (k : Int) := by omega
              have j1 : (o : Int) + (k : Int) < (N : Int) := by omega
              have j2 : (o : Int) + (k : Int) < (S : Int) := by omega
              have j3 : ¬ ((o : Int) + (k : Int) + 1 < (S : Int)) := by omega
              have j4 : (0 : Int) ≤ (o : Int) + (k : Int) + 1 := by omega
              have j5 : True ∨ (o : Int) + (k : Int) + 1 < (N : Int) := by exact Or.inl trivial
              have hkb : k ≤ 1048576 := by omega
              clear HX2 hwz hzl hyl hwy hc hX hYd hgx hyz hrw hdg hwl hown hQ hZ hV64 hQ64 hV hY0
              go_wp2_with (first | (at_builtin; refine wpList_append_own _ rfl _ _ 47 rfl w.heap.size 80 i0 (.int .u32 0) 1 4 Tryz.underlying47 hi0 hi1 hi2 hi3 rfl (by decide) _ _ _ rfl (hown'.alloc _) ⟨wr.heap.size, 0, none⟩ 1 1 [.int .u32 (Z : Int)] rfl rfl ?c1lf ?c2lf ?c3lf ?c4lf ?c5lf ?_))
              try case c1lf =>
                intro j' u hj'
                match j', hj' with
                | 0, hj' => simp at hj'; subst hj'; simp [Addr.add]
              case c2lf => first | rfl | (intro u hu; simp at hu; subst hu; rfl)
              case c3lf => unfold maxLen; omega
              case c4lf => omega
              case c5lf => first | omega | (simp; omega)
              intro v' w1 hown2 hgrow _
              have hO : Own w1 w.heap.size v' (Ls ++ [(Z : Int)]) := by refine Own.push ?_; rw [hll]; exact hown2
              have hK2 : Kp w w1 := (hkp.alloc _).grown hgrow hob
              clear hown2 hgrow hown' hkp hob hsz
              go_wp2
              exact ⟨⟨v', k + 1, Ls ++ [(Z : Int)], rfl, by go_num, by omega, hO, hK2, by simp [hll], hWL, HD.out⟩, by simp [intOf]; omega⟩
          · have hok : o + k = S := by omega
            have hal := low_all Ls ys hwy s (by omega) (fun j hj => hdg j (by omega))
            obtain ⟨p', c', rfl, hA, _⟩ := hown.arr
            have hno := rnorm_ p' c' Ls wr hA (by omega)
            rw [nz_dig Ls hwl, hal] at hno
            obtain ⟨D, hD⟩ : ∃ D, D = Ls.length := ⟨_, rfl⟩
            rw [← hD] at hno ⊢
            have hsz := hkp.size
            have j2 : ¬ ((o : Int) + (k : Int) < (S : Int)) := by omega
            have hkb : k ≤ 1048576 := by omega
            clear HX2 hwz hzl hyl hwy hc hyz hs32 lS hown hll hwl hdg hal hA hD hok ck hk
            go_wp2_with fail
            refine hno.mono ?_
            rintro e w2 ⟨v2, rfl, hO2, hk2⟩
            clear hno
            go_wp2
            exact bodyPost_ret (v := .tuple #[v2, .bool RB]) (by simp [results, Tryz.results107, go_sem] <;> simp only [*]) rfl ⟨v2, rfl, hO2.mono hsz, hkp.trans hk2⟩
  · have t4 := t3 rfl
    have t5 : 0 < s := by omega
    go_wp2
    clear t2 t3 t4 e1 f4 f5 f7 i10 i11 t0 t1
    go_loop [8, 9] (fun lb i => ∃ (k : Nat) (B : Bool), i = .int .i64 k ∧ k ≤ o ∧ lb = .bool B ∧ (B = true ↔ X0 % 2 ^ s ≠ 0 ∨ val (zs.take k) ≠ 0)) (fun _ i => o - (intOf i).toNat)
    case atStart => exact ⟨0, true, rfl, Nat.zero_le _, (by first | rfl | (simp; omega)), by
      have h := HR.out.2.2
      simp at h
      simp [val, h]⟩
    case round =>
      obtain ⟨k, B, rfl, hk, rfl, hB⟩ := hrel
      obtain ⟨hwz, hzl, hyl, hwy, hc, hyz, hs32, lS⟩ := HX2.out
      by_cases ck : k < o
      · have e1 := hc k (by omega)
        have wz := hwz k
        have hts := val_take_succ zs k
        obtain ⟨X, hX⟩ : ∃ X : Nat, zs.getD k 0 = (X : Int) := ⟨(zs.getD k 0).toNat, by omega⟩
        rw [hX] at e1 hts
        rw [Int.toNat_natCast] at hts
        have hp : 0 < 4294967296 ^ k := Nat.pow_pos (by decide)
        have j0 : (0 : Int) ≤ (k : Int) := by omega
        have j1 : (k : Int) < (o : Int) := by omega
        have j2 : (k : Int) < (N : Int) := by omega
        cases B with
        | true =>
          have HB : Hid (X0 % 2 ^ s ≠ 0 ∨ val (zs.take (k + 1)) ≠ 0) := by
            show X0 % 2 ^ s ≠ 0 ∨ val (zs.take (k + 1)) ≠ 0
            rcases hB.1 rfl with q | q
            · exact Or.inl q
            · right; omega
          clear HX2 HR hwz hzl hyl hwy hc hyz hs32 lS hX hts hp wz hB
          go_wp2
          exact ⟨⟨k + 1, true, by go_num, by omega, rfl, ⟨fun _ => HB.out, fun _ => rfl⟩⟩, by simp [intOf]; omega⟩
        | false =>
          have hB2 : ¬ (X0 % 2 ^ s ≠ 0 ∨ val (zs.take k) ≠ 0) := fun h => by have := hB.2 h; cases this
          by_cases cx : X = 0
          · have HB : Hid (¬ (X0 % 2 ^ s ≠ 0 ∨ val (zs.take (k + 1)) ≠ 0)) := by
              show ¬ (X0 % 2 ^ s ≠ 0 ∨ val (zs.take (k + 1)) ≠ 0)
              rw [hts, cx, Nat.zero_mul, Nat.add_zero]; exact hB2
            have t4 : ((X : Int) != 0) = false := by simp [cx]
            clear HX2 HR hwz hzl hyl hwy hc hyz hs32 lS hX hts hp wz hB hB2 cx
            go_wp2
            exact ⟨⟨k + 1, false, by go_num, by omega, rfl, ⟨fun h => (by cases h), fun h => absurd h HB.out⟩⟩, by simp [intOf]; omega⟩
          · have HB : Hid (X0 % 2 ^ s ≠ 0 ∨ val (zs.take (k + 1)) ≠ 0) := by
              show X0 % 2 ^ s ≠ 0 ∨ val (zs.take (k + 1)) ≠ 0
              right
              have : 0 < X * 4294967296 ^ k := Nat.mul_pos (by omega) hp
              omega
            have t4 : ((X : Int) != 0) = true := by simp; omega
            clear HX2 HR hwz hzl hyl hwy hc hyz hs32 lS hX hts hp wz hB hB2 cx
            go_wp2
            exact ⟨⟨k + 1, true, by go_num, by omega, rfl, ⟨fun _ => HB.out, fun _ => rfl⟩⟩, by simp [intOf]; omega⟩
      · have hko : k = o := by omega
        subst hko
        have hRB : RB = B := by
          rw [HR.out.1]
          cases B with
          | true => exact decide_eq_true (HR.out.2.1.2 (hB.1 rfl))
          | false => exact decide_eq_false (fun h => by have := hB.2 (HR.out.2.1.1 h); cases this)
        subst hRB
        have j1 : ¬ ((k : Int) < (k : Int)) := by omega
        obtain ⟨i0, hi0, hi1, hi2, hi3⟩ := inf32p
        clear HR hB hwz hzl hyl hwy hc hyz hs32 lS hk ck
        go_wp2
        clear j1
        obtain ⟨o, ho⟩ : ∃ o, o = k := ⟨_, rfl⟩
        subst ho
        go_loopw [10, 11] (fun a ii wr => ∃ (v : Value) (k : Nat) (Ls : List Int), v = a ∧ ii = .int .i64 ((o : Int) + (k : Int)) ∧ o + k ≤ S ∧ Own wr w.heap.size v Ls ∧ Kp w wr ∧ Ls.length = k ∧ Wd Ls ∧ (∀ j, j < k → Ls.getD j 0 = ((val ys / 2 ^ s / 4294967296 ^ j % 4294967296 : Nat) : Int))) (fun _ i _ => S - (intOf i).toNat)
        case atStart => exact ⟨_, 0, [], rfl, by simp, by omega, Own.nil _ _, Kp.refl _, rfl, Wd.nil, fun j h => by omega⟩
        case round =>
          obtain ⟨v, k, Ls, rfl, rfl, hk, hown, hkp, hll, hwl, hdg⟩ := hrel
          obtain ⟨hwz, hzl, hyl, hwy, hc, hyz, hs32, lS⟩ := HX2.out
          by_cases ck : o + k < S
          · have e1 := kkeep hkp (hc (o + k) (by omega))
            have w1 := hwz (o + k)
            have w2 := hwz (o + k + 1)
            obtain ⟨X, hgx⟩ : ∃ X : Nat, zs.getD (o + k) 0 = (X : Int) := ⟨(zs.getD (o + k) 0).toNat, by omega⟩
            obtain ⟨Y, hgy1⟩ : ∃ Y : Nat, zs.getD (o + k + 1) 0 = (Y : Int) := ⟨(zs.getD (o + k + 1) 0).toNat, by omega⟩
            have hX32 : X < 4294967296 := by omega
            have hY32 : Y < 4294967296 := by omega
            have hX : ys.getD k 0 = (X : Int) := by rw [hyz k]; exact hgx
            have hYd : ys.getD (k + 1) 0 = (Y : Int) := by rw [hyz (k + 1)]; exact hgy1
            have hrw := right_word ys hwy k s X Y hs32 (by omega) hX hYd
            rw [hgx] at e1
            clear w1 w2
            by_cases cl : o + k + 1 < S
            · skip
              have f3 : IntKind.u64.wrap (X : Int) = (X : Int) := by rw [IntKind.wrap_u64]; omega
              have e2 := kkeep hkp (hc (o + k + 1) (by omega))
              rw [hgy1] at e2
              have f4 : IntKind.u64.wrap (Y : Int) = (Y : Int) := by rw [IntKind.wrap_u64]; omega
              have f5 : IntKind.u64.wrap ((Y : Int) * 4294967296) = ((Y * 4294967296 : Nat) : Int) := by rw [IntKind.wrap_u64]; omega
              have f6 := bits_or_u64_nat X (Y * 4294967296) (by omega) (by omega)
              have e3 : X ||| Y * 4294967296 = X + Y * 4294967296 := or_low X Y 32 (by omega)
              rw [e3] at f6
              obtain ⟨YB, hYB⟩ : ∃ YB, YB = Y * 4294967296 := ⟨_, rfl⟩
              rw [← hYB] at f5 f6 hrw
              obtain ⟨V, hV⟩ : ∃ V, V = X + YB := ⟨_, rfl⟩
              rw [← hV] at f6 hrw
              have hV64 : V < 18446744073709551616 := by omega
              obtain ⟨Q, hQ⟩ : ∃ Q, Q = V / 2 ^ s := ⟨_, rfl⟩
              have f7 : (V : Int) / 2 ^ s = (Q : Int) := by rw [hQ]; push_cast; rfl
              have hQ64 : Q < 18446744073709551616 := by rw [hQ]; exact Nat.lt_of_le_of_lt (Nat.div_le_self _ _) hV64
              have f8 := and32 Q hQ64
              rw [← hQ] at hrw
              obtain ⟨Z, hZ⟩ : ∃ Z, Z = Q % 4294967296 := ⟨_, rfl⟩
              rw [← hZ] at f8 hrw
              have f9 : IntKind.u32.wrap (Z : Int) = (Z : Int) := by rw [IntKind.wrap_u32]; omega
              have hWL : Wd (Ls ++ [(Z : Int)]) := hwl.append (Wd.one (by omega))
              have HD : Hid (∀ j, j < k + 1 → (Ls ++ [(Z : Int)]).getD j 0 = ((val ys / 2 ^ s / 4294967296 ^ j % 4294967296 : Nat) : Int)) := fun j hj => by
                by_cases e : j = k
                · subst e; rw [hrw]; simp [List.getD, hll]
                · rw [← hdg j (by omega)]; simp [List.getD, List.getElem?_append, show j < Ls.length from by omega]
              have hob := own_block hown
              have hown' : wr.ownsRow w.heap.size 80 1 v k (Ls.map (Value.int .u32)) := by rw [← hll]; exact hown
              have hsz := hkp.size
              have j0 : (0 : Int) ≤ (o : Int) + (k : Int) := by omega
              have j1 : (o : Int) + (k : Int) < (N : Int) := by omega
              have j2 : (o : Int) + (k : Int) < (S : Int) := by omega
              have j3 : ((o : Int) + (k : Int) + 1 < (S : Int)) := by omega
              have j4 : (0 : Int) ≤ (o : Int) + (k : Int) + 1 := by omega
              have j5 : (o : Int) + (k : Int) + 1 < (N : Int) := by omega
              have hkb : k ≤ 1048576 := by omega
              clear HX2 hwz hzl hyl hwy hc hX hYd hgx hyz hrw hdg hwl hown hQ hZ hV64 hQ64 hV hYB e3 hgy1
              go_wp2_with (first | (at_builtin; refine wpList_append_own _ rfl _ _ 47 rfl w.heap.size 80 i0 (.int .u32 0) 1 4 Tryz.underlying47 hi0 hi1 hi2 hi3 rfl (by decide) _ _ _ rfl (hown'.alloc _) ⟨wr.heap.size, 0, none⟩ 1 1 [.int .u32 (Z : Int)] rfl rfl ?c1mt ?c2mt ?c3mt ?c4mt ?c5mt ?_))
              try case c1mt =>
                intro j' u hj'
                match j', hj' with
                | 0, hj' => simp at hj'; subst hj'; simp [Addr.add]
              case c2mt => first | rfl | (intro u hu; simp at hu; subst hu; rfl)
              case c3mt => unfold maxLen; omega
              case c4mt => omega
              case c5mt => first | omega | (simp; omega)
              intro v' w1 hown2 hgrow _
              have hO : Own w1 w.heap.size v' (Ls ++ [(Z : Int)]) := by refine Own.push ?_; rw [hll]; exact hown2
              have hK2 : Kp w w1 := (hkp.alloc _).grown hgrow hob
              clear hown2 hgrow hown' hkp hob hsz
              go_wp2
              exact ⟨⟨v', k + 1, Ls ++ [(Z : Int)], rfl, by go_num, by omega, hO, hK2, by simp [hll], hWL, HD.out⟩, by simp [intOf]; omega⟩
            · skip
              have f3 : IntKind.u64.wrap (X : Int) = (X : Int) := by rw [IntKind.wrap_u64]; omega
              have hY0 : Y = 0 := by
                have h1 : zs.getD (o + k + 1) 0 = 0 := by simp [List.getD, List.getElem?_eq_none (by omega : zs.length ≤ o + k + 1)]
                have h2 := hYd
                rw [hyz (k + 1)] at h2
                rw [show o + (k + 1) = o + k + 1 from by omega, h1] at h2
                omega
              rw [hY0, Nat.zero_mul, Nat.add_zero] at hrw
              obtain ⟨V, hV⟩ : ∃ V, V = X := ⟨_, rfl⟩
              rw [← hV] at hrw e1 f3
              have hV64 : V < 18446744073709551616 := by omega
              obtain ⟨Q, hQ⟩ : ∃ Q, Q = V / 2 ^ s := ⟨_, rfl⟩
              have f7 : (V : Int) / 2 ^ s = (Q : Int) := by rw [hQ]; push_cast; rfl
              have hQ64 : Q < 18446744073709551616 := by rw [hQ]; exact Nat.lt_of_le_of_lt (Nat.div_le_self _ _) hV64
              have f8 := and32 Q hQ64
              rw [← hQ] at hrw
              obtain ⟨Z, hZ⟩ : ∃ Z, Z = Q % 4294967296 := ⟨_, rfl⟩
              rw [← hZ] at f8 hrw
              have f9 : IntKind.u32.wrap (Z : Int) = (Z : Int) := by rw [IntKind.wrap_u32]; omega
              have hWL : Wd (Ls ++ [(Z : Int)]) := hwl.append (Wd.one (by omega))
              have HD : Hid (∀ j, j < k + 1 → (Ls ++ [(Z : Int)]).getD j 0 = ((val ys / 2 ^ s / 4294967296 ^ j % 4294967296 : Nat) : Int)) := fun j hj => by
                by_cases e : j = k
                · subst e; rw [hrw]; simp [List.getD, hll]
                · rw [← hdg j (by omega)]; simp [List.getD, List.getElem?_append, show j < Ls.length from by omega]
              have hob := own_block hown
              have hown' : wr.ownsRow w.heap.size 80 1 v k (Ls.map (Value.int .u32)) := by rw [← hll]; exact hown
              have hsz := hkp.size
              have j0 : (0 : Int) ≤ (o : Int) + (k : Int) := by omega
              have j1 : (o : Int) + (k : Int) < (N : Int) := by omega
              have j2 : (o : Int) + (k : Int) < (S : Int) := by omega
              have j3 : ¬ ((o : Int) + (k : Int) + 1 < (S : Int)) := by omega
              have j4 : (0 : Int) ≤ (o : Int) + (k : Int) + 1 := by omega
              have j5 : True ∨ (o : Int) + (k : Int) + 1 < (N : Int) := by exact Or.inl trivial
              have hkb : k ≤ 1048576 := by omega
              clear HX2 hwz hzl hyl hwy hc hX hYd hgx hyz hrw hdg hwl hown hQ hZ hV64 hQ64 hV hY0
              go_wp2_with (first | (at_builtin; refine wpList_append_own _ rfl _ _ 47 rfl w.heap.size 80 i0 (.int .u32 0) 1 4 Tryz.underlying47 hi0 hi1 hi2 hi3 rfl (by decide) _ _ _ rfl (hown'.alloc _) ⟨wr.heap.size, 0, none⟩ 1 1 [.int .u32 (Z : Int)] rfl rfl ?c1lt ?c2lt ?c3lt ?c4lt ?c5lt ?_))
              try case c1lt =>
                intro j' u hj'
                match j', hj' with
                | 0, hj' => simp at hj'; subst hj'; simp [Addr.add]
              case c2lt => first | rfl | (intro u hu; simp at hu; subst hu; rfl)
              case c3lt => unfold maxLen; omega
              case c4lt => omega
              case c5lt => first | omega | (simp; omega)
              intro v' w1 hown2 hgrow _
              have hO : Own w1 w.heap.size v' (Ls ++ [(Z : Int)]) := by refine Own.push ?_; rw [hll]; exact hown2
              have hK2 : Kp w w1 := (hkp.alloc _).grown hgrow hob
              clear hown2 hgrow hown' hkp hob hsz
              go_wp2
              exact ⟨⟨v', k + 1, Ls ++ [(Z : Int)], rfl, by go_num, by omega, hO, hK2, by simp [hll], hWL, HD.out⟩, by simp [intOf]; omega⟩
          · have hok : o + k = S := by omega
            have hal := low_all Ls ys hwy s (by omega) (fun j hj => hdg j (by omega))
            obtain ⟨p', c', rfl, hA, _⟩ := hown.arr
            have hno := rnorm_ p' c' Ls wr hA (by omega)
            rw [nz_dig Ls hwl, hal] at hno
            obtain ⟨D, hD⟩ : ∃ D, D = Ls.length := ⟨_, rfl⟩
            rw [← hD] at hno ⊢
            have hsz := hkp.size
            have j2 : ¬ ((o : Int) + (k : Int) < (S : Int)) := by omega
            have hkb : k ≤ 1048576 := by omega
            clear HX2 hwz hzl hyl hwy hc hyz hs32 lS hown hll hwl hdg hal hA hD hok ck hk
            go_wp2_with fail
            refine hno.mono ?_
            rintro e w2 ⟨v2, rfl, hO2, hk2⟩
            clear hno
            go_wp2
            exact bodyPost_ret (v := .tuple #[v2, .bool RB]) (by simp [results, Tryz.results107, go_sem] <;> simp only [*]) rfl ⟨v2, rfl, hO2.mono hsz, hkp.trans hk2⟩
end Go.Proofs.YthdnajcgdngmcaaGreatDoor
namespace Go.Proofs.YthdnajcgdngmcaaGreatDoor
open Go.RowKit
set_option maxRecDepth 20000 in
set_option maxHeartbeats 3000000 in
theorem rplus_ (p q : Option Addr) (c d : Nat) (xs ys : List Int) (w : World) (hx : Arr w p xs) (hy : Arr w q ys) (hwx : Wd xs) (hwy : Wd ys) (lx : xs.length < 1099511627776) (ly : ys.length < 1099511627776) :
    Calls Tryz.prog 109 #[.slice p xs.length c, .slice q ys.length d] w fun e w' => ∃ v L, e = .returned v ∧ Own w' w.heap.size v (nz L) ∧ Wd L ∧ val L = val xs + val ys ∧ L.length ≤ 1099511627776 ∧ Kp w w' := by
  obtain ⟨N, hN⟩ : ∃ N, N = xs.length := ⟨_, rfl⟩
  obtain ⟨M, hM⟩ : ∃ M, M = ys.length := ⟨_, rfl⟩
  rw [← hN] at lx ⊢
  rw [← hM] at ly ⊢
  have HX : Hid (Arr w p xs) := hx
  have HY : Hid (Arr w q ys) := hy
  have HW : Hid (Wd xs ∧ Wd ys) := ⟨hwx, hwy⟩
  have HN : Hid (N = xs.length ∧ M = ys.length ∧ N < 1099511627776 ∧ M < 1099511627776) := ⟨hN, hM, lx, ly⟩
  obtain ⟨i0, hi0, hi1, hi2, hi3⟩ := inf32p
  clear hN hM hx hy hwx hwy lx ly
  go_enter Tryz.func109, Tryz.ntmps109
  go_wp2
  go_loopw [5, 6, 7] (fun a cc i wr => ∃ (v : Value) (k C : Nat) (L : List Int), v = a ∧ cc = .int .u64 C ∧ i = .int .i64 k ∧ Own wr w.heap.size v L ∧ Kp w wr ∧ L.length = k ∧ Wd L ∧ C ≤ 1 ∧ val L + C * 4294967296 ^ k = val (xs.take k) + val (ys.take k) ∧ k ≤ max N M) (fun _ _ i _ => max N M - (intOf i).toNat)
  case atStart => exact ⟨_, 0, 0, [], rfl, rfl, rfl, Own.nil _ _, Kp.refl _, rfl, Wd.nil, by omega, by simp [val], by omega⟩
  case round =>
    obtain ⟨v, k, C, L, rfl, rfl, rfl, hown, hkp, hL, hw, hC, hv, hk⟩ := hrel
    obtain ⟨hN, hM, lx, ly⟩ := HN.out
    by_cases ca : k < N
    · by_cases cb : k < M
      · skip
        obtain ⟨b, off, rfl, hc⟩ := HX.out.at (k := k) (by omega)
        have e1 := kkeep hkp (hc k (by omega))
        obtain ⟨b', off', rfl, hc'⟩ := HY.out.at (k := k) (by omega)
        have e2 := kkeep hkp (hc' k (by omega))
        have wx := HW.out.1 k
        have wy := HW.out.2 k
        obtain ⟨S, hS⟩ : ∃ S : Nat, S = C + (xs.getD k 0).toNat + (ys.getD k 0).toNat := ⟨_, rfl⟩
        have hst := plus_step L xs ys k C S hL hS hv
        obtain ⟨X, hX⟩ : ∃ X, X = xs.getD k 0 := ⟨_, rfl⟩
        obtain ⟨Y, hY⟩ : ∃ Y, Y = ys.getD k 0 := ⟨_, rfl⟩
        rw [← hX, ← hY] at hS
        rw [← hX] at wx e1
        rw [← hY] at wy e2
        have f1 : IntKind.u64.wrap X = X := by rw [IntKind.wrap_u64]; omega
        have f2 : IntKind.u64.wrap Y = Y := by rw [IntKind.wrap_u64]; omega
        have f3 : IntKind.u64.wrap ((C : Int) + X) = (C : Int) + X := by rw [IntKind.wrap_u64]; omega
        have f4 : IntKind.u64.wrap ((C : Int) + X + Y) = (S : Int) := by rw [IntKind.wrap_u64]; omega
        have f5 := and32 S (by omega)
        obtain ⟨Z, hZ⟩ : ∃ Z : Int, Z = ((S % 4294967296 : Nat) : Int) := ⟨_, rfl⟩
        rw [← hZ] at f5 hst
        have f6 : IntKind.u32.wrap Z = Z := by rw [IntKind.wrap_u32]; omega
        have f7 : (S : Int) / 4294967296 = ((S / 4294967296 : Nat) : Int) := by omega
        have hC' : S / 4294967296 ≤ 1 := by omega
        obtain ⟨C', hC2⟩ : ∃ C' : Nat, C' = S / 4294967296 := ⟨_, rfl⟩
        rw [← hC2] at f7 hst hC'
        have hWL : Wd (L ++ [Z]) := hw.append (Wd.one (by omega))
        have hob := own_block hown
        have hown' : wr.ownsRow w.heap.size 80 1 v k (L.map (Value.int .u32)) := by rw [← hL]; exact hown
        have hsz := hkp.size
        have hkb : k < 1099511627776 := by omega
        clear hc hc' HX HY HW HN hN hM hX hY hS hv hZ hC2 hown wx wy hw hC
        go_wp2_with (first | (at_builtin; refine wpList_append_own _ rfl _ _ 47 rfl w.heap.size 80 i0 (.int .u32 0) 1 4 Tryz.underlying47 hi0 hi1 hi2 hi3 rfl (by decide) _ _ _ rfl (hown'.alloc _) ⟨wr.heap.size, 0, none⟩ 1 1 [.int .u32 Z] rfl rfl ?c1 ?c2 ?c3 ?c4 ?c5 ?_))
        case c1 =>
          intro j' u hj'
          match j', hj' with
          | 0, hj' => simp at hj'; subst hj'; simp [Addr.add]
        case c2 => intro u hu; simp at hu; subst hu; rfl
        case c3 => unfold maxLen; omega
        case c4 => omega
        case c5 => simp; omega
        intro v' w1 hown2 hgrow _
        have hO : Own w1 w.heap.size v' (L ++ [Z]) := by refine Own.push ?_; rw [hL]; exact hown2
        have hK2 : Kp w w1 := (hkp.alloc _).grown hgrow hob
        clear hown2 hgrow hown' hkp hob hsz
        go_wp2
        exact ⟨⟨_, k + 1, C', _, rfl, by go_num, by go_num, hO, hK2, by simp [hL], hWL, hC', hst, by omega⟩, by simp [intOf]; omega⟩
      · skip
        obtain ⟨b, off, rfl, hc⟩ := HX.out.at (k := k) (by omega)
        have e1 := kkeep hkp (hc k (by omega))
        have wx := HW.out.1 k
        have wy := HW.out.2 k
        have hy0 : ys.getD k 0 = 0 := getD_out ys k (by omega)
        obtain ⟨S, hS⟩ : ∃ S : Nat, S = C + (xs.getD k 0).toNat + (ys.getD k 0).toNat := ⟨_, rfl⟩
        have hst := plus_step L xs ys k C S hL hS hv
        obtain ⟨X, hX⟩ : ∃ X, X = xs.getD k 0 := ⟨_, rfl⟩
        obtain ⟨Y, hY⟩ : ∃ Y, Y = ys.getD k 0 := ⟨_, rfl⟩
        rw [← hX, ← hY] at hS
        rw [← hX] at wx e1
        rw [← hY] at wy hy0
        have f1 : IntKind.u64.wrap X = X := by rw [IntKind.wrap_u64]; omega
        have f2 : IntKind.u64.wrap Y = Y := by rw [IntKind.wrap_u64]; omega
        have f3 : IntKind.u64.wrap ((C : Int) + X) = (S : Int) := by rw [IntKind.wrap_u64]; omega
        have f5 := and32 S (by omega)
        obtain ⟨Z, hZ⟩ : ∃ Z : Int, Z = ((S % 4294967296 : Nat) : Int) := ⟨_, rfl⟩
        rw [← hZ] at f5 hst
        have f6 : IntKind.u32.wrap Z = Z := by rw [IntKind.wrap_u32]; omega
        have f7 : (S : Int) / 4294967296 = ((S / 4294967296 : Nat) : Int) := by omega
        have hC' : S / 4294967296 ≤ 1 := by omega
        obtain ⟨C', hC2⟩ : ∃ C' : Nat, C' = S / 4294967296 := ⟨_, rfl⟩
        rw [← hC2] at f7 hst hC'
        have hWL : Wd (L ++ [Z]) := hw.append (Wd.one (by omega))
        have hob := own_block hown
        have hown' : wr.ownsRow w.heap.size 80 1 v k (L.map (Value.int .u32)) := by rw [← hL]; exact hown
        have hsz := hkp.size
        have hkb : k < 1099511627776 := by omega
        clear hc HX HY HW HN hN hM hX hY hS hv hZ hC2 hown wx wy hw hC hy0
        go_wp2_with (first | (at_builtin; refine wpList_append_own _ rfl _ _ 47 rfl w.heap.size 80 i0 (.int .u32 0) 1 4 Tryz.underlying47 hi0 hi1 hi2 hi3 rfl (by decide) _ _ _ rfl (hown'.alloc _) ⟨wr.heap.size, 0, none⟩ 1 1 [.int .u32 Z] rfl rfl ?c1 ?c2 ?c3 ?c4 ?c5 ?_))
        case c1 =>
          intro j' u hj'
          match j', hj' with
          | 0, hj' => simp at hj'; subst hj'; simp [Addr.add]
        case c2 => intro u hu; simp at hu; subst hu; rfl
        case c3 => unfold maxLen; omega
        case c4 => omega
        case c5 => simp; omega
        intro v' w1 hown2 hgrow _
        have hO : Own w1 w.heap.size v' (L ++ [Z]) := by refine Own.push ?_; rw [hL]; exact hown2
        have hK2 : Kp w w1 := (hkp.alloc _).grown hgrow hob
        clear hown2 hgrow hown' hkp hob hsz
        go_wp2
        exact ⟨⟨_, k + 1, C', _, rfl, by go_num, by go_num, hO, hK2, by simp [hL], hWL, hC', hst, by omega⟩, by simp [intOf]; omega⟩
    · by_cases cb : k < M
      · skip
        obtain ⟨b', off', rfl, hc'⟩ := HY.out.at (k := k) (by omega)
        have e2 := kkeep hkp (hc' k (by omega))
        have wx := HW.out.1 k
        have wy := HW.out.2 k
        have hx0 : xs.getD k 0 = 0 := getD_out xs k (by omega)
        obtain ⟨S, hS⟩ : ∃ S : Nat, S = C + (xs.getD k 0).toNat + (ys.getD k 0).toNat := ⟨_, rfl⟩
        have hst := plus_step L xs ys k C S hL hS hv
        obtain ⟨X, hX⟩ : ∃ X, X = xs.getD k 0 := ⟨_, rfl⟩
        obtain ⟨Y, hY⟩ : ∃ Y, Y = ys.getD k 0 := ⟨_, rfl⟩
        rw [← hX, ← hY] at hS
        rw [← hX] at wx hx0
        rw [← hY] at wy e2
        have f1 : IntKind.u64.wrap X = X := by rw [IntKind.wrap_u64]; omega
        have f2 : IntKind.u64.wrap Y = Y := by rw [IntKind.wrap_u64]; omega
        have f3 : IntKind.u64.wrap ((C : Int) + Y) = (S : Int) := by rw [IntKind.wrap_u64]; omega
        have f5 := and32 S (by omega)
        obtain ⟨Z, hZ⟩ : ∃ Z : Int, Z = ((S % 4294967296 : Nat) : Int) := ⟨_, rfl⟩
        rw [← hZ] at f5 hst
        have f6 : IntKind.u32.wrap Z = Z := by rw [IntKind.wrap_u32]; omega
        have f7 : (S : Int) / 4294967296 = ((S / 4294967296 : Nat) : Int) := by omega
        have hC' : S / 4294967296 ≤ 1 := by omega
        obtain ⟨C', hC2⟩ : ∃ C' : Nat, C' = S / 4294967296 := ⟨_, rfl⟩
        rw [← hC2] at f7 hst hC'
        have hWL : Wd (L ++ [Z]) := hw.append (Wd.one (by omega))
        have hob := own_block hown
        have hown' : wr.ownsRow w.heap.size 80 1 v k (L.map (Value.int .u32)) := by rw [← hL]; exact hown
        have hsz := hkp.size
        have hkb : k < 1099511627776 := by omega
        clear hc' HX HY HW HN hN hM hX hY hS hv hZ hC2 hown wx wy hw hC hx0
        go_wp2_with (first | (at_builtin; refine wpList_append_own _ rfl _ _ 47 rfl w.heap.size 80 i0 (.int .u32 0) 1 4 Tryz.underlying47 hi0 hi1 hi2 hi3 rfl (by decide) _ _ _ rfl (hown'.alloc _) ⟨wr.heap.size, 0, none⟩ 1 1 [.int .u32 Z] rfl rfl ?c1 ?c2 ?c3 ?c4 ?c5 ?_))
        case c1 =>
          intro j' u hj'
          match j', hj' with
          | 0, hj' => simp at hj'; subst hj'; simp [Addr.add]
        case c2 => intro u hu; simp at hu; subst hu; rfl
        case c3 => unfold maxLen; omega
        case c4 => omega
        case c5 => simp; omega
        intro v' w1 hown2 hgrow _
        have hO : Own w1 w.heap.size v' (L ++ [Z]) := by refine Own.push ?_; rw [hL]; exact hown2
        have hK2 : Kp w w1 := (hkp.alloc _).grown hgrow hob
        clear hown2 hgrow hown' hkp hob hsz
        go_wp2
        exact ⟨⟨_, k + 1, C', _, rfl, by go_num, by go_num, hO, hK2, by simp [hL], hWL, hC', hst, by omega⟩, by simp [intOf]; omega⟩
      · have hv2 : val (L ++ [(C : Int)]) = val xs + val ys := by
          rw [List.take_of_length_le (by omega), List.take_of_length_le (by omega)] at hv
          rw [val_append, hL]
          simp only [val, Int.toNat_natCast, Nat.mul_zero, Nat.add_zero]
          rw [Nat.mul_comm]; exact hv
        have hWL : Wd (L ++ [(C : Int)]) := hw.append (Wd.one (by omega))
        have hob := own_block hown
        have hown' : wr.ownsRow w.heap.size 80 1 v k (L.map (Value.int .u32)) := by rw [← hL]; exact hown
        have hsz := hkp.size
        have f6 : IntKind.u32.wrap (C : Int) = (C : Int) := by rw [IntKind.wrap_u32]; omega
        have hkb : k < 1099511627776 := by omega
        clear HX HY HW HN hN hM hv hown hw hC
        go_wp2_with (first | (at_builtin; refine wpList_append_own _ rfl _ _ 47 rfl w.heap.size 80 i0 (.int .u32 0) 1 4 Tryz.underlying47 hi0 hi1 hi2 hi3 rfl (by decide) _ _ _ rfl (hown'.alloc _) ⟨wr.heap.size, 0, none⟩ 1 1 [.int .u32 (C : Int)] rfl rfl ?c1 ?c2 ?c3 ?c4 ?c5 ?_))
        case c1 =>
          intro j' u hj'
          match j', hj' with
          | 0, hj' => simp at hj'; subst hj'; simp [Addr.add]
        case c2 => intro u hu; simp at hu; subst hu; rfl
        case c3 => unfold maxLen; omega
        case c4 => omega
        case c5 => simp; omega
        intro v' w1 hown2 hgrow _
        have hO : Own w1 w.heap.size v' (L ++ [(C : Int)]) := by refine Own.push ?_; rw [hL]; exact hown2
        have hK2 : Kp w w1 := (hkp.alloc _).grown hgrow hob
        have hll : (L ++ [(C : Int)]).length ≤ 1099511627776 := by simp [hL]; omega
        clear hown2 hgrow hown' hkp hob hsz
        obtain ⟨p', c', rfl, hA, _⟩ := hO.arr
        have hno := rnorm_ p' c' (L ++ [(C : Int)]) w1 hA hll
        obtain ⟨LL, hLL⟩ : ∃ LL, LL = L ++ [(C : Int)] := ⟨_, rfl⟩
        rw [← hLL] at hno hv2 hWL hA hll
        have hl2 : (L ++ [(C : Int)]).length = LL.length := by rw [hLL]
        clear hO hLL
        go_wp2_with fail
        refine hno.mono ?_
        rintro e w2 ⟨v2, rfl, hO2, hk2⟩
        clear hno hA f6
        go_wp2
        exact bodyPost_ret (v := v2) (by simp [results, Tryz.results109, go_sem] <;> simp only [*]) rfl ⟨v2, LL, rfl, hO2.mono hK2.size, hWL, hv2, hll, hK2.trans hk2⟩
end Go.Proofs.YthdnajcgdngmcaaGreatDoor
namespace Go.Proofs.YthdnajcgdngmcaaGreatDoor
open Go.RowKit
set_option maxRecDepth 20000 in
theorem cmpR (v1 v2 : Value) (a b : Nat) (w : World) (h1 : Ls w v1 (dig a)) (h2 : Ls w v2 (dig b)) (l1 : blen a ≤ 33554432) (l2 : blen b ≤ 33554432) :
    Calls Tryz.prog 72 #[v1, v2] w fun e w' => e = .returned (.int .i64 (cmpN a b)) ∧ Kp w w' := by
  obtain ⟨p, c, rfl, hA, hc⟩ := h1
  obtain ⟨q, d, rfl, hB, hd⟩ := h2
  have e1 := dlen a 1048576 (by omega)
  have e2 := dlen b 1048576 (by omega)
  have h := rcmp_ p q c d (dig a) (dig b) w hA hB (Wd_dig a) (Wd_dig b) (by omega) (by omega)
  rw [val_dig, val_dig] at h
  exact h
set_option maxRecDepth 20000 in
theorem lenR (v : Value) (a : Nat) (w : World) (h : Ls w v (dig a)) (l : blen a ≤ 33554432) :
    Calls Tryz.prog 36 #[v] w fun e w' => e = .returned (.int .i64 (blen a : Nat)) ∧ w' = w := by
  obtain ⟨p, c, rfl, hA, hc⟩ := h
  have e1 := dlen a 1048576 (by omega)
  have h := rlen_ p c (dig a) w hA (Wd_dig a) (by omega)
  rw [val_dig] at h
  exact h
set_option maxRecDepth 20000 in
theorem normR (v : Value) (L : List Int) (w : World) (h : Ls w v L) (hw : Wd L) (l : L.length ≤ 1048576) :
    Calls Tryz.prog 105 #[v] w fun e w' => ∃ v', e = .returned v' ∧ Ls w' v' (dig (val L)) ∧ Kp w w' := by
  obtain ⟨p, c, rfl, hA, hc⟩ := h
  have h := rnorm_ p c L w hA (by omega)
  rw [nz_dig L hw] at h
  exact h.mono fun e w' ⟨v, h1, h2, h3⟩ => ⟨v, h1, h2.ls, h3⟩
end Go.Proofs.YthdnajcgdngmcaaGreatDoor
namespace Go.Proofs.YthdnajcgdngmcaaGreatDoor
open Go.RowKit
theorem dig_len_zero (n : Nat) : (dig n).length = 0 ↔ n = 0 := by
  constructor
  · intro e
    have := List.length_eq_zero_iff.1 e
    have h := val_dig n
    rw [this] at h
    exact h.symm
  · intro e
    rw [e, dig_zero]; rfl
theorem wd1 (x : Nat) (h : x < 4294967296) : Wd [(x : Int)] := Wd.mk (by omega) Wd.nil
end Go.Proofs.YthdnajcgdngmcaaGreatDoor
namespace Go.Proofs.YthdnajcgdngmcaaGreatDoor
open Go.RowKit
set_option maxRecDepth 20000 in
set_option maxHeartbeats 400000 in
theorem rsign_ (neg : Bool) (vn vd : Value) (n : Nat) (w : World) (hn : Ls w vn (dig n)) (l : blen n ≤ 33554432) :
    Calls Tryz.prog 71 #[.agg #[.bool neg, vn, vd]] w fun e w' => e = .returned (.int .i64 (if n = 0 then 0 else if neg then -1 else 1)) ∧ Kp w w' := by
  obtain ⟨w0, hw0⟩ : ∃ w0, w0 = w.alloc (.cells #[.bool neg, vn, vd] 49) := ⟨_, rfl⟩
  have hk0 : Kp w w0 := by rw [hw0]; exact (Kp.refl w).alloc _
  have c0 : w0.cell? ⟨w.heap.size, 0, none⟩ = some (.bool neg) := by rw [hw0]; simp [go_sem]
  have hc := normR vn (dig n) w0 (hn.kp hk0) (Wd_dig n) (dlen n 1048576 (by omega))
  rw [val_dig] at hc
  have hlz := dig_len_zero n
  obtain ⟨M, hM⟩ : ∃ M, M = (dig n).length := ⟨_, rfl⟩
  have HM : Hid (M = (dig n).length) := hM
  rw [← hM] at hlz
  clear hn l hM
  by_cases cz : n = 0
  · have hM0 : M = 0 := hlz.2 cz
    rw [if_pos cz]
    clear hlz cz
    go_enter Tryz.func71, Tryz.ntmps71
    go_wp2_with fail
    rw [← hw0]
    refine hc.mono ?_; rintro e w1 ⟨v1, rfl, ⟨p1, c1, rfl, _, _⟩, hk⟩
    rw [← HM.out]
    subst hM0
    have K1 : Kp w w1 := hk0.trans hk
    clear hc hk hw0 hk0 c0
    go_wp2
    exact bodyPost_ret (v := .int .i64 0) (by simp [results, Tryz.results71, go_sem]) rfl ⟨rfl, K1⟩
  · have hM0 : ¬ ((M : Int) = 0) := by have := mt hlz.1 cz; omega
    rw [if_neg cz]
    clear hlz cz
    go_enter Tryz.func71, Tryz.ntmps71
    go_wp2_with fail
    rw [← hw0]
    refine hc.mono ?_; rintro e w1 ⟨v1, rfl, ⟨p1, c1, rfl, _, _⟩, hk⟩
    rw [← HM.out]
    have K1 : Kp w w1 := hk0.trans hk
    have c1' := kkeep hk c0
    clear hc hk hw0 hk0 c0
    cases neg
    · go_wp2
      exact bodyPost_ret (v := .int .i64 1) (by simp [results, Tryz.results71, go_sem]) rfl ⟨rfl, K1⟩
    · go_wp2
      exact bodyPost_ret (v := .int .i64 (-1)) (by simp [results, Tryz.results71, go_sem]) rfl ⟨rfl, K1⟩
end Go.Proofs.YthdnajcgdngmcaaGreatDoor
namespace Go.Proofs.YthdnajcgdngmcaaGreatDoor
open Go.RowKit
set_option maxRecDepth 20000 in
theorem normO (v : Value) (L : List Int) (w : World) (h : Ls w v L) (hw : Wd L) (l : L.length ≤ 1048576) :
    Calls Tryz.prog 105 #[v] w fun e w' => ∃ v', e = .returned v' ∧ Own w' w.heap.size v' (dig (val L)) ∧ Kp w w' := by
  obtain ⟨p, c, rfl, hA, hc⟩ := h
  have h := rnorm_ p c L w hA (by omega)
  rw [nz_dig L hw] at h
  exact h
set_option maxRecDepth 20000 in
theorem zerosR (v : Value) (a : Nat) (w : World) (h : Ls w v (dig a)) (l : blen a ≤ 33554432) :
    Calls Tryz.prog 106 #[v] w fun e w' => e = .returned (.int .i64 (ctz a : Nat)) ∧ w' = w := by
  obtain ⟨p, c, rfl, hA, hc⟩ := h
  have e1 := dlen a 1048576 (by omega)
  have h := rzeros_ p c (dig a) w hA (Wd_dig a) (by omega)
  rw [val_dig] at h
  exact h
set_option maxRecDepth 20000 in
theorem rightO (v : Value) (a m : Nat) (w : World) (h : Ls w v (dig a)) (l : blen a ≤ 33554432) (hm : m ≤ 33554432) :
    Calls Tryz.prog 107 #[v, .int .i64 (m : Int)] w fun e w' => ∃ v' b, e = .returned (.tuple #[v', .bool b]) ∧ Own w' w.heap.size v' (dig (a / 2 ^ m)) ∧ Kp w w' := by
  obtain ⟨p, c, rfl, hA, hc⟩ := h
  have e1 := dlen a 1048576 (by omega)
  have h := rright_ p c m (dig a) w hA (Wd_dig a) (by omega) (by omega)
  rw [val_dig] at h
  exact h.mono fun e w' ⟨v, h1, h2, h3⟩ => ⟨v, _, h1, h2, h3⟩
set_option maxRecDepth 20000 in
theorem leftO (v : Value) (a m : Nat) (w : World) (h : Ls w v (dig a)) (l : blen a ≤ 16777216) (hm : m ≤ 16777216) :
    Calls Tryz.prog 108 #[v, .int .i64 (m : Int)] w fun e w' => ∃ v', e = .returned v' ∧ Own w' w.heap.size v' (dig (a * 2 ^ m)) ∧ Kp w w' := by
  obtain ⟨p, c, rfl, hA, hc⟩ := h
  have h := rleft_ p c m (dig a) w hA (Wd_dig a) (Nat.le_trans (dlen a 524288 (by omega)) (by omega)) hm
  rw [val_dig] at h
  exact h
end Go.Proofs.YthdnajcgdngmcaaGreatDoor
namespace Go.Proofs.YthdnajcgdngmcaaGreatDoor
open Go.RowKit
set_option maxRecDepth 20000 in
set_option maxHeartbeats 1000000 in
theorem frac_ (neg : Bool) (vn vd : Value) (Ln Ld : List Int) (exp : Int) (w : World) (hn : Ls w vn Ln) (hd : Ls w vd Ld) (hwn : Wd Ln) (hwd : Wd Ld) (ln : Ln.length ≤ 32768) (ld : Ld.length ≤ 32768) (hb : val Ld ≠ 0) (he : exp.natAbs ≤ 1048576) :
    Calls Tryz.prog 68 #[.bool neg, vn, vd, .int .i64 exp] w fun e w' => ∃ (vn' vd' : Value) (a' b' : Nat) (ng : Bool), e = .returned (.agg #[.bool ng, vn', vd']) ∧ Own w' w.heap.size vn' (dig a') ∧ Own w' w.heap.size vd' (dig b') ∧ (FracOf (val Ln) (val Ld) exp a' b' ∧ (val Ln ≠ 0 → ng = neg)) ∧ Kp w w' := by
  obtain ⟨w0, hw0⟩ : ∃ w0, w0 = w.alloc (.cells #[.bool false, .slice none 0 0, .slice none 0 0] 49) := ⟨_, rfl⟩
  have hk0 : Kp w w0 := by rw [hw0]; exact (Kp.refl w).alloc _
  obtain ⟨a, ha⟩ : ∃ a, a = val Ln := ⟨_, rfl⟩
  obtain ⟨b, hb9⟩ : ∃ b, b = val Ld := ⟨_, rfl⟩
  have hc := normO vn Ln w0 (hn.kp hk0) hwn (by omega)
  have hc2 := fun w' (k : Kp w0 w') => normO vd Ld w' ((hd.kp hk0).kp k) hwd (by omega)
  have la : blen a ≤ 1048576 := by
    have := blen_len a Ln.length (by rw [ha, ← tl_len Ln hwn]; exact tl_le Ln)
    omega
  have lb : blen b ≤ 1048576 := by
    have := blen_len b Ld.length (by rw [hb9, ← tl_len Ld hwd]; exact tl_le Ld)
    omega
  rw [← ha] at hc
  rw [← hb9] at hc2 hb
  rw [← ha, ← hb9]
  have HLA : Hid (blen a ≤ 1048576 ∧ blen b ≤ 1048576 ∧ b ≠ 0 ∧ exp.natAbs ≤ 1048576) := ⟨la, lb, hb, he⟩
  have Hw0 : Hid (w0 = w.alloc (.cells #[.bool false, .slice none 0 0, .slice none 0 0] 49)) := hw0
  clear hk0 ha hb9 hn hd hwn hwd ln ld la lb hb he
  by_cases cz : a = 0
  · subst cz
    rw [dig_zero] at hc
    go_enter Tryz.func68, Tryz.ntmps68
    go_wp2_with fail
    rw [← hw0]
    refine hc.mono ?_; rintro e w1 ⟨v1, rfl, hO, hk⟩
    obtain ⟨p1, c1, rfl, _⟩ := hO.len
    have hc3 := hc2 w1 hk
    have K0 : Hid (Kp w0 w1) := hk
    clear hc hc2 hO hk hw0
    go_wp2_with fail
    refine hc3.mono ?_; rintro e w2 ⟨v2, rfl, hO, hk⟩
    replace K0 : Hid (Kp w0 w2) := K0.out.trans hk
    clear hc3 hO hk
    obtain ⟨w3, hw3⟩ : ∃ w3, w3 = w2.alloc (.cells #[.int .u32 1] 80) := ⟨_, rfl⟩
    obtain ⟨g3, hg3⟩ : ∃ g3, g3 = w2.heap.size := ⟨_, rfl⟩
    have O1 := own1 w2
    rw [← hw3, ← hg3] at O1
    have hsz := K0.out.size
    rw [← hg3] at hsz
    replace K0 : Hid (Kp w0 w3) := K0.out.trans (by rw [hw3]; exact (Kp.refl _).alloc _)
    have ON : Hid (Own w3 w0.heap.size (.slice none 0 0) (dig 0)) := by rw [dig_zero]; exact Own.nil _ _
    have OD : Hid (Own w3 w0.heap.size (.slice (some ⟨g3, 0, none⟩) 1 1) (dig 1)) := by
      rw [dig_one]
      exact O1.mono hsz
    have HFR : Hid (FracOf 0 b exp 0 1) := ⟨by decide, by simp, fun _ _ _ h => absurd rfl h, by rw [blen_zero]; omega, by have : blen 1 = 1 := blen_uniq 1 0 (by decide) (by decide); omega⟩
    have HW3 : Hid (w2.alloc (.cells #[.int .u32 1] 80) = w3 ∧ w2.heap.size = g3) := ⟨hw3.symm, hg3.symm⟩
    clear O1 hsz hw3 hg3
    have hlt : w.heap.size < w0.heap.size := by rw [Hw0.out]; simp
    have k0 := kkeep K0.out (b := w.heap.size) (o := 0) (v := .bool false) (by rw [Hw0.out]; simp [go_sem])
    have z0 : w3.frozen? ⟨w.heap.size, 0, none⟩ = false := by rw [Below.frozen K0.out hlt, Hw0.out]; simp [go_sem]
    have k1 := kkeep K0.out (b := w.heap.size) (o := 1) (v := .slice none 0 0) (by rw [Hw0.out]; simp [go_sem])
    have z1 : w3.frozen? ⟨w.heap.size, 1, none⟩ = false := by rw [Below.frozen K0.out hlt, Hw0.out]; simp [go_sem]
    have k2 := kkeep K0.out (b := w.heap.size) (o := 2) (v := .slice none 0 0) (by rw [Hw0.out]; simp [go_sem])
    have z2 : w3.frozen? ⟨w.heap.size, 2, none⟩ = false := by rw [Below.frozen K0.out hlt, Hw0.out]; simp [go_sem]
    have hk9 : Kp w w0 := by rw [Hw0.out]; exact (Kp.refl w).alloc _
    have hk0 : Kp w w3 := hk9.trans K0.out
    have HZ : Hid (Own (((w3.setCell ⟨w.heap.size, 0, none⟩ (.bool false)).setCell ⟨w.heap.size, 1, none⟩ (.slice none 0 0)).setCell ⟨w.heap.size, 2, none⟩ (.slice (some ⟨g3, 0, none⟩) 1 1)) w.heap.size (.slice none 0 0) (dig (0)) ∧ Own (((w3.setCell ⟨w.heap.size, 0, none⟩ (.bool false)).setCell ⟨w.heap.size, 1, none⟩ (.slice none 0 0)).setCell ⟨w.heap.size, 2, none⟩ (.slice (some ⟨g3, 0, none⟩) 1 1)) w.heap.size (.slice (some ⟨g3, 0, none⟩) 1 1) (dig (1)) ∧ Kp w (((w3.setCell ⟨w.heap.size, 0, none⟩ (.bool false)).setCell ⟨w.heap.size, 1, none⟩ (.slice none 0 0)).setCell ⟨w.heap.size, 2, none⟩ (.slice (some ⟨g3, 0, none⟩) 1 1))) := ⟨((((ON.out.setOther hlt (.bool false)).setOther hlt (.slice none 0 0)).setOther hlt (.slice (some ⟨g3, 0, none⟩) 1 1))).mono (Nat.le_of_lt hlt), ((((OD.out.setOther hlt (.bool false)).setOther hlt (.slice none 0 0)).setOther hlt (.slice (some ⟨g3, 0, none⟩) 1 1))).mono (Nat.le_of_lt hlt), (((hk0.setCell (Nat.le_refl _) (.bool false)).setCell (Nat.le_refl _) (.slice none 0 0)).setCell (Nat.le_refl _) (.slice (some ⟨g3, 0, none⟩) 1 1))⟩
    clear hk0 hlt hk9
    obtain ⟨q1, q2⟩ := HW3.out
    subst q1
    subst q2
    clear HW3
    go_wp2
    exact bodyPost_ret (v := .agg #[.bool false, .slice none 0 0, .slice (some ⟨w2.heap.size, 0, none⟩) 1 1]) (by simp [results, Tryz.results68, go_sem] <;> simp [go_sem, *]) rfl ⟨_, _, 0, 1, false, rfl, HZ.out.1, HZ.out.2.1, ⟨HFR.out, fun h => absurd rfl h⟩, HZ.out.2.2⟩
  · have HA0 : Hid (a ≠ 0) := cz
    obtain ⟨a1, ho1, ea, da, hka⟩ := ctz_odd a cz
    obtain ⟨b1, ho2, eb, db, hkb⟩ := ctz_odd b HLA.out.2.2.1
    obtain ⟨ka, hka9⟩ : ∃ ka, ka = ctz a := ⟨_, rfl⟩
    obtain ⟨kb, hkb9⟩ : ∃ kb, kb = ctz b := ⟨_, rfl⟩
    rw [← hka9] at ea da hka
    rw [← hkb9] at eb db hkb
    obtain ⟨e1, he1⟩ : ∃ e1 : Int, e1 = exp + ka := ⟨_, rfl⟩
    obtain ⟨ex, hex⟩ : ∃ ex : Int, ex = e1 - kb := ⟨_, rfl⟩
    obtain ⟨x, hx⟩ : ∃ x, x = ex.toNat := ⟨_, rfl⟩
    obtain ⟨y, hy⟩ : ∃ y, y = (-ex).toNat := ⟨_, rfl⟩
    have hfr := frac_of a b a1 b1 ka kb x y exp ex (by omega) (by omega) ea eb hka hkb (by rw [hex, he1]) hx hy
    have HFR : Hid (FracOf a b exp (a1 * 2 ^ x) (b1 * 2 ^ y)) := hfr
    have hla := HLA.out
    have ba1 : blen a1 ≤ blen a := by rw [ea, blen_mul _ _ (by omega)]; omega
    have bb1 : blen b1 ≤ blen b := by rw [eb, blen_mul _ _ (by omega)]; omega
    have HB1 : Hid (blen a1 ≤ 16777216 ∧ blen b1 ≤ 16777216 ∧ x ≤ 16777216 ∧ y ≤ 16777216) := ⟨by omega, by omega, by omega, by omega⟩
    have g1 : wrap64 (exp + (ka : Int)) = e1 := by rw [← he1]; exact w64x _ (by omega) (by omega)
    have g2 : wrap64 (e1 - (kb : Int)) = ex := by rw [← hex]; exact w64x _ (by omega) (by omega)
    have HX : Hid (x = ex.toNat ∧ y = (-ex).toNat) := ⟨hx, hy⟩
    have HD : Hid (a / 2 ^ ka = a1 ∧ b / 2 ^ kb = b1 ∧ ka = ctz a ∧ kb = ctz b ∧ ka ≤ 1048576 ∧ kb ≤ 1048576) := ⟨da, db, hka9, hkb9, by omega, by omega⟩
    have hlz := dig_len_zero a
    obtain ⟨M, hM⟩ : ∃ M, M = (dig a).length := ⟨_, rfl⟩
    rw [← hM] at hlz
    have t0 : ¬ ((M : Int) = 0) := by have := mt hlz.1 cz; omega
    have HM : Hid (M = (dig a).length) := hM
    clear hfr hla ba1 bb1 ho1 ho2 ea da hka eb db hkb hka9 hkb9 he1 hex hx hy hlz hM cz
    go_enter Tryz.func68, Tryz.ntmps68
    go_wp2_with fail
    rw [← hw0]
    refine hc.mono ?_; rintro e w1 ⟨v1, rfl, hO, hk⟩
    obtain ⟨p1, c1, rfl, _⟩ := hO.len
    have OA : Hid (Own w1 w0.heap.size (.slice p1 (dig a).length c1) (dig a)) := hO
    rw [← HM.out] at OA ⊢
    have hc3 := hc2 w1 hk
    have K0 : Hid (Kp w0 w1) := hk
    clear hc hc2 hO hk hw0
    go_wp2_with fail
    refine hc3.mono ?_; rintro e w2 ⟨v2, rfl, hO, hk⟩
    have OB : Hid (Own w2 w0.heap.size v2 (dig b)) := hO.mono K0.out.size
    replace OA : Hid (Own w2 w0.heap.size (.slice p1 M c1) (dig a)) := OA.out.kp hk
    replace K0 : Hid (Kp w0 w2) := K0.out.trans hk
    clear hc3 hO hk
    have hc := zerosR (.slice p1 M c1) a w2 OA.out.ls (by have := HLA.out; omega)
    rw [← HD.out.2.2.1] at hc
    go_wp2_with fail
    refine hc.mono ?_; rintro e w' ⟨rfl, hw'⟩; obtain rfl := hw'.symm; clear hc hw'
    have hc := rightO (.slice p1 M c1) a ka w2 OA.out.ls (by have := HLA.out; omega) (by have := HD.out; omega)
    rw [HD.out.1] at hc
    go_wp2_with fail
    refine hc.mono ?_; rintro e w3 ⟨v3, bb, rfl, hO, hk⟩
    replace OA : Hid (Own w3 w0.heap.size v3 (dig a1)) := hO.mono K0.out.size
    replace OB : Hid (Own w3 w0.heap.size v2 (dig b)) := OB.out.kp hk
    replace K0 : Hid (Kp w0 w3) := K0.out.trans hk
    clear hc hO hk
    have hc := zerosR v2 b w3 OB.out.ls (by have := HLA.out; omega)
    rw [← HD.out.2.2.2.1] at hc
    go_wp2_with fail
    refine hc.mono ?_; rintro e w' ⟨rfl, hw'⟩; obtain rfl := hw'.symm; clear hc hw'
    have hc := rightO v2 b kb w3 OB.out.ls (by have := HLA.out; omega) (by have := HD.out; omega)
    rw [HD.out.2.1] at hc
    go_wp2_with fail
    refine hc.mono ?_; rintro e w4 ⟨v4, bb2, rfl, hO, hk⟩
    replace OB : Hid (Own w4 w0.heap.size v4 (dig b1)) := hO.mono K0.out.size
    replace OA : Hid (Own w4 w0.heap.size v3 (dig a1)) := OA.out.kp hk
    replace K0 : Hid (Kp w0 w4) := K0.out.trans hk
    clear hc hO hk
    by_cases cx : 0 < ex
    · have hx9 : ex = (x : Int) := by have := HX.out; omega
      have hc := leftO v3 a1 x w4 OA.out.ls HB1.out.1 HB1.out.2.2.1
      rw [← hx9] at hc
      have t1 : 0 < ex := cx
      have t2 : ¬ ex < 0 := by omega
      have HY0 : Hid (y = 0) := by have := HX.out; show _ = _; omega
      clear hx9 cx
      go_wp2_with fail
      try rw [g2]
      refine hc.mono ?_; rintro e w5 ⟨v5, rfl, hO, hk⟩
      have ON : Hid (Own w5 w0.heap.size v5 (dig (a1 * 2 ^ x))) := hO.mono K0.out.size
      have OD : Hid (Own w5 w0.heap.size v4 (dig (b1 * 2 ^ y))) := by rw [HY0.out, Nat.pow_zero, Nat.mul_one]; exact OB.out.kp hk
      replace K0 : Hid (Kp w0 w5) := K0.out.trans hk
      clear hc hO hk OA OB
      obtain ⟨pN, cN, hvN, _⟩ := ON.out.len
      obtain ⟨NN, hNN⟩ : ∃ NN, NN = (dig (a1 * 2 ^ x)).length := ⟨_, rfl⟩
      rw [← hNN] at hvN
      subst hvN
      clear hNN
      obtain ⟨pD, cD, hvD, _⟩ := OD.out.len
      obtain ⟨ND, hND⟩ : ∃ ND, ND = (dig (b1 * 2 ^ y)).length := ⟨_, rfl⟩
      rw [← hND] at hvD
      subst hvD
      clear hND
      have hlt : w.heap.size < w0.heap.size := by rw [Hw0.out]; simp
      have k0 := kkeep K0.out (b := w.heap.size) (o := 0) (v := .bool false) (by rw [Hw0.out]; simp [go_sem])
      have z0 : w5.frozen? ⟨w.heap.size, 0, none⟩ = false := by rw [Below.frozen K0.out hlt, Hw0.out]; simp [go_sem]
      have k1 := kkeep K0.out (b := w.heap.size) (o := 1) (v := .slice none 0 0) (by rw [Hw0.out]; simp [go_sem])
      have z1 : w5.frozen? ⟨w.heap.size, 1, none⟩ = false := by rw [Below.frozen K0.out hlt, Hw0.out]; simp [go_sem]
      have k2 := kkeep K0.out (b := w.heap.size) (o := 2) (v := .slice none 0 0) (by rw [Hw0.out]; simp [go_sem])
      have z2 : w5.frozen? ⟨w.heap.size, 2, none⟩ = false := by rw [Below.frozen K0.out hlt, Hw0.out]; simp [go_sem]
      have hk9 : Kp w w0 := by rw [Hw0.out]; exact (Kp.refl w).alloc _
      have hk0 : Kp w w5 := hk9.trans K0.out
      have HZ : Hid (Own (((w5.setCell ⟨w.heap.size, 0, none⟩ (.bool neg)).setCell ⟨w.heap.size, 1, none⟩ (.slice pN NN cN)).setCell ⟨w.heap.size, 2, none⟩ (.slice pD ND cD)) w.heap.size (.slice pN NN cN) (dig (a1 * 2 ^ x)) ∧ Own (((w5.setCell ⟨w.heap.size, 0, none⟩ (.bool neg)).setCell ⟨w.heap.size, 1, none⟩ (.slice pN NN cN)).setCell ⟨w.heap.size, 2, none⟩ (.slice pD ND cD)) w.heap.size (.slice pD ND cD) (dig (b1 * 2 ^ y)) ∧ Kp w (((w5.setCell ⟨w.heap.size, 0, none⟩ (.bool neg)).setCell ⟨w.heap.size, 1, none⟩ (.slice pN NN cN)).setCell ⟨w.heap.size, 2, none⟩ (.slice pD ND cD))) := ⟨((((ON.out.setOther hlt (.bool neg)).setOther hlt (.slice pN NN cN)).setOther hlt (.slice pD ND cD))).mono (Nat.le_of_lt hlt), ((((OD.out.setOther hlt (.bool neg)).setOther hlt (.slice pN NN cN)).setOther hlt (.slice pD ND cD))).mono (Nat.le_of_lt hlt), (((hk0.setCell (Nat.le_refl _) (.bool neg)).setCell (Nat.le_refl _) (.slice pN NN cN)).setCell (Nat.le_refl _) (.slice pD ND cD))⟩
      clear hk0 hlt hk9
      go_wp2
      exact bodyPost_ret (v := .agg #[.bool neg, .slice pN NN cN, .slice pD ND cD]) (by simp [results, Tryz.results68, go_sem] <;> simp [go_sem, *]) rfl ⟨_, _, a1 * 2 ^ x, b1 * 2 ^ y, neg, rfl, HZ.out.1, HZ.out.2.1, ⟨HFR.out, fun _ => rfl⟩, HZ.out.2.2⟩
    · by_cases cx2 : ex < 0
      · have hx9 : wrap64 (-ex) = (y : Int) := by rw [show -ex = (y : Int) from by have := HX.out; omega]; exact w64x _ (by omega) (by have := HB1.out; omega)
        have hc := leftO v4 b1 y w4 OB.out.ls HB1.out.2.1 HB1.out.2.2.2
        have t1 : ¬ 0 < ex := by omega
        have t2 : ex < 0 := cx2
        have HY0 : Hid (x = 0) := by have := HX.out; show _ = _; omega
        clear cx cx2
        go_wp2_with fail
        try rw [g2]
        try rw [hx9]
        refine hc.mono ?_; rintro e w5 ⟨v5, rfl, hO, hk⟩
        have OD : Hid (Own w5 w0.heap.size v5 (dig (b1 * 2 ^ y))) := hO.mono K0.out.size
        have ON : Hid (Own w5 w0.heap.size v3 (dig (a1 * 2 ^ x))) := by rw [HY0.out, Nat.pow_zero, Nat.mul_one]; exact OA.out.kp hk
        replace K0 : Hid (Kp w0 w5) := K0.out.trans hk
        clear hc hO hk OA OB
        obtain ⟨pN, cN, hvN, _⟩ := ON.out.len
        obtain ⟨NN, hNN⟩ : ∃ NN, NN = (dig (a1 * 2 ^ x)).length := ⟨_, rfl⟩
        rw [← hNN] at hvN
        subst hvN
        clear hNN
        obtain ⟨pD, cD, hvD, _⟩ := OD.out.len
        obtain ⟨ND, hND⟩ : ∃ ND, ND = (dig (b1 * 2 ^ y)).length := ⟨_, rfl⟩
        rw [← hND] at hvD
        subst hvD
        clear hND
        have hlt : w.heap.size < w0.heap.size := by rw [Hw0.out]; simp
        have k0 := kkeep K0.out (b := w.heap.size) (o := 0) (v := .bool false) (by rw [Hw0.out]; simp [go_sem])
        have z0 : w5.frozen? ⟨w.heap.size, 0, none⟩ = false := by rw [Below.frozen K0.out hlt, Hw0.out]; simp [go_sem]
        have k1 := kkeep K0.out (b := w.heap.size) (o := 1) (v := .slice none 0 0) (by rw [Hw0.out]; simp [go_sem])
        have z1 : w5.frozen? ⟨w.heap.size, 1, none⟩ = false := by rw [Below.frozen K0.out hlt, Hw0.out]; simp [go_sem]
        have k2 := kkeep K0.out (b := w.heap.size) (o := 2) (v := .slice none 0 0) (by rw [Hw0.out]; simp [go_sem])
        have z2 : w5.frozen? ⟨w.heap.size, 2, none⟩ = false := by rw [Below.frozen K0.out hlt, Hw0.out]; simp [go_sem]
        have hk9 : Kp w w0 := by rw [Hw0.out]; exact (Kp.refl w).alloc _
        have hk0 : Kp w w5 := hk9.trans K0.out
        have HZ : Hid (Own (((w5.setCell ⟨w.heap.size, 0, none⟩ (.bool neg)).setCell ⟨w.heap.size, 1, none⟩ (.slice pN NN cN)).setCell ⟨w.heap.size, 2, none⟩ (.slice pD ND cD)) w.heap.size (.slice pN NN cN) (dig (a1 * 2 ^ x)) ∧ Own (((w5.setCell ⟨w.heap.size, 0, none⟩ (.bool neg)).setCell ⟨w.heap.size, 1, none⟩ (.slice pN NN cN)).setCell ⟨w.heap.size, 2, none⟩ (.slice pD ND cD)) w.heap.size (.slice pD ND cD) (dig (b1 * 2 ^ y)) ∧ Kp w (((w5.setCell ⟨w.heap.size, 0, none⟩ (.bool neg)).setCell ⟨w.heap.size, 1, none⟩ (.slice pN NN cN)).setCell ⟨w.heap.size, 2, none⟩ (.slice pD ND cD))) := ⟨((((ON.out.setOther hlt (.bool neg)).setOther hlt (.slice pN NN cN)).setOther hlt (.slice pD ND cD))).mono (Nat.le_of_lt hlt), ((((OD.out.setOther hlt (.bool neg)).setOther hlt (.slice pN NN cN)).setOther hlt (.slice pD ND cD))).mono (Nat.le_of_lt hlt), (((hk0.setCell (Nat.le_refl _) (.bool neg)).setCell (Nat.le_refl _) (.slice pN NN cN)).setCell (Nat.le_refl _) (.slice pD ND cD))⟩
        clear hk0 hlt hk9
        go_wp2
        exact bodyPost_ret (v := .agg #[.bool neg, .slice pN NN cN, .slice pD ND cD]) (by simp [results, Tryz.results68, go_sem] <;> simp [go_sem, *]) rfl ⟨_, _, a1 * 2 ^ x, b1 * 2 ^ y, neg, rfl, HZ.out.1, HZ.out.2.1, ⟨HFR.out, fun _ => rfl⟩, HZ.out.2.2⟩
      · have t1 : ¬ 0 < ex := by omega
        have t2 : ¬ ex < 0 := cx2
        have HY0 : Hid (x = 0 ∧ y = 0) := by have := HX.out; exact ⟨by omega, by omega⟩
        clear cx cx2
        have ON : Hid (Own w4 w0.heap.size v3 (dig (a1 * 2 ^ x))) := by rw [HY0.out.1, Nat.pow_zero, Nat.mul_one]; exact OA.out
        have OD : Hid (Own w4 w0.heap.size v4 (dig (b1 * 2 ^ y))) := by rw [HY0.out.2, Nat.pow_zero, Nat.mul_one]; exact OB.out
        clear OA OB
        obtain ⟨pN, cN, hvN, _⟩ := ON.out.len
        obtain ⟨NN, hNN⟩ : ∃ NN, NN = (dig (a1 * 2 ^ x)).length := ⟨_, rfl⟩
        rw [← hNN] at hvN
        subst hvN
        clear hNN
        obtain ⟨pD, cD, hvD, _⟩ := OD.out.len
        obtain ⟨ND, hND⟩ : ∃ ND, ND = (dig (b1 * 2 ^ y)).length := ⟨_, rfl⟩
        rw [← hND] at hvD
        subst hvD
        clear hND
        have hlt : w.heap.size < w0.heap.size := by rw [Hw0.out]; simp
        have k0 := kkeep K0.out (b := w.heap.size) (o := 0) (v := .bool false) (by rw [Hw0.out]; simp [go_sem])
        have z0 : w4.frozen? ⟨w.heap.size, 0, none⟩ = false := by rw [Below.frozen K0.out hlt, Hw0.out]; simp [go_sem]
        have k1 := kkeep K0.out (b := w.heap.size) (o := 1) (v := .slice none 0 0) (by rw [Hw0.out]; simp [go_sem])
        have z1 : w4.frozen? ⟨w.heap.size, 1, none⟩ = false := by rw [Below.frozen K0.out hlt, Hw0.out]; simp [go_sem]
        have k2 := kkeep K0.out (b := w.heap.size) (o := 2) (v := .slice none 0 0) (by rw [Hw0.out]; simp [go_sem])
        have z2 : w4.frozen? ⟨w.heap.size, 2, none⟩ = false := by rw [Below.frozen K0.out hlt, Hw0.out]; simp [go_sem]
        have hk9 : Kp w w0 := by rw [Hw0.out]; exact (Kp.refl w).alloc _
        have hk0 : Kp w w4 := hk9.trans K0.out
        have HZ : Hid (Own (((w4.setCell ⟨w.heap.size, 0, none⟩ (.bool neg)).setCell ⟨w.heap.size, 1, none⟩ (.slice pN NN cN)).setCell ⟨w.heap.size, 2, none⟩ (.slice pD ND cD)) w.heap.size (.slice pN NN cN) (dig (a1 * 2 ^ x)) ∧ Own (((w4.setCell ⟨w.heap.size, 0, none⟩ (.bool neg)).setCell ⟨w.heap.size, 1, none⟩ (.slice pN NN cN)).setCell ⟨w.heap.size, 2, none⟩ (.slice pD ND cD)) w.heap.size (.slice pD ND cD) (dig (b1 * 2 ^ y)) ∧ Kp w (((w4.setCell ⟨w.heap.size, 0, none⟩ (.bool neg)).setCell ⟨w.heap.size, 1, none⟩ (.slice pN NN cN)).setCell ⟨w.heap.size, 2, none⟩ (.slice pD ND cD))) := ⟨((((ON.out.setOther hlt (.bool neg)).setOther hlt (.slice pN NN cN)).setOther hlt (.slice pD ND cD))).mono (Nat.le_of_lt hlt), ((((OD.out.setOther hlt (.bool neg)).setOther hlt (.slice pN NN cN)).setOther hlt (.slice pD ND cD))).mono (Nat.le_of_lt hlt), (((hk0.setCell (Nat.le_refl _) (.bool neg)).setCell (Nat.le_refl _) (.slice pN NN cN)).setCell (Nat.le_refl _) (.slice pD ND cD))⟩
        clear hk0 hlt hk9
        go_wp2
        exact bodyPost_ret (v := .agg #[.bool neg, .slice pN NN cN, .slice pD ND cD]) (by simp [results, Tryz.results68, go_sem] <;> simp [go_sem, *]) rfl ⟨_, _, a1 * 2 ^ x, b1 * 2 ^ y, neg, rfl, HZ.out.1, HZ.out.2.1, ⟨HFR.out, fun _ => rfl⟩, HZ.out.2.2⟩
end Go.Proofs.YthdnajcgdngmcaaGreatDoor
namespace Go.Proofs.YthdnajcgdngmcaaGreatDoor
open Go.RowKit
theorem rU_floor (p A B : Nat) (h : blen (A / B) ≤ p) : rU (-1) p A B = A / B := by
  have hE : rE p A B = 0 := by unfold rE; omega
  unfold rU rS rR
  rw [hE, Nat.pow_zero, Nat.mul_one, Nat.mul_one]
  have e : upw (-1) (A / B) (A % B) B = false := by unfold upw; simp
  rw [e]; simp
end Go.Proofs.YthdnajcgdngmcaaGreatDoor
namespace Go.Proofs.YthdnajcgdngmcaaGreatDoor
open Go.RowKit
/-- the greatest whole number not above -/
theorem stV_floor (U : Nat) (hU : 0 < U) (V : Int) : stV 1 U V ≤ V ∧ V - U < stV 1 U V := by
  unfold stV
  rw [if_neg (by decide)]
  have e := Nat.div_add_mod V.natAbs U
  have r := Nat.mod_lt V.natAbs hU
  rw [Nat.mul_comm] at e
  by_cases a : V < 0
  · rw [if_pos a]
    have hc : cutN 1 true V.natAbs U = V.natAbs / U + (V.natAbs % U != 0).toNat := by unfold cutN bmp; rw [if_pos rfl, Bool.true_and]
    rw [hc, Nat.add_mul]
    by_cases z : V.natAbs % U = 0
    · rw [z]
      rw [z] at e
      rw [show ((0 : Nat) != 0) = false from rfl]
      simp only [Bool.toNat_false, Nat.zero_mul, Nat.add_zero]
      generalize V.natAbs / U * U = P at *
      omega
    · rw [show (V.natAbs % U != 0) = true from by simp; omega]
      simp only [Bool.toNat_true, Nat.one_mul]
      generalize V.natAbs / U * U = P at *
      omega
  · rw [if_neg a]
    have hc : cutN 1 false V.natAbs U = V.natAbs / U := by unfold cutN bmp; rw [if_pos rfl]; simp
    rw [hc]
    generalize V.natAbs / U * U = P at *
    omega
end Go.Proofs.YthdnajcgdngmcaaGreatDoor
namespace Go.Proofs.YthdnajcgdngmcaaGreatDoor
open Go.RowKit
set_option linter.unusedVariables false
/-- what is answered: no number, or a place -/
def zc (o : Option Int) : Nat := match o with | none => 9221120237041090561 | some z => pz z
end Go.Proofs.YthdnajcgdngmcaaGreatDoor
namespace Go.Proofs.YthdnajcgdngmcaaGreatDoor
open Go.RowKit
set_option maxRecDepth 20000 in
set_option maxHeartbeats 1000000 in
theorem rtimes_ (p q : Option Addr) (c d : Nat) (xs ys : List Int) (w : World) (hx : Arr w p xs) (hy : Arr w q ys) (hwx : Wd xs) (hwy : Wd ys) (lx : xs.length ≤ 16777216) (ly : ys.length ≤ 16777216) :
    Calls Tryz.prog 73 #[.slice p xs.length c, .slice q ys.length d] w fun e w' => ∃ v, e = .returned v ∧ Own w' w.heap.size v (dig (val xs * val ys)) ∧ Kp w w' := by
  have h1 := words_ p c xs w hx (by omega)
  have h2 := words_ q d ys w hy (by omega)
  have lS := tl_le xs
  have lT := tl_le ys
  have hvx := val_tl xs
  have hvy := val_tl ys
  obtain ⟨N, hN⟩ : ∃ N, N = xs.length := ⟨_, rfl⟩
  obtain ⟨M, hM⟩ : ∃ M, M = ys.length := ⟨_, rfl⟩
  obtain ⟨S, hS⟩ : ∃ S, S = tl xs := ⟨_, rfl⟩
  obtain ⟨T, hT⟩ : ∃ T, T = tl ys := ⟨_, rfl⟩
  rw [← hS] at h1 lS hvx
  rw [← hT] at h2 lT hvy
  have hmk : ∀ w : World, (Instr.makeSlice 47 (.int .i64 ((S : Int) + (T : Int))) (.int .i64 ((S : Int) + (T : Int)))).run Tryz.prog w = .ok (.slice (some ⟨w.heap.size, 0, none⟩) (S + T) (S + T)) (w.alloc (.cells (madeCells #[.int .u32 0] (S + T)) 80)) := by
    have := mk32 (S + T) (by omega)
    simpa using this
  have hk1 : Kp w (w.alloc (.cells (madeCells #[.int .u32 0] (S + T)) 80)) := (Kp.refl w).alloc _
  have hrz : Rw (w.alloc (.cells (madeCells #[.int .u32 0] (S + T)) 80)) w.heap.size (S + T) (List.replicate (S + T) 0) := World.rowIs.congr (World.rowIs_made w (.int .u32 0) (S + T) 80) (fun j _ => by rw [rep0_getD])
  obtain ⟨zs0, hz0⟩ : ∃ zs0, zs0 = List.replicate (S + T) (0 : Int) := ⟨_, rfl⟩
  have hzl0 : zs0.length = S + T := by rw [hz0]; simp
  have hwz0 : Wd zs0 := by rw [hz0]; exact Wd_rep0 _
  have hzz0 : ∀ j, zs0.getD j 0 = 0 := fun j => by rw [hz0]; exact rep0_getD _ _
  have hvz0 := val_zeros zs0 hzz0
  rw [← hz0] at hrz
  have HX : Hid (Arr w p xs ∧ Wd xs ∧ val (xs.take S) = val xs) := ⟨hx, hwx, hvx⟩
  have HY : Hid (Arr w q ys ∧ Wd ys ∧ val (ys.take T) = val ys) := ⟨hy, hwy, hvy⟩
  have HN : Hid (N = xs.length ∧ M = ys.length) := ⟨hN, hM⟩
  obtain ⟨g, hg⟩ : ∃ g, g = w.heap.size := ⟨_, rfl⟩
  rw [← hg] at hrz
  have HG : Hid (g = w.heap.size) := hg
  rw [← hN] at lx h1 lS ⊢
  rw [← hM] at ly h2 lT ⊢
  clear hx hy hwx hwy hN hM hz0 hS hT hvx hvy
  go_enter Tryz.func73, Tryz.ntmps73
  go_wp2_with fail
  refine h1.mono ?_; rintro e w' ⟨rfl, hw'⟩; obtain rfl := hw'.symm
  go_wp2_with fail
  refine h2.mono ?_; rintro e w' ⟨rfl, hw'⟩; obtain rfl := hw'.symm
  go_wp2
  rw [← hg]
  clear hmk hg h1 h2
  go_loopw [8] (fun i wr => ∃ (k : Nat) (zs : List Int), i = .int .i64 k ∧ k ≤ T ∧ Rw wr g (S + T) zs ∧ zs.length = S + T ∧ Wd zs ∧ val zs = val (ys.take k) * val xs ∧ (∀ j, k + S ≤ j → zs.getD j 0 = 0) ∧ Kp w wr) (fun i _ => T - (intOf i).toNat)
  case atStart => exact ⟨0, zs0, rfl, Nat.zero_le _, hrz, hzl0, hwz0, by rw [hvz0]; simp [val], fun j _ => hzz0 j, hk1⟩
  case round =>
    clear hrz hzl0 hwz0 hzz0 hvz0 hk1
    obtain ⟨k, zs, rfl, hk, hrow, hzl, hwz, hv, hzz, hkp⟩ := hrel
    obtain ⟨hN, hM⟩ := HN.out
    by_cases ck : k < T
    · obtain ⟨b, off, rfl, hc⟩ := HY.out.1.at (k := k) (by omega)
      have e0 := hc k (by omega)
      have e1 := kkeep hkp e0
      have wy := HY.out.2.1 k
      have hrp := row_prod ys k (val xs)
      obtain ⟨Y, hY⟩ : ∃ Y : Nat, (Y : Int) = ys.getD k 0 := ⟨(ys.getD k 0).toNat, by omega⟩
      rw [← hY] at e1 wy hrp
      rw [Int.toNat_natCast] at hrp
      have i0 : (0 : Int) ≤ (k : Int) := by omega
      have i1 : (k : Int) < (T : Int) := by omega
      have i1' : (k : Int) < (M : Int) := by omega
      by_cases cY : Y = 0
      · subst cY
        have hv2 : val zs = val (ys.take (k + 1)) * val xs := by rw [← hrp, hv]; simp
        have t1 : (((0 : Nat) : Int) == 0) = true := by simp
        clear hc e0 HX HY HN HG hN hM hY wy hrp hv
        go_wp2
        exact ⟨⟨k + 1, zs, by go_num, by omega, hrow, hzl, hwz, hv2, fun j hj => hzz j (by omega), hkp⟩, by simp [intOf]; omega⟩
      · have t1 : ((Y : Int) == 0) = false := by simp; omega
        have fY : IntKind.u64.wrap (Y : Int) = (Y : Int) := by rw [IntKind.wrap_u64]; omega
        have hY32 : Y < 4294967296 := by omega
        have HV : Hid (val zs + val xs * Y * 4294967296 ^ k = val (ys.take (k + 1)) * val xs ∧ (∀ j, k + S ≤ j → zs.getD j 0 = 0)) := ⟨by rw [hv]; exact hrp, hzz⟩
        clear hc e0 HY hN hM hY wy hrp hv hzz
        go_wp2
        clear t1 fY
        go_loopw [10, 11] (fun cc ii wq => ∃ (m C : Nat) (us : List Int), cc = .int .u64 (C : Int) ∧ ii = .int .i64 m ∧ m ≤ S ∧ Rw wq g (S + T) us ∧ us.length = S + T ∧ Wd us ∧ C < 4294967296 ∧ val us + C * 4294967296 ^ (k + m) = val zs + val (xs.take m) * Y * 4294967296 ^ k ∧ (∀ j, k + m ≤ j → us.getD j 0 = zs.getD j 0) ∧ Kp w wq) (fun _ i _ => S - (intOf i).toNat)
        case atStart => exact ⟨0, 0, zs, rfl, rfl, Nat.zero_le _, hrow, hzl, hwz, by omega, by simp [val], fun j _ => rfl, hkp⟩
        case round =>
          clear hrow hwz hkp e1
          obtain ⟨m, C, us, rfl, rfl, hm, hrow, hul, hwu, hC, hv, hsam, hkp⟩ := hrel
          obtain ⟨hN, hM⟩ := HN.out
          by_cases cm : m < S
          · obtain ⟨b', off', rfl, hc'⟩ := HX.out.1.at (k := m) (by omega)
            have e2 := kkeep hkp (hc' m (by omega))
            have e1 := World.rowIs.cell hrow (i := m + k) (by omega)
            have wx := HX.out.2.1 m
            have wz := hwu (m + k)
            obtain ⟨X, hX⟩ : ∃ X : Nat, (X : Int) = xs.getD m 0 := ⟨(xs.getD m 0).toNat, by omega⟩
            obtain ⟨Z0, hZ0⟩ : ∃ Z0 : Nat, (Z0 : Int) = us.getD (m + k) 0 := ⟨(us.getD (m + k) 0).toNat, by omega⟩
            rw [← hX] at e2
            rw [← hZ0] at e1
            have hmw := mul_word X Y C Z0 (by omega) hY32 hC (by omega)
            obtain ⟨P, hP⟩ : ∃ P, P = X * Y := ⟨_, rfl⟩
            rw [← hP] at hmw
            obtain ⟨Q, hQ⟩ : ∃ Q : Nat, Q = (Z0 : Int).toNat + ((P : Nat) : Int).toNat + C := ⟨_, rfl⟩
            rw [Nat.add_comm m k] at hZ0
            have hst := sum_step us (k + m) C Q _ (Z0 : Int) (P : Int) (by omega) hZ0.symm hQ hv
            simp only [Int.toNat_natCast] at hQ hst
            have hg2 := mul_grow xs Y k m
            rw [← hX, Int.toNat_natCast, ← hP] at hg2
            rw [Nat.add_assoc (val zs), ← hg2, Nat.add_assoc k m 1] at hst
            have f1 : IntKind.u64.wrap (X : Int) = (X : Int) := by rw [IntKind.wrap_u64]; omega
            have f2 : IntKind.u64.wrap ((X : Int) * (Y : Int)) = (P : Int) := by
              have : (X : Int) * (Y : Int) = (P : Int) := by rw [hP]; exact (Int.natCast_mul X Y).symm
              rw [this, IntKind.wrap_u64]; omega
            have f3 : IntKind.u64.wrap (Z0 : Int) = (Z0 : Int) := by rw [IntKind.wrap_u64]; omega
            have f4 : IntKind.u64.wrap ((C : Int) + (Z0 : Int)) = (C : Int) + (Z0 : Int) := by rw [IntKind.wrap_u64]; omega
            have f5 : IntKind.u64.wrap ((C : Int) + (Z0 : Int) + (P : Int)) = (Q : Int) := by rw [IntKind.wrap_u64]; omega
            have f8 := and32 Q (by omega)
            obtain ⟨Z, hZ⟩ : ∃ Z : Nat, Z = Q % 4294967296 := ⟨_, rfl⟩
            obtain ⟨C', hC2⟩ : ∃ C' : Nat, C' = Q / 4294967296 := ⟨_, rfl⟩
            rw [← hZ] at f8
            have f6 : IntKind.u32.wrap (Z : Int) = (Z : Int) := by rw [IntKind.wrap_u32]; omega
            have f7 : (Q : Int) / 4294967296 = (C' : Int) := by omega
            rw [← hZ, ← hC2] at hst
            have hC' : C' < 4294967296 := by omega
            have hw2 : Wd (us.set (m + k) (Z : Int)) := hwu.set (m + k) Z (by omega)
            have hl2 : (us.set (m + k) (Z : Int)).length = S + T := by rw [List.length_set]; exact hul
            have hsam2 : ∀ j, k + (m + 1) ≤ j → (us.set (m + k) (Z : Int)).getD j 0 = zs.getD j 0 := fun j h1 => by
              rw [← hsam j (by omega)]; simp [List.getD, show ¬ m + k = j from by omega]
            have ekm : k + m = m + k := Nat.add_comm k m
            rw [ekm] at hst
            clear ekm
            have hik : m + k < us.length := by omega
            have hik2 : m + k < S + T := by omega
            have j0 : (0 : Int) ≤ (m : Int) := by omega
            have j1 : (m : Int) < (S : Int) := by omega
            have j2 : (m : Int) < (N : Int) := by omega
            have j3 : (0 : Int) ≤ (m : Int) + (k : Int) := by omega
            have j4 : (m : Int) + (k : Int) < (S : Int) + (T : Int) := by omega
            have hgw : w.heap.size ≤ g := by rw [HG.out]; exact Nat.le_refl _
            clear hc' HX HN HG hN hM hX hZ0 hZ hC2 hQ hv hP hg2 wx wz hwu hC hsam hul hmw HV hzl
            go_wp2
            refine wp_region_kp (by kernel_rfl) (by kernel_rfl) (fun ι _ G hG hall => ?_)
            have c0 : ∀ n, (G n).cell? ⟨g, m + k, none⟩ = some (.int .u32 (Z0 : Int)) := fun n => kkeep (hG n) e1
            have c1 : ∀ n, (G n).cell? ⟨b', off' + m, none⟩ = some (.int .u32 (X : Int)) := fun n => kkeep (hG n) e2
            repeat (go_big_quiet_step (fail))
            refine wpQuiet_nil ?_
            rintro _ ⟨nq, rfl⟩
            have gq := hG nq
            replace hrow := hrow.grown gq
            have e3 := World.rowIs.cell hrow (i := m + k) hik2
            have e4 := World.rowIs.frozen hrow (m + k)
            have hR := hrow.set (m + k) (Z : Int) hik
            have hK := (hkp.trans gq).setCell (p := ⟨g, m + k, none⟩) hgw (.int .u32 (Z : Int))
            clear c0 c1 hall hG gq e1 e2 hrow hkp
            go_wp2
            exact ⟨⟨m + 1, C', us.set (m + k) (Z : Int), by go_num, by go_num, by omega, hR, hl2, hw2, hC', hst, hsam2, hK⟩, by simp [intOf]; omega⟩
          · have hmS : m = S := by omega
            subst hmS
            have hvx := HX.out.2.2
            rw [hvx] at hv
            obtain ⟨hV1, hV2⟩ := HV.out
            have hu0 : us.getD (k + m) 0 = 0 := by rw [hsam _ (Nat.le_refl _)]; exact hV2 _ (Nat.le_refl _)
            have hvs := val_set us (k + m) (C : Int) (by omega)
            rw [hu0, Int.toNat_natCast, hv, hV1] at hvs
            have hv3 : val (us.set (k + m) (C : Int)) = val (ys.take (k + 1)) * val xs := by simpa using hvs
            have hgw : w.heap.size ≤ g := by rw [HG.out]; exact Nat.le_refl _
            have hR := hrow.set (k + m) (C : Int) (by omega)
            have hK : Kp w (wr.setCell ⟨g, k + m, none⟩ (.int .u32 (C : Int))) := hkp.setCell hgw _
            have hw3 : Wd (us.set (k + m) (C : Int)) := hwu.set _ _ (by omega)
            have hl3 : (us.set (k + m) (C : Int)).length = m + T := by rw [List.length_set]; exact hul
            have hz3 : ∀ j, k + 1 + m ≤ j → (us.set (k + m) (C : Int)).getD j 0 = 0 := fun j hj => by
              have e1 : (us.set (k + m) (C : Int)).getD j 0 = us.getD j 0 := by simp [List.getD, show ¬ k + m = j from by omega]
              rw [e1, hsam j (by omega)]
              exact hV2 j (by omega)
            have e3 := World.rowIs.cell hrow (i := k + m) (by omega)
            have e4 := World.rowIs.frozen hrow (k + m)
            have f6 : IntKind.u32.wrap (C : Int) = (C : Int) := by rw [IntKind.wrap_u32]; omega
            have i2 : ¬ ((m : Int) < (m : Int)) := by omega
            have j3 : (0 : Int) ≤ (k : Int) + (m : Int) := by omega
            have j4 : (k : Int) + (m : Int) < (m : Int) + (T : Int) := by omega
            clear HX HN HG hN hM hv hvs hsam hkp hrow HV hV1 hV2 hvx hwu hul hu0 hC cm hm hzl
            go_wp2
            exact ⟨⟨k + 1, us.set (k + m) (C : Int), by go_num, by omega, hR, hl3, hw3, hv3, hz3, hK⟩, by simp [intOf]; omega⟩
    · have hkN : k = T := by omega
      subst hkN
      have hvy := HY.out.2.2
      rw [hvy] at hv
      have hA := hrow.arr (S + k) (Nat.le_refl _) (by omega)
      rw [List.take_of_length_le (by omega)] at hA
      have hno := rnorm_ (some ⟨g, 0, none⟩) (S + k) zs wr hA (by omega)
      rw [nz_dig zs hwz, hv, hzl, Nat.mul_comm] at hno
      have hsz := hkp.size
      have i2 : ¬ ((k : Int) < (k : Int)) := by omega
      clear hA hrow hzl hwz hv HX HY HN HG hN hM hzz hvy hk ck
      go_wp2_with fail
      refine hno.mono ?_
      rintro e w2 ⟨v2, rfl, hO2, hk2⟩
      clear hno
      go_wp2
      exact bodyPost_ret (v := v2) (by simp [results, Tryz.results73, go_sem] <;> simp only [*]) rfl ⟨v2, rfl, hO2.mono hsz, hkp.trans hk2⟩
end Go.Proofs.YthdnajcgdngmcaaGreatDoor
namespace Go.Proofs.YthdnajcgdngmcaaGreatDoor
open Go.RowKit
set_option maxRecDepth 20000 in
set_option maxHeartbeats 3000000 in
theorem rminus_ (p q : Option Addr) (c d : Nat) (xs ys : List Int) (w : World) (hx : Arr w p xs) (hy : Arr w q ys) (hwx : Wd xs) (hwy : Wd ys) (lx : xs.length < 1099511627776) (hl : ys.length ≤ xs.length) (hle : val ys ≤ val xs) :
    Calls Tryz.prog 110 #[.slice p xs.length c, .slice q ys.length d] w fun e w' => ∃ v, e = .returned v ∧ Own w' w.heap.size v (dig (val xs - val ys)) ∧ Kp w w' := by
  obtain ⟨N, hN⟩ : ∃ N, N = xs.length := ⟨_, rfl⟩
  obtain ⟨M, hM⟩ : ∃ M, M = ys.length := ⟨_, rfl⟩
  rw [← hN] at lx hl ⊢
  rw [← hM] at hl ⊢
  have HX : Hid (Arr w p xs) := hx
  have HY : Hid (Arr w q ys) := hy
  have HW : Hid (Wd xs ∧ Wd ys ∧ val ys ≤ val xs) := ⟨hwx, hwy, hle⟩
  have HN : Hid (N = xs.length ∧ M = ys.length ∧ N < 1099511627776 ∧ M ≤ N) := ⟨hN, hM, lx, hl⟩
  obtain ⟨i0, hi0, hi1, hi2, hi3⟩ := inf32p
  clear hN hM hx hy hwx hwy lx hl hle
  go_enter Tryz.func110, Tryz.ntmps110
  go_wp2
  go_loopw [5, 6, 7] (fun a cc i wr => ∃ (v : Value) (k C : Nat) (L : List Int), v = a ∧ cc = .int .u64 C ∧ i = .int .i64 k ∧ Own wr w.heap.size v L ∧ Kp w wr ∧ L.length = k ∧ Wd L ∧ C ≤ 1 ∧ val L + val (ys.take k) = val (xs.take k) + C * 4294967296 ^ k ∧ k ≤ N) (fun _ _ i _ => N - (intOf i).toNat)
  case atStart => exact ⟨_, 0, 0, [], rfl, rfl, rfl, Own.nil _ _, Kp.refl _, rfl, Wd.nil, by omega, by simp [val], by omega⟩
  case round =>
    obtain ⟨v, k, C, L, rfl, rfl, rfl, hown, hkp, hL, hw, hC, hv, hk⟩ := hrel
    obtain ⟨hN, hM, lx, hl⟩ := HN.out
    by_cases ca : k < N
    · by_cases cb : k < M
      · skip
        obtain ⟨b, off, rfl, hc⟩ := HX.out.at (k := k) (by omega)
        have e1 := kkeep hkp (hc k (by omega))
        obtain ⟨b', off', rfl, hc'⟩ := HY.out.at (k := k) (by omega)
        have e2 := kkeep hkp (hc' k (by omega))
        have wx := HW.out.1 k
        have wy := HW.out.2.1 k
        obtain ⟨X, hX⟩ : ∃ X, X = xs.getD k 0 := ⟨_, rfl⟩
        obtain ⟨Y, hY⟩ : ∃ Y, Y = ys.getD k 0 := ⟨_, rfl⟩
        have hst := fun (C' Z : Nat) h => minus_step L xs ys k C C' Z hL h hv
        rw [← hX, ← hY] at hst
        rw [← hX] at wx e1
        rw [← hY] at wy e2
        have f1 : IntKind.u64.wrap X = X := by rw [IntKind.wrap_u64]; omega
        obtain ⟨T, hT⟩ : ∃ T : Int, T = Y + (C : Int) := ⟨_, rfl⟩
        have f2 : IntKind.u64.wrap Y = Y := by rw [IntKind.wrap_u64]; omega
        have f3 : IntKind.u64.wrap ((C : Int) + Y) = T := by rw [IntKind.wrap_u64]; omega
        by_cases ct : X < T
        · skip
          obtain ⟨Z, hZ⟩ : ∃ Z : Nat, Z = (X + 4294967296 - T).toNat := ⟨_, rfl⟩
          have f4 : IntKind.u64.wrap (X + 4294967296) = X + 4294967296 := by rw [IntKind.wrap_u64]; omega
          have f5 : IntKind.u64.wrap (X + 4294967296 - T) = (Z : Int) := by rw [IntKind.wrap_u64]; omega
          have hs2 := hst 1 Z (by omega)
          have f6 : IntKind.u32.wrap (Z : Int) = (Z : Int) := by rw [IntKind.wrap_u32]; omega
          have hWL : Wd (L ++ [(Z : Int)]) := hw.append (Wd.one (by omega))
          have hob := own_block hown
          have hown' : wr.ownsRow w.heap.size 80 1 v k (L.map (Value.int .u32)) := by rw [← hL]; exact hown
          have hsz := hkp.size
          have hkb : k < 1099511627776 := by omega
          have j0 : (0 : Int) ≤ (k : Int) := by omega
          have j1 : (k : Int) < (N : Int) := by omega
          have j2 : ((k : Int) < (M : Int)) := by omega
          clear ca cb
          clear hc hc' HX HY HW HN hN hM hX hY hv hZ hT hown wx wy hw hC hst
          go_wp2_with (first | (at_builtin; refine wpList_append_own _ rfl _ _ 47 rfl w.heap.size 80 i0 (.int .u32 0) 1 4 Tryz.underlying47 hi0 hi1 hi2 hi3 rfl (by decide) _ _ _ rfl (hown'.alloc _) ⟨wr.heap.size, 0, none⟩ 1 1 [.int .u32 (Z : Int)] rfl rfl ?c1f0 ?c2f0 ?c3f0 ?c4f0 ?c5f0 ?_))
          try case c1f0 =>
            intro j' u hj'
            match j', hj' with
            | 0, hj' => simp at hj'; subst hj'; simp [Addr.add]
          case c2f0 => first | rfl | (intro u hu; simp at hu; subst hu; rfl)
          case c3f0 => unfold maxLen; omega
          case c4f0 => omega
          case c5f0 => first | omega | (simp; omega)
          intro v' w1 hown2 hgrow _
          have hO : Own w1 w.heap.size v' (L ++ [(Z : Int)]) := by refine Own.push ?_; rw [hL]; exact hown2
          have hK2 : Kp w w1 := (hkp.alloc _).grown hgrow hob
          clear hown2 hgrow hown' hkp hob hsz
          go_wp2
          exact ⟨⟨_, k + 1, 1, _, rfl, rfl, by go_num, hO, hK2, by simp [hL], hWL, by omega, hs2, by omega⟩, by simp [intOf]; omega⟩
        · skip
          obtain ⟨Z, hZ⟩ : ∃ Z : Nat, Z = (X - T).toNat := ⟨_, rfl⟩
          have f5 : IntKind.u64.wrap (X - T) = (Z : Int) := by rw [IntKind.wrap_u64]; omega
          have hs2 := hst 0 Z (by omega)
          have f6 : IntKind.u32.wrap (Z : Int) = (Z : Int) := by rw [IntKind.wrap_u32]; omega
          have hWL : Wd (L ++ [(Z : Int)]) := hw.append (Wd.one (by omega))
          have hob := own_block hown
          have hown' : wr.ownsRow w.heap.size 80 1 v k (L.map (Value.int .u32)) := by rw [← hL]; exact hown
          have hsz := hkp.size
          have hkb : k < 1099511627776 := by omega
          have j0 : (0 : Int) ≤ (k : Int) := by omega
          have j1 : (k : Int) < (N : Int) := by omega
          have j2 : ((k : Int) < (M : Int)) := by omega
          clear ca cb
          clear hc hc' HX HY HW HN hN hM hX hY hv hZ hT hown wx wy hw hC hst
          go_wp2_with (first | (at_builtin; refine wpList_append_own _ rfl _ _ 47 rfl w.heap.size 80 i0 (.int .u32 0) 1 4 Tryz.underlying47 hi0 hi1 hi2 hi3 rfl (by decide) _ _ _ rfl (hown'.alloc _) ⟨wr.heap.size, 0, none⟩ 1 1 [.int .u32 (Z : Int)] rfl rfl ?c1f1 ?c2f1 ?c3f1 ?c4f1 ?c5f1 ?_))
          try case c1f1 =>
            intro j' u hj'
            match j', hj' with
            | 0, hj' => simp at hj'; subst hj'; simp [Addr.add]
          case c2f1 => first | rfl | (intro u hu; simp at hu; subst hu; rfl)
          case c3f1 => unfold maxLen; omega
          case c4f1 => omega
          case c5f1 => first | omega | (simp; omega)
          intro v' w1 hown2 hgrow _
          have hO : Own w1 w.heap.size v' (L ++ [(Z : Int)]) := by refine Own.push ?_; rw [hL]; exact hown2
          have hK2 : Kp w w1 := (hkp.alloc _).grown hgrow hob
          clear hown2 hgrow hown' hkp hob hsz
          go_wp2
          exact ⟨⟨_, k + 1, 0, _, rfl, rfl, by go_num, hO, hK2, by simp [hL], hWL, by omega, hs2, by omega⟩, by simp [intOf]; omega⟩
      · skip
        obtain ⟨b, off, rfl, hc⟩ := HX.out.at (k := k) (by omega)
        have e1 := kkeep hkp (hc k (by omega))
        have wx := HW.out.1 k
        have wy := HW.out.2.1 k
        have hy0 : ys.getD k 0 = 0 := getD_out ys k (by omega)
        obtain ⟨X, hX⟩ : ∃ X, X = xs.getD k 0 := ⟨_, rfl⟩
        obtain ⟨Y, hY⟩ : ∃ Y, Y = ys.getD k 0 := ⟨_, rfl⟩
        have hst := fun (C' Z : Nat) h => minus_step L xs ys k C C' Z hL h hv
        rw [← hX, ← hY] at hst
        rw [← hX] at wx e1
        rw [← hY] at wy hy0
        have f1 : IntKind.u64.wrap X = X := by rw [IntKind.wrap_u64]; omega
        by_cases ct : X < (C : Int)
        · skip
          obtain ⟨Z, hZ⟩ : ∃ Z : Nat, Z = (X + 4294967296 - (C : Int)).toNat := ⟨_, rfl⟩
          have f4 : IntKind.u64.wrap (X + 4294967296) = X + 4294967296 := by rw [IntKind.wrap_u64]; omega
          have f5 : IntKind.u64.wrap (X + 4294967296 - (C : Int)) = (Z : Int) := by rw [IntKind.wrap_u64]; omega
          have hs2 := hst 1 Z (by omega)
          have f6 : IntKind.u32.wrap (Z : Int) = (Z : Int) := by rw [IntKind.wrap_u32]; omega
          have hWL : Wd (L ++ [(Z : Int)]) := hw.append (Wd.one (by omega))
          have hob := own_block hown
          have hown' : wr.ownsRow w.heap.size 80 1 v k (L.map (Value.int .u32)) := by rw [← hL]; exact hown
          have hsz := hkp.size
          have hkb : k < 1099511627776 := by omega
          have j0 : (0 : Int) ≤ (k : Int) := by omega
          have j1 : (k : Int) < (N : Int) := by omega
          have j2 : ¬ ((k : Int) < (M : Int)) := by omega
          clear ca cb
          clear hc hy0 HX HY HW HN hN hM hX hY hv hZ hown wx wy hw hC hst
          go_wp2_with (first | (at_builtin; refine wpList_append_own _ rfl _ _ 47 rfl w.heap.size 80 i0 (.int .u32 0) 1 4 Tryz.underlying47 hi0 hi1 hi2 hi3 rfl (by decide) _ _ _ rfl (hown'.alloc _) ⟨wr.heap.size, 0, none⟩ 1 1 [.int .u32 (Z : Int)] rfl rfl ?c1g0 ?c2g0 ?c3g0 ?c4g0 ?c5g0 ?_))
          try case c1g0 =>
            intro j' u hj'
            match j', hj' with
            | 0, hj' => simp at hj'; subst hj'; simp [Addr.add]
          case c2g0 => first | rfl | (intro u hu; simp at hu; subst hu; rfl)
          case c3g0 => unfold maxLen; omega
          case c4g0 => omega
          case c5g0 => first | omega | (simp; omega)
          intro v' w1 hown2 hgrow _
          have hO : Own w1 w.heap.size v' (L ++ [(Z : Int)]) := by refine Own.push ?_; rw [hL]; exact hown2
          have hK2 : Kp w w1 := (hkp.alloc _).grown hgrow hob
          clear hown2 hgrow hown' hkp hob hsz
          go_wp2
          exact ⟨⟨_, k + 1, 1, _, rfl, rfl, by go_num, hO, hK2, by simp [hL], hWL, by omega, hs2, by omega⟩, by simp [intOf]; omega⟩
        · skip
          obtain ⟨Z, hZ⟩ : ∃ Z : Nat, Z = (X - (C : Int)).toNat := ⟨_, rfl⟩
          have f5 : IntKind.u64.wrap (X - (C : Int)) = (Z : Int) := by rw [IntKind.wrap_u64]; omega
          have hs2 := hst 0 Z (by omega)
          have f6 : IntKind.u32.wrap (Z : Int) = (Z : Int) := by rw [IntKind.wrap_u32]; omega
          have hWL : Wd (L ++ [(Z : Int)]) := hw.append (Wd.one (by omega))
          have hob := own_block hown
          have hown' : wr.ownsRow w.heap.size 80 1 v k (L.map (Value.int .u32)) := by rw [← hL]; exact hown
          have hsz := hkp.size
          have hkb : k < 1099511627776 := by omega
          have j0 : (0 : Int) ≤ (k : Int) := by omega
          have j1 : (k : Int) < (N : Int) := by omega
          have j2 : ¬ ((k : Int) < (M : Int)) := by omega
          clear ca cb
          clear hc hy0 HX HY HW HN hN hM hX hY hv hZ hown wx wy hw hC hst
          go_wp2_with (first | (at_builtin; refine wpList_append_own _ rfl _ _ 47 rfl w.heap.size 80 i0 (.int .u32 0) 1 4 Tryz.underlying47 hi0 hi1 hi2 hi3 rfl (by decide) _ _ _ rfl (hown'.alloc _) ⟨wr.heap.size, 0, none⟩ 1 1 [.int .u32 (Z : Int)] rfl rfl ?c1g1 ?c2g1 ?c3g1 ?c4g1 ?c5g1 ?_))
          try case c1g1 =>
            intro j' u hj'
            match j', hj' with
            | 0, hj' => simp at hj'; subst hj'; simp [Addr.add]
          case c2g1 => first | rfl | (intro u hu; simp at hu; subst hu; rfl)
          case c3g1 => unfold maxLen; omega
          case c4g1 => omega
          case c5g1 => first | omega | (simp; omega)
          intro v' w1 hown2 hgrow _
          have hO : Own w1 w.heap.size v' (L ++ [(Z : Int)]) := by refine Own.push ?_; rw [hL]; exact hown2
          have hK2 : Kp w w1 := (hkp.alloc _).grown hgrow hob
          clear hown2 hgrow hown' hkp hob hsz
          go_wp2
          exact ⟨⟨_, k + 1, 0, _, rfl, rfl, by go_num, hO, hK2, by simp [hL], hWL, by omega, hs2, by omega⟩, by simp [intOf]; omega⟩
    · have hkN : k = N := by omega
      have hv2 : val L = val xs - val ys := by
        rw [List.take_of_length_le (by omega), List.take_of_length_le (by omega)] at hv
        have := minus_end L xs ys C k hL hw HW.out.2.2 hv hC
        subst this
        omega
      have hLl : L.length ≤ 1099511627776 := by omega
      obtain ⟨p', c', rfl, hA, _⟩ := hown.arr
      have hno := rnorm_ p' c' L wr hA hLl
      rw [nz_dig L hw, hv2] at hno
      obtain ⟨D, hD⟩ : ∃ D, D = L.length := ⟨_, rfl⟩
      rw [← hD] at hno ⊢
      have i2 : ¬ ((k : Int) < (N : Int)) := by omega
      clear HX HY HW HN hN hM hv hown hw hC hA hv2 hL hLl hD hkN ca lx hl
      go_wp2_with fail
      refine hno.mono ?_
      rintro e w2 ⟨v2, rfl, hO2, hk2⟩
      clear hno
      go_wp2
      exact bodyPost_ret (v := v2) (by simp [results, Tryz.results110, go_sem] <;> simp only [*]) rfl ⟨v2, rfl, hO2.mono hkp.size, hkp.trans hk2⟩
end Go.Proofs.YthdnajcgdngmcaaGreatDoor
namespace Go.Proofs.YthdnajcgdngmcaaGreatDoor
open Go.RowKit
set_option maxRecDepth 20000 in
set_option maxHeartbeats 400000 in
theorem timesR (v1 v2 : Value) (a b : Nat) (w : World) (h1 : Ls w v1 (dig a)) (h2 : Ls w v2 (dig b)) (l1 : len32 a ≤ 16384) (l2 : len32 b ≤ 16384) :
    Calls Tryz.prog 73 #[v1, v2] w fun e w' => ∃ p c, e = .returned (.slice p (dig (a * b)).length c) ∧ Arr w' p (dig (a * b)) ∧ (dig (a * b)).length ≤ c ∧ Kp w w' := by
  obtain ⟨p, c, rfl, hA, hc⟩ := h1
  obtain ⟨q, d, rfl, hB, hd⟩ := h2
  have h := rtimes_ p q c d (dig a) (dig b) w hA hB (Wd_dig a) (Wd_dig b) (by change len32 a ≤ _; omega) (by change len32 b ≤ _; omega)
  rw [val_dig, val_dig] at h
  refine h.mono ?_
  rintro e w' ⟨v, h1, h2, h3⟩
  obtain ⟨p, c, rfl, h4, h5⟩ := h2.arr
  exact ⟨p, c, h1, h4, h5, h3⟩
set_option maxRecDepth 20000 in
set_option maxHeartbeats 400000 in
theorem plusR (v1 v2 : Value) (a b : Nat) (w : World) (h1 : Ls w v1 (dig a)) (h2 : Ls w v2 (dig b)) (l1 : len32 a ≤ 32768) (l2 : len32 b ≤ 32768) :
    Calls Tryz.prog 109 #[v1, v2] w fun e w' => ∃ p c, e = .returned (.slice p (dig (a + b)).length c) ∧ Arr w' p (dig (a + b)) ∧ (dig (a + b)).length ≤ c ∧ Kp w w' := by
  obtain ⟨p, c, rfl, hA, hc⟩ := h1
  obtain ⟨q, d, rfl, hB, hd⟩ := h2
  have h := rplus_ p q c d (dig a) (dig b) w hA hB (Wd_dig a) (Wd_dig b) (by change len32 a < _; omega) (by change len32 b < _; omega)
  refine h.mono ?_
  rintro e w' ⟨v, L, h1, h2, h3, h4, _, h5⟩
  rw [val_dig, val_dig] at h4
  rw [nz_dig L h3, h4] at h2
  obtain ⟨p, c, rfl, h6, h7⟩ := h2.arr
  exact ⟨p, c, h1, h6, h7, h5⟩
set_option maxRecDepth 20000 in
set_option maxHeartbeats 400000 in
theorem minusR (v1 v2 : Value) (a b : Nat) (w : World) (h1 : Ls w v1 (dig a)) (h2 : Ls w v2 (dig b)) (l1 : len32 a ≤ 32768) (hle : b ≤ a) :
    Calls Tryz.prog 110 #[v1, v2] w fun e w' => ∃ p c, e = .returned (.slice p (dig (a - b)).length c) ∧ Arr w' p (dig (a - b)) ∧ (dig (a - b)).length ≤ c ∧ Kp w w' := by
  obtain ⟨p, c, rfl, hA, hc⟩ := h1
  obtain ⟨q, d, rfl, hB, hd⟩ := h2
  have h := rminus_ p q c d (dig a) (dig b) w hA hB (Wd_dig a) (Wd_dig b) (by change len32 a < _; omega) (by exact len32_mono hle) (by rw [val_dig, val_dig]; exact hle)
  rw [val_dig, val_dig] at h
  refine h.mono ?_
  rintro e w' ⟨v, h1, h2, h3⟩
  obtain ⟨p, c, rfl, h4, h5⟩ := h2.arr
  exact ⟨p, c, h1, h4, h5, h3⟩
end Go.Proofs.YthdnajcgdngmcaaGreatDoor
namespace Go.Proofs.YthdnajcgdngmcaaGreatDoor
open Go.RowKit
theorem sgep0 (m : Nat) (h : m / 4503599627370496 = 0) : Fb.sgD m = m % 4503599627370496 ∧ Fb.epD m = -1074 := by
  have h1 : m < 4503599627370496 := by omega
  unfold Fb.sgD Fb.sgG Fb.epD Fb.epG
  rw [if_pos h1, if_pos h1, Nat.mod_eq_of_lt h1]
  exact ⟨rfl, rfl⟩
theorem sgep1 (m : Nat) (hm : m < 9218868437227405312) (h : m / 4503599627370496 ≠ 0) : Fb.sgD m = m % 4503599627370496 + 4503599627370496 ∧ Fb.epD m = ((m / 4503599627370496 : Nat) : Int) - 1 - 1074 := by
  have h1 : ¬ m < 4503599627370496 := by omega
  unfold Fb.sgD Fb.sgG Fb.epD Fb.epG
  rw [if_neg h1, if_pos hm, if_neg h1, if_pos hm]
  generalize m / 4503599627370496 = q
  exact ⟨by omega, by omega⟩
theorem small64 (f : Nat) (x : Int) (h : f < 18446744073709551616) (hx : x.natAbs ≤ 4096) : f < 18446744073709551616 ∧ blen f ≤ 64 ∧ x.natAbs ≤ 1048576 :=
  ⟨h, blen_lt f 64 (by rw [show (2 : Nat) ^ 64 = 18446744073709551616 from by decide]; exact h), by omega⟩
theorem fb_nums (eN fN f : Nat) (e1 x : Int) (b1 : eN < 2047) (b2 : fN < 4503599627370496) (h0 : eN ≠ 0) (hf : f = fN + 4503599627370496) (he1 : e1 = (eN : Int) - 1) (hx : x = e1 - 1074) :
    0 < (eN : Int) ∧ IntKind.u64.wrap ((fN : Int) + 4503599627370496) = (f : Int) ∧ wrap64 ((eN : Int) - 1) = e1 ∧ wrap64 (e1 - 1074) = x ∧ f < 18446744073709551616 ∧ x.natAbs ≤ 4096 := by
  refine ⟨by omega, ?_, ?_, ?_, by omega, by omega⟩
  · rw [IntKind.wrap_u64]; omega
  · rw [← he1]; exact w64x _ (by omega) (by omega)
  · rw [← hx]; exact w64x _ (by omega) (by omega)
theorem fb_e (eN : Nat) (b1 : eN < 2047) : IntKind.i64.wrap (eN : Int) = (eN : Int) ∧ wrap64 (eN : Int) = (eN : Int) := ⟨wi64 _ (by omega) (by omega), w64x _ (by omega) (by omega)⟩
theorem fb_bits (n : Bool) (m X Q eN fN : Nat) (hm : m < 9218868437227405312) (hX : X = Fb.wD n m) (hQ : Q = X / 4503599627370496) (he : eN = m / 4503599627370496) (hf : fN = m % 4503599627370496) :
    bits BinOp.and IntKind.u64 (Q : Int) 2047 = (eN : Int) ∧ bits BinOp.and IntKind.u64 (X : Int) 4503599627370495 = (fN : Int) ∧ (X : Int) / 9223372036854775808 = (if n = true then 1 else 0) ∧ eN < 2047 ∧ fN < 4503599627370496 ∧ X < 18446744073709551616 := by
  have hX9 : X < 18446744073709551616 := by rw [hX]; unfold Fb.wD; split <;> omega
  have e1 : Q % 2048 = eN := by rw [hQ, he, hX]; unfold Fb.wD; split <;> omega
  have e2 : X % 4503599627370496 = fN := by rw [hf, hX]; unfold Fb.wD; split <;> omega
  refine ⟨?_, ?_, ?_, by omega, by omega, hX9⟩
  · have h := u64_and_nat Q 2047 (by omega) (by decide)
    rw [show (2047 : Nat) = 2 ^ 11 - 1 from by decide, Nat.and_two_pow_sub_one_eq_mod, show (2 : Nat) ^ 11 = 2048 from by decide, e1] at h
    exact h
  · have h := u64_and_nat X 4503599627370495 hX9 (by decide)
    rw [show (4503599627370495 : Nat) = 2 ^ 52 - 1 from by decide, Nat.and_two_pow_sub_one_eq_mod, show (2 : Nat) ^ 52 = 4503599627370496 from by decide, e2] at h
    exact h
  · rw [hX]; unfold Fb.wD; cases n <;> simp <;> omega
end Go.Proofs.YthdnajcgdngmcaaGreatDoor
namespace Go.Proofs.YthdnajcgdngmcaaGreatDoor
open Go.RowKit
set_option maxRecDepth 20000 in
set_option maxHeartbeats 1000000 in
theorem rcmpL_ (S T9 : Int) (s : Bool) (p : Option Addr) (l c : Nat) (q : Option Addr) (k d : Nat) (s2 : Bool) (p2 : Option Addr) (l2 c2 : Nat) (q2 : Option Addr) (k2 d2 : Nat) (w : World) (hs1 : ∀ W : World, Kp w W → Calls Tryz.prog 71 #[.agg #[.bool s, .slice p l c, .slice q k d]] W fun e w' => e = .returned (.int .i64 S) ∧ Kp W w') (hs2 : ∀ W : World, Kp w W → Calls Tryz.prog 71 #[.agg #[.bool s2, .slice p2 l2 c2, .slice q2 k2 d2]] W fun e w' => e = .returned (.int .i64 T9) ∧ Kp W w') (t1 : S < T9) : Calls Tryz.prog 37 #[.agg #[.bool s, .slice p l c, .slice q k d], .agg #[.bool s2, .slice p2 l2 c2, .slice q2 k2 d2]] w fun e w' => e = .returned (.int .i64 (-1)) ∧ Kp w w' := by
  go_enter Tryz.func37, Tryz.ntmps37
  go_wp2_with (first | (go_at_call_of 71 (Value.slice p l c); refine (hs1 _ ?q0).mono ?_; (case q0 => exact ((Kp.refl w).alloc _).alloc _); rintro e wa ⟨rfl, ga⟩; have ka : Kp w wa := Kp.trans (((Kp.refl w).alloc _).alloc _) ga; have x0 := kkeep ga (b := w.heap.size) (o := 0) (v := .bool s) (by simp [go_sem]); have x1 := kkeep ga (b := w.heap.size) (o := 1) (v := .slice p l c) (by simp [go_sem]); have x2 := kkeep ga (b := w.heap.size) (o := 2) (v := .slice q k d) (by simp [go_sem]); have x3 := kkeep ga (b := w.heap.size + 1) (o := 0) (v := .bool s2) (by simp [go_sem]); have x4 := kkeep ga (b := w.heap.size + 1) (o := 1) (v := .slice p2 l2 c2) (by simp [go_sem]); have x5 := kkeep ga (b := w.heap.size + 1) (o := 2) (v := .slice q2 k2 d2) (by simp [go_sem])) | (go_at_call_of 71 (Value.slice p2 l2 c2); refine (hs2 _ ?q0).mono ?_; (case q0 => exact ka); rintro e wb ⟨rfl, gb⟩; have kb : Kp w wb := Kp.trans ka gb; have y0 := kkeep gb x0; have y1 := kkeep gb x1; have y2 := kkeep gb x2; have y3 := kkeep gb x3; have y4 := kkeep gb x4; have y5 := kkeep gb x5))
  exact bodyPost_ret (v := .int .i64 (-1)) (by simp [results, Tryz.results37, go_sem]) rfl ⟨rfl, kb⟩
set_option maxRecDepth 20000 in
set_option maxHeartbeats 1000000 in
theorem rcmpG_ (S T9 : Int) (s : Bool) (p : Option Addr) (l c : Nat) (q : Option Addr) (k d : Nat) (s2 : Bool) (p2 : Option Addr) (l2 c2 : Nat) (q2 : Option Addr) (k2 d2 : Nat) (w : World) (hs1 : ∀ W : World, Kp w W → Calls Tryz.prog 71 #[.agg #[.bool s, .slice p l c, .slice q k d]] W fun e w' => e = .returned (.int .i64 S) ∧ Kp W w') (hs2 : ∀ W : World, Kp w W → Calls Tryz.prog 71 #[.agg #[.bool s2, .slice p2 l2 c2, .slice q2 k2 d2]] W fun e w' => e = .returned (.int .i64 T9) ∧ Kp W w') (t2 : T9 < S) : Calls Tryz.prog 37 #[.agg #[.bool s, .slice p l c, .slice q k d], .agg #[.bool s2, .slice p2 l2 c2, .slice q2 k2 d2]] w fun e w' => e = .returned (.int .i64 1) ∧ Kp w w' := by
  go_enter Tryz.func37, Tryz.ntmps37
  go_wp2_with (first | (go_at_call_of 71 (Value.slice p l c); refine (hs1 _ ?q0).mono ?_; (case q0 => exact ((Kp.refl w).alloc _).alloc _); rintro e wa ⟨rfl, ga⟩; have ka : Kp w wa := Kp.trans (((Kp.refl w).alloc _).alloc _) ga; have x0 := kkeep ga (b := w.heap.size) (o := 0) (v := .bool s) (by simp [go_sem]); have x1 := kkeep ga (b := w.heap.size) (o := 1) (v := .slice p l c) (by simp [go_sem]); have x2 := kkeep ga (b := w.heap.size) (o := 2) (v := .slice q k d) (by simp [go_sem]); have x3 := kkeep ga (b := w.heap.size + 1) (o := 0) (v := .bool s2) (by simp [go_sem]); have x4 := kkeep ga (b := w.heap.size + 1) (o := 1) (v := .slice p2 l2 c2) (by simp [go_sem]); have x5 := kkeep ga (b := w.heap.size + 1) (o := 2) (v := .slice q2 k2 d2) (by simp [go_sem])) | (go_at_call_of 71 (Value.slice p2 l2 c2); refine (hs2 _ ?q0).mono ?_; (case q0 => exact ka); rintro e wb ⟨rfl, gb⟩; have kb : Kp w wb := Kp.trans ka gb; have y0 := kkeep gb x0; have y1 := kkeep gb x1; have y2 := kkeep gb x2; have y3 := kkeep gb x3; have y4 := kkeep gb x4; have y5 := kkeep gb x5))
  exact bodyPost_ret (v := .int .i64 1) (by simp [results, Tryz.results37, go_sem]) rfl ⟨rfl, kb⟩
set_option maxRecDepth 20000 in
set_option maxHeartbeats 1000000 in
theorem rcmpZ_ (S C9 : Int) (P1 P2 : World → Value → Prop) (s : Bool) (p : Option Addr) (l c : Nat) (q : Option Addr) (k d : Nat) (s2 : Bool) (p2 : Option Addr) (l2 c2 : Nat) (q2 : Option Addr) (k2 d2 : Nat) (w : World) (hk1 : ∀ (W W' : World) (v : Value), Kp W W' → P1 W v → P1 W' v) (hs1 : ∀ W : World, Kp w W → Calls Tryz.prog 71 #[.agg #[.bool s, .slice p l c, .slice q k d]] W fun e w' => e = .returned (.int .i64 S) ∧ Kp W w') (hs2 : ∀ W : World, Kp w W → Calls Tryz.prog 71 #[.agg #[.bool s2, .slice p2 l2 c2, .slice q2 k2 d2]] W fun e w' => e = .returned (.int .i64 S) ∧ Kp W w') (hT1 : ∀ W : World, Kp w W → Calls Tryz.prog 73 #[.slice p l c, .slice q2 k2 d2] W fun e w' => ∃ v, e = .returned v ∧ P1 w' v ∧ Kp W w') (hT2 : ∀ W : World, Kp w W → Calls Tryz.prog 73 #[.slice p2 l2 c2, .slice q k d] W fun e w' => ∃ v, e = .returned v ∧ P2 w' v ∧ Kp W w') (hC : ∀ (W : World) (u v : Value), Kp w W → P1 W u → P2 W v → Calls Tryz.prog 72 #[u, v] W fun e w' => e = .returned (.int .i64 C9) ∧ Kp W w') (t3 : (S == 0) = true) : Calls Tryz.prog 37 #[.agg #[.bool s, .slice p l c, .slice q k d], .agg #[.bool s2, .slice p2 l2 c2, .slice q2 k2 d2]] w fun e w' => e = .returned (.int .i64 0) ∧ Kp w w' := by
  cases s
  · skip
    go_enter Tryz.func37, Tryz.ntmps37
    go_wp2_with (first | (go_at_call_of 71 (Value.slice p l c); refine (hs1 _ ?q0).mono ?_; (case q0 => exact ((Kp.refl w).alloc _).alloc _); rintro e wa ⟨rfl, ga⟩; have ka : Kp w wa := Kp.trans (((Kp.refl w).alloc _).alloc _) ga; have x0 := kkeep ga (b := w.heap.size) (o := 0) (v := .bool false) (by simp [go_sem]); have x1 := kkeep ga (b := w.heap.size) (o := 1) (v := .slice p l c) (by simp [go_sem]); have x2 := kkeep ga (b := w.heap.size) (o := 2) (v := .slice q k d) (by simp [go_sem]); have x3 := kkeep ga (b := w.heap.size + 1) (o := 0) (v := .bool s2) (by simp [go_sem]); have x4 := kkeep ga (b := w.heap.size + 1) (o := 1) (v := .slice p2 l2 c2) (by simp [go_sem]); have x5 := kkeep ga (b := w.heap.size + 1) (o := 2) (v := .slice q2 k2 d2) (by simp [go_sem])) | (go_at_call_of 71 (Value.slice p2 l2 c2); refine (hs2 _ ?q0).mono ?_; (case q0 => exact ka); rintro e wb ⟨rfl, gb⟩; have kb : Kp w wb := Kp.trans ka gb; have y0 := kkeep gb x0; have y1 := kkeep gb x1; have y2 := kkeep gb x2; have y3 := kkeep gb x3; have y4 := kkeep gb x4; have y5 := kkeep gb x5))
    have dd0 : True := trivial
    have dw0 : wb.drew.cell? ⟨w.heap.size, 0, none⟩ = some (.bool false) := y0
    have dw1 : wb.drew.cell? ⟨w.heap.size, 1, none⟩ = some (.slice p l c) := y1
    have dw2 : wb.drew.cell? ⟨w.heap.size, 2, none⟩ = some (.slice q k d) := y2
    have dw3 : wb.drew.cell? ⟨w.heap.size + 1, 0, none⟩ = some (.bool s2) := y3
    have dw4 : wb.drew.cell? ⟨w.heap.size + 1, 1, none⟩ = some (.slice p2 l2 c2) := y4
    have dw5 : wb.drew.cell? ⟨w.heap.size + 1, 2, none⟩ = some (.slice q2 k2 d2) := y5
    go_region_held3 (fun w' => w'.cell? ⟨w.heap.size, 0, none⟩ = some (.bool false) ∧ w'.cell? ⟨w.heap.size, 1, none⟩ = some (.slice p l c) ∧ w'.cell? ⟨w.heap.size, 2, none⟩ = some (.slice q k d) ∧ w'.cell? ⟨w.heap.size + 1, 0, none⟩ = some (.bool s2) ∧ w'.cell? ⟨w.heap.size + 1, 1, none⟩ = some (.slice p2 l2 c2) ∧ w'.cell? ⟨w.heap.size + 1, 2, none⟩ = some (.slice q2 k2 d2)) (first | (with_reducible exact ⟨dw0, dw1, dw2, dw3, dw4, dw5⟩) | (with_reducible exact ⟨y0, y1, y2, y3, y4, y5⟩) | (with_reducible exact ⟨a0, a1, a2, a3, a4, a5⟩) | (with_reducible exact ⟨b0, b1, b2, b3, b4, b5⟩) | (with_reducible exact ⟨e0, e1, e2, e3, e4, e5⟩)) (first | (go_at_call_of 73 (Value.slice p l c); refine (hT1 _ ?q0).mono ?_; (case q0 => exact kb.drew); rintro e wc ⟨u9, rfl, hu, gc⟩; have kc : Kp w wc := Kp.trans kb.drew gc; have a0 := kkeep (Kp.trans (Kp.drew (Kp.refl _)) gc) y0; have a1 := kkeep (Kp.trans (Kp.drew (Kp.refl _)) gc) y1; have a2 := kkeep (Kp.trans (Kp.drew (Kp.refl _)) gc) y2; have a3 := kkeep (Kp.trans (Kp.drew (Kp.refl _)) gc) y3; have a4 := kkeep (Kp.trans (Kp.drew (Kp.refl _)) gc) y4; have a5 := kkeep (Kp.trans (Kp.drew (Kp.refl _)) gc) y5) | (go_at_call_of 73 (Value.slice p2 l2 c2); refine (hT2 _ ?q0).mono ?_; (case q0 => exact kc); rintro e wd ⟨v9, rfl, hv, gd⟩; have kd : Kp w wd := Kp.trans kc gd; have hu2 := hk1 _ _ _ gd hu; have b0 := kkeep gd a0; have b1 := kkeep gd a1; have b2 := kkeep gd a2; have b3 := kkeep gd a3; have b4 := kkeep gd a4; have b5 := kkeep gd a5) | (go_at_call 72; refine (hC _ u9 v9 kd hu2 hv).mono ?_; rintro e we ⟨rfl, ge⟩; have ke : Kp w we := Kp.trans kd ge; have e0 := kkeep ge b0; have e1 := kkeep ge b1; have e2 := kkeep ge b2; have e3 := kkeep ge b3; have e4 := kkeep ge b4; have e5 := kkeep ge b5))
    go_wp2
    exact bodyPost_ret (v := .int .i64 0) (by simp [results, Tryz.results37, go_sem]) rfl ⟨rfl, ke⟩
  · skip
    go_enter Tryz.func37, Tryz.ntmps37
    go_wp2_with (first | (go_at_call_of 71 (Value.slice p l c); refine (hs1 _ ?q0).mono ?_; (case q0 => exact ((Kp.refl w).alloc _).alloc _); rintro e wa ⟨rfl, ga⟩; have ka : Kp w wa := Kp.trans (((Kp.refl w).alloc _).alloc _) ga; have x0 := kkeep ga (b := w.heap.size) (o := 0) (v := .bool true) (by simp [go_sem]); have x1 := kkeep ga (b := w.heap.size) (o := 1) (v := .slice p l c) (by simp [go_sem]); have x2 := kkeep ga (b := w.heap.size) (o := 2) (v := .slice q k d) (by simp [go_sem]); have x3 := kkeep ga (b := w.heap.size + 1) (o := 0) (v := .bool s2) (by simp [go_sem]); have x4 := kkeep ga (b := w.heap.size + 1) (o := 1) (v := .slice p2 l2 c2) (by simp [go_sem]); have x5 := kkeep ga (b := w.heap.size + 1) (o := 2) (v := .slice q2 k2 d2) (by simp [go_sem])) | (go_at_call_of 71 (Value.slice p2 l2 c2); refine (hs2 _ ?q0).mono ?_; (case q0 => exact ka); rintro e wb ⟨rfl, gb⟩; have kb : Kp w wb := Kp.trans ka gb; have y0 := kkeep gb x0; have y1 := kkeep gb x1; have y2 := kkeep gb x2; have y3 := kkeep gb x3; have y4 := kkeep gb x4; have y5 := kkeep gb x5))
    have dd0 : True := trivial
    have dw0 : wb.drew.cell? ⟨w.heap.size, 0, none⟩ = some (.bool true) := y0
    have dw1 : wb.drew.cell? ⟨w.heap.size, 1, none⟩ = some (.slice p l c) := y1
    have dw2 : wb.drew.cell? ⟨w.heap.size, 2, none⟩ = some (.slice q k d) := y2
    have dw3 : wb.drew.cell? ⟨w.heap.size + 1, 0, none⟩ = some (.bool s2) := y3
    have dw4 : wb.drew.cell? ⟨w.heap.size + 1, 1, none⟩ = some (.slice p2 l2 c2) := y4
    have dw5 : wb.drew.cell? ⟨w.heap.size + 1, 2, none⟩ = some (.slice q2 k2 d2) := y5
    go_region_held3 (fun w' => w'.cell? ⟨w.heap.size, 0, none⟩ = some (.bool true) ∧ w'.cell? ⟨w.heap.size, 1, none⟩ = some (.slice p l c) ∧ w'.cell? ⟨w.heap.size, 2, none⟩ = some (.slice q k d) ∧ w'.cell? ⟨w.heap.size + 1, 0, none⟩ = some (.bool s2) ∧ w'.cell? ⟨w.heap.size + 1, 1, none⟩ = some (.slice p2 l2 c2) ∧ w'.cell? ⟨w.heap.size + 1, 2, none⟩ = some (.slice q2 k2 d2)) (first | (with_reducible exact ⟨dw0, dw1, dw2, dw3, dw4, dw5⟩) | (with_reducible exact ⟨y0, y1, y2, y3, y4, y5⟩) | (with_reducible exact ⟨a0, a1, a2, a3, a4, a5⟩) | (with_reducible exact ⟨b0, b1, b2, b3, b4, b5⟩) | (with_reducible exact ⟨e0, e1, e2, e3, e4, e5⟩)) (first | (go_at_call_of 73 (Value.slice p l c); refine (hT1 _ ?q0).mono ?_; (case q0 => exact kb.drew); rintro e wc ⟨u9, rfl, hu, gc⟩; have kc : Kp w wc := Kp.trans kb.drew gc; have a0 := kkeep (Kp.trans (Kp.drew (Kp.refl _)) gc) y0; have a1 := kkeep (Kp.trans (Kp.drew (Kp.refl _)) gc) y1; have a2 := kkeep (Kp.trans (Kp.drew (Kp.refl _)) gc) y2; have a3 := kkeep (Kp.trans (Kp.drew (Kp.refl _)) gc) y3; have a4 := kkeep (Kp.trans (Kp.drew (Kp.refl _)) gc) y4; have a5 := kkeep (Kp.trans (Kp.drew (Kp.refl _)) gc) y5) | (go_at_call_of 73 (Value.slice p2 l2 c2); refine (hT2 _ ?q0).mono ?_; (case q0 => exact kc); rintro e wd ⟨v9, rfl, hv, gd⟩; have kd : Kp w wd := Kp.trans kc gd; have hu2 := hk1 _ _ _ gd hu; have b0 := kkeep gd a0; have b1 := kkeep gd a1; have b2 := kkeep gd a2; have b3 := kkeep gd a3; have b4 := kkeep gd a4; have b5 := kkeep gd a5) | (go_at_call 72; refine (hC _ u9 v9 kd hu2 hv).mono ?_; rintro e we ⟨rfl, ge⟩; have ke : Kp w we := Kp.trans kd ge; have e0 := kkeep ge b0; have e1 := kkeep ge b1; have e2 := kkeep ge b2; have e3 := kkeep ge b3; have e4 := kkeep ge b4; have e5 := kkeep ge b5))
    go_wp2
    exact bodyPost_ret (v := .int .i64 0) (by simp [results, Tryz.results37, go_sem]) rfl ⟨rfl, ke⟩
set_option maxRecDepth 20000 in
set_option maxHeartbeats 1000000 in
theorem rcmpP_ (S C9 : Int) (P1 P2 : World → Value → Prop) (p : Option Addr) (l c : Nat) (q : Option Addr) (k d : Nat) (s2 : Bool) (p2 : Option Addr) (l2 c2 : Nat) (q2 : Option Addr) (k2 d2 : Nat) (w : World) (hk1 : ∀ (W W' : World) (v : Value), Kp W W' → P1 W v → P1 W' v) (hs1 : ∀ W : World, Kp w W → Calls Tryz.prog 71 #[.agg #[.bool false, .slice p l c, .slice q k d]] W fun e w' => e = .returned (.int .i64 S) ∧ Kp W w') (hs2 : ∀ W : World, Kp w W → Calls Tryz.prog 71 #[.agg #[.bool s2, .slice p2 l2 c2, .slice q2 k2 d2]] W fun e w' => e = .returned (.int .i64 S) ∧ Kp W w') (hT1 : ∀ W : World, Kp w W → Calls Tryz.prog 73 #[.slice p l c, .slice q2 k2 d2] W fun e w' => ∃ v, e = .returned v ∧ P1 w' v ∧ Kp W w') (hT2 : ∀ W : World, Kp w W → Calls Tryz.prog 73 #[.slice p2 l2 c2, .slice q k d] W fun e w' => ∃ v, e = .returned v ∧ P2 w' v ∧ Kp W w') (hC : ∀ (W : World) (u v : Value), Kp w W → P1 W u → P2 W v → Calls Tryz.prog 72 #[u, v] W fun e w' => e = .returned (.int .i64 C9) ∧ Kp W w') (t3 : (S == 0) = false) : Calls Tryz.prog 37 #[.agg #[.bool false, .slice p l c, .slice q k d], .agg #[.bool s2, .slice p2 l2 c2, .slice q2 k2 d2]] w fun e w' => e = .returned (.int .i64 C9) ∧ Kp w w' := by
  go_enter Tryz.func37, Tryz.ntmps37
  go_wp2_with (first | (go_at_call_of 71 (Value.slice p l c); refine (hs1 _ ?q0).mono ?_; (case q0 => exact ((Kp.refl w).alloc _).alloc _); rintro e wa ⟨rfl, ga⟩; have ka : Kp w wa := Kp.trans (((Kp.refl w).alloc _).alloc _) ga; have x0 := kkeep ga (b := w.heap.size) (o := 0) (v := .bool false) (by simp [go_sem]); have x1 := kkeep ga (b := w.heap.size) (o := 1) (v := .slice p l c) (by simp [go_sem]); have x2 := kkeep ga (b := w.heap.size) (o := 2) (v := .slice q k d) (by simp [go_sem]); have x3 := kkeep ga (b := w.heap.size + 1) (o := 0) (v := .bool s2) (by simp [go_sem]); have x4 := kkeep ga (b := w.heap.size + 1) (o := 1) (v := .slice p2 l2 c2) (by simp [go_sem]); have x5 := kkeep ga (b := w.heap.size + 1) (o := 2) (v := .slice q2 k2 d2) (by simp [go_sem])) | (go_at_call_of 71 (Value.slice p2 l2 c2); refine (hs2 _ ?q0).mono ?_; (case q0 => exact ka); rintro e wb ⟨rfl, gb⟩; have kb : Kp w wb := Kp.trans ka gb; have y0 := kkeep gb x0; have y1 := kkeep gb x1; have y2 := kkeep gb x2; have y3 := kkeep gb x3; have y4 := kkeep gb x4; have y5 := kkeep gb x5))
  have dd0 : True := trivial
  have dw0 : wb.drew.cell? ⟨w.heap.size, 0, none⟩ = some (.bool false) := y0
  have dw1 : wb.drew.cell? ⟨w.heap.size, 1, none⟩ = some (.slice p l c) := y1
  have dw2 : wb.drew.cell? ⟨w.heap.size, 2, none⟩ = some (.slice q k d) := y2
  have dw3 : wb.drew.cell? ⟨w.heap.size + 1, 0, none⟩ = some (.bool s2) := y3
  have dw4 : wb.drew.cell? ⟨w.heap.size + 1, 1, none⟩ = some (.slice p2 l2 c2) := y4
  have dw5 : wb.drew.cell? ⟨w.heap.size + 1, 2, none⟩ = some (.slice q2 k2 d2) := y5
  go_region_held3 (fun w' => w'.cell? ⟨w.heap.size, 0, none⟩ = some (.bool false) ∧ w'.cell? ⟨w.heap.size, 1, none⟩ = some (.slice p l c) ∧ w'.cell? ⟨w.heap.size, 2, none⟩ = some (.slice q k d) ∧ w'.cell? ⟨w.heap.size + 1, 0, none⟩ = some (.bool s2) ∧ w'.cell? ⟨w.heap.size + 1, 1, none⟩ = some (.slice p2 l2 c2) ∧ w'.cell? ⟨w.heap.size + 1, 2, none⟩ = some (.slice q2 k2 d2)) (first | (with_reducible exact ⟨dw0, dw1, dw2, dw3, dw4, dw5⟩) | (with_reducible exact ⟨y0, y1, y2, y3, y4, y5⟩) | (with_reducible exact ⟨a0, a1, a2, a3, a4, a5⟩) | (with_reducible exact ⟨b0, b1, b2, b3, b4, b5⟩) | (with_reducible exact ⟨e0, e1, e2, e3, e4, e5⟩)) (first | (go_at_call_of 73 (Value.slice p l c); refine (hT1 _ ?q0).mono ?_; (case q0 => exact kb.drew); rintro e wc ⟨u9, rfl, hu, gc⟩; have kc : Kp w wc := Kp.trans kb.drew gc; have a0 := kkeep (Kp.trans (Kp.drew (Kp.refl _)) gc) y0; have a1 := kkeep (Kp.trans (Kp.drew (Kp.refl _)) gc) y1; have a2 := kkeep (Kp.trans (Kp.drew (Kp.refl _)) gc) y2; have a3 := kkeep (Kp.trans (Kp.drew (Kp.refl _)) gc) y3; have a4 := kkeep (Kp.trans (Kp.drew (Kp.refl _)) gc) y4; have a5 := kkeep (Kp.trans (Kp.drew (Kp.refl _)) gc) y5) | (go_at_call_of 73 (Value.slice p2 l2 c2); refine (hT2 _ ?q0).mono ?_; (case q0 => exact kc); rintro e wd ⟨v9, rfl, hv, gd⟩; have kd : Kp w wd := Kp.trans kc gd; have hu2 := hk1 _ _ _ gd hu; have b0 := kkeep gd a0; have b1 := kkeep gd a1; have b2 := kkeep gd a2; have b3 := kkeep gd a3; have b4 := kkeep gd a4; have b5 := kkeep gd a5) | (go_at_call 72; refine (hC _ u9 v9 kd hu2 hv).mono ?_; rintro e we ⟨rfl, ge⟩; have ke : Kp w we := Kp.trans kd ge; have e0 := kkeep ge b0; have e1 := kkeep ge b1; have e2 := kkeep ge b2; have e3 := kkeep ge b3; have e4 := kkeep ge b4; have e5 := kkeep ge b5))
  go_wp2
  exact bodyPost_ret (v := .int .i64 C9) (by simp [results, Tryz.results37, go_sem]) rfl ⟨rfl, ke⟩
set_option maxRecDepth 20000 in
set_option maxHeartbeats 1000000 in
theorem rcmpN_ (S C9 : Int) (P1 P2 : World → Value → Prop) (p : Option Addr) (l c : Nat) (q : Option Addr) (k d : Nat) (s2 : Bool) (p2 : Option Addr) (l2 c2 : Nat) (q2 : Option Addr) (k2 d2 : Nat) (w : World) (hk1 : ∀ (W W' : World) (v : Value), Kp W W' → P1 W v → P1 W' v) (hs1 : ∀ W : World, Kp w W → Calls Tryz.prog 71 #[.agg #[.bool true, .slice p l c, .slice q k d]] W fun e w' => e = .returned (.int .i64 S) ∧ Kp W w') (hs2 : ∀ W : World, Kp w W → Calls Tryz.prog 71 #[.agg #[.bool s2, .slice p2 l2 c2, .slice q2 k2 d2]] W fun e w' => e = .returned (.int .i64 S) ∧ Kp W w') (hT1 : ∀ W : World, Kp w W → Calls Tryz.prog 73 #[.slice p l c, .slice q2 k2 d2] W fun e w' => ∃ v, e = .returned v ∧ P1 w' v ∧ Kp W w') (hT2 : ∀ W : World, Kp w W → Calls Tryz.prog 73 #[.slice p2 l2 c2, .slice q k d] W fun e w' => ∃ v, e = .returned v ∧ P2 w' v ∧ Kp W w') (hC : ∀ (W : World) (u v : Value), Kp w W → P1 W u → P2 W v → Calls Tryz.prog 72 #[u, v] W fun e w' => e = .returned (.int .i64 C9) ∧ Kp W w') (t3 : (S == 0) = false) (t4 : IntKind.i64.wrap (-C9) = -C9) : Calls Tryz.prog 37 #[.agg #[.bool true, .slice p l c, .slice q k d], .agg #[.bool s2, .slice p2 l2 c2, .slice q2 k2 d2]] w fun e w' => e = .returned (.int .i64 (-C9)) ∧ Kp w w' := by
  go_enter Tryz.func37, Tryz.ntmps37
  go_wp2_with (first | (go_at_call_of 71 (Value.slice p l c); refine (hs1 _ ?q0).mono ?_; (case q0 => exact ((Kp.refl w).alloc _).alloc _); rintro e wa ⟨rfl, ga⟩; have ka : Kp w wa := Kp.trans (((Kp.refl w).alloc _).alloc _) ga; have x0 := kkeep ga (b := w.heap.size) (o := 0) (v := .bool true) (by simp [go_sem]); have x1 := kkeep ga (b := w.heap.size) (o := 1) (v := .slice p l c) (by simp [go_sem]); have x2 := kkeep ga (b := w.heap.size) (o := 2) (v := .slice q k d) (by simp [go_sem]); have x3 := kkeep ga (b := w.heap.size + 1) (o := 0) (v := .bool s2) (by simp [go_sem]); have x4 := kkeep ga (b := w.heap.size + 1) (o := 1) (v := .slice p2 l2 c2) (by simp [go_sem]); have x5 := kkeep ga (b := w.heap.size + 1) (o := 2) (v := .slice q2 k2 d2) (by simp [go_sem])) | (go_at_call_of 71 (Value.slice p2 l2 c2); refine (hs2 _ ?q0).mono ?_; (case q0 => exact ka); rintro e wb ⟨rfl, gb⟩; have kb : Kp w wb := Kp.trans ka gb; have y0 := kkeep gb x0; have y1 := kkeep gb x1; have y2 := kkeep gb x2; have y3 := kkeep gb x3; have y4 := kkeep gb x4; have y5 := kkeep gb x5))
  have dd0 : True := trivial
  have dw0 : wb.drew.cell? ⟨w.heap.size, 0, none⟩ = some (.bool true) := y0
  have dw1 : wb.drew.cell? ⟨w.heap.size, 1, none⟩ = some (.slice p l c) := y1
  have dw2 : wb.drew.cell? ⟨w.heap.size, 2, none⟩ = some (.slice q k d) := y2
  have dw3 : wb.drew.cell? ⟨w.heap.size + 1, 0, none⟩ = some (.bool s2) := y3
  have dw4 : wb.drew.cell? ⟨w.heap.size + 1, 1, none⟩ = some (.slice p2 l2 c2) := y4
  have dw5 : wb.drew.cell? ⟨w.heap.size + 1, 2, none⟩ = some (.slice q2 k2 d2) := y5
  go_region_held3 (fun w' => w'.cell? ⟨w.heap.size, 0, none⟩ = some (.bool true) ∧ w'.cell? ⟨w.heap.size, 1, none⟩ = some (.slice p l c) ∧ w'.cell? ⟨w.heap.size, 2, none⟩ = some (.slice q k d) ∧ w'.cell? ⟨w.heap.size + 1, 0, none⟩ = some (.bool s2) ∧ w'.cell? ⟨w.heap.size + 1, 1, none⟩ = some (.slice p2 l2 c2) ∧ w'.cell? ⟨w.heap.size + 1, 2, none⟩ = some (.slice q2 k2 d2)) (first | (with_reducible exact ⟨dw0, dw1, dw2, dw3, dw4, dw5⟩) | (with_reducible exact ⟨y0, y1, y2, y3, y4, y5⟩) | (with_reducible exact ⟨a0, a1, a2, a3, a4, a5⟩) | (with_reducible exact ⟨b0, b1, b2, b3, b4, b5⟩) | (with_reducible exact ⟨e0, e1, e2, e3, e4, e5⟩)) (first | (go_at_call_of 73 (Value.slice p l c); refine (hT1 _ ?q0).mono ?_; (case q0 => exact kb.drew); rintro e wc ⟨u9, rfl, hu, gc⟩; have kc : Kp w wc := Kp.trans kb.drew gc; have a0 := kkeep (Kp.trans (Kp.drew (Kp.refl _)) gc) y0; have a1 := kkeep (Kp.trans (Kp.drew (Kp.refl _)) gc) y1; have a2 := kkeep (Kp.trans (Kp.drew (Kp.refl _)) gc) y2; have a3 := kkeep (Kp.trans (Kp.drew (Kp.refl _)) gc) y3; have a4 := kkeep (Kp.trans (Kp.drew (Kp.refl _)) gc) y4; have a5 := kkeep (Kp.trans (Kp.drew (Kp.refl _)) gc) y5) | (go_at_call_of 73 (Value.slice p2 l2 c2); refine (hT2 _ ?q0).mono ?_; (case q0 => exact kc); rintro e wd ⟨v9, rfl, hv, gd⟩; have kd : Kp w wd := Kp.trans kc gd; have hu2 := hk1 _ _ _ gd hu; have b0 := kkeep gd a0; have b1 := kkeep gd a1; have b2 := kkeep gd a2; have b3 := kkeep gd a3; have b4 := kkeep gd a4; have b5 := kkeep gd a5) | (go_at_call 72; refine (hC _ u9 v9 kd hu2 hv).mono ?_; rintro e we ⟨rfl, ge⟩; have ke : Kp w we := Kp.trans kd ge; have e0 := kkeep ge b0; have e1 := kkeep ge b1; have e2 := kkeep ge b2; have e3 := kkeep ge b3; have e4 := kkeep ge b4; have e5 := kkeep ge b5))
  go_wp2
  exact bodyPost_ret (v := .int .i64 (-C9)) (by simp [results, Tryz.results37, go_sem]) rfl ⟨rfl, ke⟩
end Go.Proofs.YthdnajcgdngmcaaGreatDoor
namespace Go.Proofs.YthdnajcgdngmcaaGreatDoor
open Go.RowKit
/-- a ratio's upper part with its sign -/
def rvI (s : Bool) (a : Nat) : Int := if s then -(a : Int) else a
def cmI (x y : Int) : Int := if x < y then -1 else if y < x then 1 else 0
theorem rcmp6_ (s : Bool) (p : Option Addr) (l c : Nat) (q : Option Addr) (k d : Nat) (s2 : Bool) (p2 : Option Addr) (l2 c2 : Nat) (q2 : Option Addr) (k2 d2 : Nat) (a b x y : Nat) (B1 B2 : Nat) (w : World) (h1 : Own w B1 (.slice p l c) (dig a)) (h2 : Own w B1 (.slice q k d) (dig b)) (h3 : Own w B2 (.slice p2 l2 c2) (dig x)) (h4 : Own w B2 (.slice q2 k2 d2) (dig y)) (zb : b ≠ 0) (zy : y ≠ 0) (la : blen a ≤ 200000) (lb : blen b ≤ 200000) (lx : blen x ≤ 200000) (ly : blen y ≤ 200000) : Calls Tryz.prog 37 #[.agg #[.bool s, .slice p l c, .slice q k d], .agg #[.bool s2, .slice p2 l2 c2, .slice q2 k2 d2]] w fun e w' => e = .returned (.int .i64 (cmI (rvI s a * y) (rvI s2 x * b))) ∧ Kp w w' := by
  have hs1 : ∀ W : World, Kp w W → Calls Tryz.prog 71 #[.agg #[.bool s, .slice p l c, .slice q k d]] W fun e w' => e = .returned (.int .i64 (if a = 0 then 0 else if s then -1 else 1)) ∧ Kp W w' := fun W g => rsign_ s _ _ a W (h1.kp g).ls (by omega)
  have hs2 : ∀ W : World, Kp w W → Calls Tryz.prog 71 #[.agg #[.bool s2, .slice p2 l2 c2, .slice q2 k2 d2]] W fun e w' => e = .returned (.int .i64 (if x = 0 then 0 else if s2 then -1 else 1)) ∧ Kp W w' := fun W g => rsign_ s2 _ _ x W (h3.kp g).ls (by omega)
  have len : ∀ z : Nat, blen z ≤ 200000 → len32 z ≤ 16384 := fun z hz => dlen z 16384 (by omega)
  have hT1 : ∀ W : World, Kp w W → Calls Tryz.prog 73 #[.slice p l c, .slice q2 k2 d2] W fun e w' => ∃ v, e = .returned v ∧ Ls w' v (dig (a * y)) ∧ Kp W w' := fun W g => (timesR _ _ a y W (h1.kp g).ls (h4.kp g).ls (len a la) (len y ly)).mono (fun e w' ⟨pp, cc, e1, ar, ll, g2⟩ => ⟨_, e1, ⟨pp, cc, rfl, ar, ll⟩, g2⟩)
  have hT2 : ∀ W : World, Kp w W → Calls Tryz.prog 73 #[.slice p2 l2 c2, .slice q k d] W fun e w' => ∃ v, e = .returned v ∧ Ls w' v (dig (x * b)) ∧ Kp W w' := fun W g => (timesR _ _ x b W (h3.kp g).ls (h2.kp g).ls (len x lx) (len b lb)).mono (fun e w' ⟨pp, cc, e1, ar, ll, g2⟩ => ⟨_, e1, ⟨pp, cc, rfl, ar, ll⟩, g2⟩)
  have bl : ∀ u v : Nat, blen u ≤ 200000 → blen v ≤ 200000 → blen (u * v) ≤ 33554432 := fun u v h1 h2 => by
    obtain ⟨T5, hT5⟩ : ∃ T5 : Nat, T5 = 200000 := ⟨_, rfl⟩
    have g : blen (u * v) ≤ T5 + T5 := by
      rw [blen_le_iff, Nat.pow_add]
      exact Nat.mul_lt_mul'' ((blen_le_iff u T5).1 (by omega)) ((blen_le_iff v T5).1 (by omega))
    omega
  have hC : ∀ (W : World) (u v : Value), Kp w W → Ls W u (dig (a * y)) → Ls W v (dig (x * b)) → Calls Tryz.prog 72 #[u, v] W fun e w' => e = .returned (.int .i64 (cmpN (a * y) (x * b))) ∧ Kp W w' := fun W u v _ g1 g2 => cmpR u v (a * y) (x * b) W g1 g2 (bl a y la ly) (bl x b lx lb)
  have hk : ∀ (W W' : World) (v : Value), Kp W W' → Ls W v (dig (a * y)) → Ls W' v (dig (a * y)) := fun W W' v g h => h.kp g
  have py : 0 < y := by omega
  have pb : 0 < b := by omega
  have key : ∀ u v : Nat, 0 < v → 0 < u → 0 < u * v := fun u v h1 h2 => Nat.mul_pos h2 h1
  obtain ⟨A9, hA9⟩ : ∃ A9, A9 = a * y := ⟨_, rfl⟩
  obtain ⟨X9, hX9⟩ : ∃ X9, X9 = x * b := ⟨_, rfl⟩
  have eA : rvI s a * (y : Int) = rvI s A9 := by unfold rvI; rw [hA9]; cases s <;> simp [Int.neg_mul]
  have eX : rvI s2 x * (b : Int) = rvI s2 X9 := by unfold rvI; rw [hX9]; cases s2 <;> simp [Int.neg_mul]
  have zA : a = 0 ↔ A9 = 0 := by rw [hA9]; constructor <;> intro h; rw [h]; simp; rcases Nat.mul_eq_zero.1 h with h | h; exact h; omega
  have zX : x = 0 ↔ X9 = 0 := by rw [hX9]; constructor <;> intro h; rw [h]; simp; rcases Nat.mul_eq_zero.1 h with h | h; exact h; omega
  rw [eA, eX]
  rw [← hA9] at hT1 hC hk
  rw [← hX9] at hT2 hC
  simp only [zA] at hs1
  simp only [zX] at hs2
  obtain ⟨S, hS⟩ : ∃ S : Int, S = if A9 = 0 then 0 else if s then -1 else 1 := ⟨_, rfl⟩
  obtain ⟨U, hU⟩ : ∃ U : Int, U = if X9 = 0 then 0 else if s2 then -1 else 1 := ⟨_, rfl⟩
  rw [← hS] at hs1
  rw [← hU] at hs2
  have hcm : cmpN A9 X9 = cmI (A9 : Int) X9 := by
    unfold cmpN cmI
    by_cases c1 : A9 < X9
    · rw [if_pos c1, if_pos (show (A9 : Int) < X9 by omega)]
    · rw [if_neg c1, if_neg (show ¬ (A9 : Int) < X9 by omega)]
      by_cases c2 : X9 < A9
      · rw [if_pos c2, if_pos (show (X9 : Int) < A9 by omega)]
      · rw [if_neg c2, if_neg (show ¬ (X9 : Int) < A9 by omega)]
  clear eA eX zA zX hA9 hX9 h1 h2 h3 h4
  have e1 : S < U → cmI (rvI s A9) (rvI s2 X9) = -1 := fun g => by
    rw [hS, hU] at g
    unfold cmI rvI
    rw [if_pos]
    by_cases c1 : A9 = 0 <;> by_cases c2 : X9 = 0 <;> cases s <;> cases s2 <;> simp [c1, c2] at g ⊢ <;> omega
  have e2 : U < S → cmI (rvI s A9) (rvI s2 X9) = 1 := fun g => by
    rw [hS, hU] at g
    have : rvI s2 X9 < rvI s A9 := by
      unfold rvI
      by_cases c1 : A9 = 0 <;> by_cases c2 : X9 = 0 <;> cases s <;> cases s2 <;> simp [c1, c2] at g ⊢ <;> omega
    unfold cmI
    rw [if_neg (by omega), if_pos this]
  rcases Int.lt_trichotomy S U with g | g | g
  · rw [e1 g]
    exact rcmpL_ S U s p l c q k d s2 p2 l2 c2 q2 k2 d2 w hs1 hs2 g
  · rw [← g] at hs2
    by_cases z : A9 = 0
    · have zU : X9 = 0 := by
        rw [hS, hU, if_pos z] at g
        by_cases c2 : X9 = 0
        · exact c2
        · rw [if_neg c2] at g; cases s2 <;> simp at g
      have e3 : cmI (rvI s A9) (rvI s2 X9) = 0 := by rw [z, zU]; cases s <;> cases s2 <;> rfl
      rw [e3]
      exact rcmpZ_ S _ _ _ s p l c q k d s2 p2 l2 c2 q2 k2 d2 w hk hs1 hs2 hT1 hT2 hC (by rw [hS, if_pos z]; rfl)
    · have zS : (S == 0) = false := by rw [hS, if_neg z]; cases s <;> rfl
      have ss : s = s2 := by
        rw [hS, hU, if_neg z] at g
        by_cases c2 : X9 = 0
        · rw [if_pos c2] at g; cases s <;> simp at g
        · rw [if_neg c2] at g; cases s <;> cases s2 <;> simp at g ⊢
      subst ss
      cases s
      · have e3 : cmI (rvI false A9) (rvI false X9) = cmpN A9 X9 := hcm.symm
        rw [e3]
        exact rcmpP_ S _ _ _ p l c q k d false p2 l2 c2 q2 k2 d2 w hk hs1 hs2 hT1 hT2 hC zS
      · have e3 : cmI (rvI true A9) (rvI true X9) = - cmpN A9 X9 := by
          rw [hcm]; unfold cmI rvI
          by_cases c1 : A9 < X9
          · rw [if_neg (by simp; omega), if_pos (by simp; omega), if_pos (by omega)]; rfl
          · by_cases c2 : X9 < A9
            · rw [if_pos (by simp; omega), if_neg (by omega), if_pos (by omega)]
            · rw [if_neg (by simp; omega), if_neg (by simp; omega), if_neg (by omega), if_neg (by omega)]; rfl
        have wr : IntKind.i64.wrap (-(cmpN A9 X9)) = -(cmpN A9 X9) := by
          rw [hcm]; unfold cmI
          by_cases c1 : (A9 : Int) < X9
          · rw [if_pos c1]; decide +kernel
          · rw [if_neg c1]
            by_cases c2 : (X9 : Int) < A9
            · rw [if_pos c2]; decide +kernel
            · rw [if_neg c2]; decide +kernel
        rw [e3]
        exact rcmpN_ S _ _ _ p l c q k d true p2 l2 c2 q2 k2 d2 w hk hs1 hs2 hT1 hT2 hC zS wr
  · rw [e2 g]
    exact rcmpG_ S U s p l c q k d s2 p2 l2 c2 q2 k2 d2 w hs1 hs2 g
end Go.Proofs.YthdnajcgdngmcaaGreatDoor
namespace Go.Proofs.YthdnajcgdngmcaaGreatDoor
open Go.RowKit
set_option maxRecDepth 20000 in
set_option maxHeartbeats 1000000 in
theorem raddEqO_ (sa sb : Bool) (a1 a2 b1 b2 : Nat) (P1 P2 Q1 Q2 : Option Addr) (C1 C2 D1 D2 : Nat) (w : World) (h1 : Arr w P1 (dig a1)) (l1 : (dig a1).length ≤ C1) (h2 : Arr w P2 (dig a2)) (l2 : (dig a2).length ≤ C2) (h3 : Arr w Q1 (dig b1)) (l3 : (dig b1).length ≤ D1) (h4 : Arr w Q2 (dig b2)) (l4 : (dig b2).length ≤ D2) (k1 : len32 a1 ≤ 4000) (k2 : len32 a2 ≤ 4000) (k3 : len32 b1 ≤ 4000) (k4 : len32 b2 ≤ 4000) (z2 : a2 ≠ 0) (z4 : b2 ≠ 0) (X Y D : Nat) (hX : X = a1 * b2) (hY : Y = b1 * a2) (hD : D = a2 * b2) (lX : len32 X ≤ 16000) (lY : len32 Y ≤ 16000) (lD : len32 D ≤ 16000) (lS : len32 (X + Y) ≤ 16000) (hst : sa = sb) :
    Calls Tryz.prog 74 #[.agg #[.bool sa, .slice P1 (dig a1).length C1, .slice P2 (dig a2).length C2], .agg #[.bool sb, .slice Q1 (dig b1).length D1, .slice Q2 (dig b2).length D2]] w fun e w' => ∃ (vn vd : Value) (a' b' : Nat) (ng : Bool), e = .returned (.agg #[.bool ng, vn, vd]) ∧ Own w' w.heap.size vn (dig a') ∧ Own w' w.heap.size vd (dig b') ∧ (FracOf (X + Y) D 0 a' b' ∧ (X + Y ≠ 0 → ng = sa)) ∧ Kp w w' := by
  have hz : D ≠ 0 := by rw [hD]; exact Nat.mul_ne_zero z2 z4
  obtain ⟨E1, g1⟩ : ∃ E, E = (dig a1).length := ⟨_, rfl⟩
  obtain ⟨E2, g2⟩ : ∃ E, E = (dig a2).length := ⟨_, rfl⟩
  obtain ⟨E3, g3⟩ : ∃ E, E = (dig b1).length := ⟨_, rfl⟩
  obtain ⟨E4, g4⟩ : ∃ E, E = (dig b2).length := ⟨_, rfl⟩
  rw [← g1, ← g2, ← g3, ← g4]
  obtain ⟨B, hB⟩ : ∃ B, B = w.heap.size := ⟨_, rfl⟩
  obtain ⟨wA, hwA⟩ : ∃ wA, wA = w.alloc (.cells #[.bool sa, .slice P1 E1 C1, .slice P2 E2 C2] 49) := ⟨_, rfl⟩
  obtain ⟨wB, hwB⟩ : ∃ wB, wB = wA.alloc (.cells #[.bool sb, .slice Q1 E3 D1, .slice Q2 E4 D2] 49) := ⟨_, rfl⟩
  obtain ⟨w0, hw0⟩ : ∃ w0, w0 = wB.alloc (.cells #[.bool false, .slice none 0 0, .slice none 0 0] 49) := ⟨_, rfl⟩
  have sA : wA.heap.size = B + 1 := by rw [hwA, hB]; simp
  have sB : wB.heap.size = B + 2 := by rw [hwB]; simp [sA]
  have x0 : wA.cell? ⟨B, 0, none⟩ = some (.bool sa) := by rw [hwA, hB]; simp [go_sem]
  have x1 : wA.cell? ⟨B, 1, none⟩ = some (.slice P1 E1 C1) := by rw [hwA, hB]; simp [go_sem]
  have x2 : wA.cell? ⟨B, 2, none⟩ = some (.slice P2 E2 C2) := by rw [hwA, hB]; simp [go_sem]
  have y0 : wB.cell? ⟨B + 1, 0, none⟩ = some (.bool sb) := by rw [hwB, ← sA]; simp [go_sem]
  have y1 : wB.cell? ⟨B + 1, 1, none⟩ = some (.slice Q1 E3 D1) := by rw [hwB, ← sA]; simp [go_sem]
  have y2 : wB.cell? ⟨B + 1, 2, none⟩ = some (.slice Q2 E4 D2) := by rw [hwB, ← sA]; simp [go_sem]
  have r0 : w0.cell? ⟨B + 2, 0, none⟩ = some (.bool false) := by rw [hw0, ← sB]; simp [go_sem]
  have r1 : w0.cell? ⟨B + 2, 1, none⟩ = some (.slice none 0 0) := by rw [hw0, ← sB]; simp [go_sem]
  have r2 : w0.cell? ⟨B + 2, 2, none⟩ = some (.slice none 0 0) := by rw [hw0, ← sB]; simp [go_sem]
  have f0 : w0.frozen? ⟨B + 2, 0, none⟩ = false := by rw [hw0, ← sB]; simp [go_sem]
  have f1 : w0.frozen? ⟨B + 2, 1, none⟩ = false := by rw [hw0, ← sB]; simp [go_sem]
  have f2 : w0.frozen? ⟨B + 2, 2, none⟩ = false := by rw [hw0, ← sB]; simp [go_sem]
  have kw : Kp w w0 := by rw [hw0, hwB, hwA]; exact (((Kp.refl w).alloc _).alloc _).alloc _
  have kAB : Kp wA wB := by rw [hwB]; exact (Kp.refl wA).alloc _
  have kB0 : Kp wB w0 := by rw [hw0]; exact (Kp.refl wB).alloc _
  have kA0 : Kp wA w0 := kAB.trans kB0
  have hlt := cell_lt r0
  -- the products
  have t1 := timesR (.slice P1 E1 C1) (.slice Q2 E4 D2) a1 b2 w0 ⟨P1, C1, by rw [g1], h1.grown kw, l1⟩ ⟨Q2, D2, by rw [g4], h4.grown kw, l4⟩ (by omega) (by omega)
  have t2 := fun w9 (k : Kp w0 w9) => timesR (.slice Q1 E3 D1) (.slice P2 E2 C2) b1 a2 w9 ⟨Q1, D1, by rw [g3], h3.grown (kw.trans k), l3⟩ ⟨P2, C2, by rw [g2], h2.grown (kw.trans k), l2⟩ (by omega) (by omega)
  have t3 := fun w9 (k : Kp w0 w9) => timesR (.slice P2 E2 C2) (.slice Q2 E4 D2) a2 b2 w9 ⟨P2, C2, by rw [g2], h2.grown (kw.trans k), l2⟩ ⟨Q2, D2, by rw [g4], h4.grown (kw.trans k), l4⟩ (by omega) (by omega)
  rw [← hX] at t1
  rw [← hY] at t2
  rw [← hD] at t3
  have HW : Hid (w0 = wB.alloc (.cells #[.bool false, .slice none 0 0, .slice none 0 0] 49) ∧ wB = wA.alloc (.cells #[.bool sb, .slice Q1 E3 D1, .slice Q2 E4 D2] 49) ∧ wA = w.alloc (.cells #[.bool sa, .slice P1 E1 C1, .slice P2 E2 C2] 49) ∧ B = w.heap.size ∧ wA.heap.size = B + 1 ∧ wB.heap.size = B + 2 ∧ Kp w w0 ∧ Kp wA w0 ∧ Kp wB w0) := ⟨hw0, hwB, hwA, hB, sA, sB, kw, kA0, kB0⟩
  have X0 := kkeep kA0 x0
  have X1 := kkeep kA0 x1
  have X2 := kkeep kA0 x2
  have Y0 := kkeep kB0 y0
  have Y1 := kkeep kB0 y1
  have Y2 := kkeep kB0 y2
  have HL : Hid (D ≠ 0 ∧ len32 X ≤ 16000 ∧ len32 Y ≤ 16000 ∧ len32 D ≤ 16000 ∧ len32 (X + Y) ≤ 16000) := ⟨hz, lX, lY, lD, lS⟩
  clear hw0 hwB hwA hB sA sB kw kAB kB0 kA0 h1 l1 h2 l2 h3 l3 h4 l4 k1 k2 k3 k4 z2 z4 hX hY hD hz lX lY lD lS g1 g2 g3 g4 x1 x2 y1 y2
  subst hst
  go_enter Tryz.func74, Tryz.ntmps74
  go_wp2_with fail
  rw [← HW.out.2.2.2.1]
  try rw [← HW.out.2.2.1]
  try rw [← HW.out.2.1]
  try rw [← HW.out.1]
  refine t1.mono ?_; rintro e w1 ⟨p1, c1, rfl, s1, m1, k1⟩
  obtain ⟨N1, hN1⟩ : ∃ N, N = (dig X).length := ⟨_, rfl⟩
  rw [← hN1]
  have H1 : Hid (N1 = (dig X).length) := hN1
  clear hN1
  replace X0 := kkeep k1 X0
  replace X2 := kkeep k1 X2
  replace Y0 := kkeep k1 Y0
  replace Y1 := kkeep k1 Y1
  replace Y2 := kkeep k1 Y2
  have t2' := t2 w1 k1
  clear t1 t2
  go_wp2_with fail
  refine t2'.mono ?_; rintro e w2 ⟨p2, c2, rfl, s2, m2, k2⟩
  obtain ⟨N2, hN2⟩ : ∃ N, N = (dig Y).length := ⟨_, rfl⟩
  rw [← hN2]
  have H2 : Hid (N2 = (dig Y).length) := hN2
  clear hN2
  replace X0 := kkeep k2 X0
  replace X2 := kkeep k2 X2
  replace Y0 := kkeep k2 Y0
  replace Y2 := kkeep k2 Y2
  have t3' := t3 w2 (k1.trans k2)
  clear t2' t3
  go_wp2_with fail
  refine t3'.mono ?_; rintro e w3 ⟨p3, c3, rfl, s3, m3, k3⟩
  obtain ⟨N3, hN3⟩ : ∃ N, N = (dig D).length := ⟨_, rfl⟩
  rw [← hN3]
  have H3 : Hid (N3 = (dig D).length) := hN3
  clear hN3
  replace X0 := kkeep k3 X0
  replace Y0 := kkeep k3 Y0
  have k03 := (k1.trans k2).trans k3
  have HS : Hid (Ls w3 (.slice p1 N1 c1) (dig X) ∧ Ls w3 (.slice p2 N2 c2) (dig Y) ∧ Ls w3 (.slice p3 N3 c3) (dig D)) := ⟨⟨p1, c1, by rw [H1.out], (s1.grown k2).grown k3, m1⟩, ⟨p2, c2, by rw [H2.out], s2.grown k3, m2⟩, ⟨p3, c3, by rw [H3.out], s3, m3⟩⟩
  clear t3' s1 s2 s3 m1 m2 m3 k1 k2 k3 H1 H2 H3 X1 X2 Y1 Y2
  -- the last region
  replace r0 := kkeep k03 r0
  replace r1 := kkeep k03 r1
  replace r2 := kkeep k03 r2
  replace f0 := (kfro k03 hlt).trans f0
  replace f1 := (kfro k03 hlt).trans f1
  replace f2 := (kfro k03 hlt).trans f2
  have hlt3 := cell_lt r0
  have kS : Kp wA w3 := HW.out.2.2.2.2.2.2.2.1.trans k03
  have kD : Kp wA w3.drew := kS.drew
  have hge : wA.heap.size ≤ (⟨B + 2, 0, none⟩ : Addr).block := by have := HW.out.2.2.2.2.1; have := HW.out.2.2.2.2.2.1; simp only; omega
  have HP : Hid (∀ W, Kp w3 W → Calls Tryz.prog 109 #[.slice p1 N1 c1, .slice p2 N2 c2] W fun e w' => ∃ p c, e = .returned (.slice p (dig (X + Y)).length c) ∧ Arr w' p (dig (X + Y)) ∧ (dig (X + Y)).length ≤ c ∧ Kp W w') := fun W kk => plusR _ _ X Y W (HS.out.1.kp kk) (HS.out.2.1.kp kk) (by have := HL.out; omega) (by have := HL.out; omega)
  have HFR : Hid (∀ (p : Option Addr) (c : Nat) (W : World), Kp w3 W → Arr W p (dig (X + Y)) → (dig (X + Y)).length ≤ c → Calls Tryz.prog 68 #[.bool sa, .slice p (dig (X + Y)).length c, .slice p3 N3 c3, .int .i64 0] W fun e w' => ∃ (vn vd : Value) (a' b' : Nat) (ng : Bool), e = .returned (.agg #[.bool ng, vn, vd]) ∧ Own w' W.heap.size vn (dig a') ∧ Own w' W.heap.size vd (dig b') ∧ (FracOf (X + Y) D 0 a' b' ∧ (X + Y ≠ 0 → ng = sa)) ∧ Kp W w') := by
    show ∀ (p : Option Addr) (c : Nat) (W : World), Kp w3 W → Arr W p (dig (X + Y)) → (dig (X + Y)).length ≤ c → Calls Tryz.prog 68 #[.bool sa, .slice p (dig (X + Y)).length c, .slice p3 N3 c3, .int .i64 0] W fun e w' => ∃ (vn vd : Value) (a' b' : Nat) (ng : Bool), e = .returned (.agg #[.bool ng, vn, vd]) ∧ Own w' W.heap.size vn (dig a') ∧ Own w' W.heap.size vd (dig b') ∧ (FracOf (X + Y) D 0 a' b' ∧ (X + Y ≠ 0 → ng = sa)) ∧ Kp W w'
    intro p c W kk ar ll
    obtain ⟨z, q1, q2, q3, q4⟩ := HL.out
    have g := frac_ sa (.slice p (dig (X + Y)).length c) (.slice p3 N3 c3) (dig (X + Y)) (dig D) 0 W ⟨p, c, rfl, ar, ll⟩ (HS.out.2.2.kp kk) (Wd_dig _) (Wd_dig _) (by change len32 _ ≤ _; omega) (by change len32 _ ≤ _; omega) (by rw [val_dig]; exact z) (by decide)
    rw [val_dig, val_dig] at g
    exact g
  obtain ⟨NX, hNX⟩ : ∃ N, N = (dig (X + Y)).length := ⟨_, rfl⟩
  rw [← hNX] at HP HFR
  clear hNX
  go_upto_region 5 with fail
  go_region_held3 (fun w' => w'.cell? ⟨B, 0, none⟩ = some (.bool sa)) ((refine kkeep (W := wA) ?_ x0; (repeat (first | with_reducible exact kB | with_reducible exact kA | with_reducible exact kD | with_reducible exact Kp.refl _ | with_reducible refine Kp.drew ?_ | refine Kp.setCell ?_ hge _)); done)) (first | (go_at_call 68; have hh := ar1; refine (HFR.out pp cc _ ?q1 ?q2 ll1).mono ?_; (case q1 => (repeat (first | with_reducible exact kk1 | with_reducible exact Kp.refl _ | with_reducible refine Kp.drew ?_)); done); (case q2 => exact ar1); rintro e v2 ⟨vn, vd, a', b', ng, rfl, o1, o2, ff, k12⟩; have kk2 : Kp w3 v2 := kk1.trans k12; have kB : Kp wA v2 := kS.trans kk2; obtain ⟨pn, cn, rfl, an, ln⟩ := o1.arr; obtain ⟨pd, cd, rfl, ad, ld⟩ := o2.arr; have R0 := kkeep kk2 r0; have R1 := kkeep kk2 r1; have R2 := kkeep kk2 r2; have F0 := (kfro kk2 hlt3).trans f0; have F1 := (kfro kk2 hlt3).trans f1; have F2 := (kfro kk2 hlt3).trans f2) | (go_at_call 109; refine (HP.out _ ?q3).mono ?_; (case q3 => (repeat (first | with_reducible exact Kp.refl _ | with_reducible refine Kp.drew ?_)); done); rintro e v1 ⟨pp, cc, rfl, ar1, ll1, k01⟩; have kk1 : Kp w3 v1 := Kp.trans ?q4 k01; (case q4 => (repeat (first | with_reducible exact Kp.refl _ | with_reducible refine Kp.drew ?_)); done); have kA : Kp wA v1 := kS.trans kk1))
  have hs1 := Below.size kk1
  obtain ⟨wz, hwz⟩ : ∃ wz, wz = ((v2.setCell ⟨B + 2, 0, none⟩ (.bool ng)).setCell ⟨B + 2, 1, none⟩ (.slice pn (dig a').length cn)).setCell ⟨B + 2, 2, none⟩ (.slice pd (dig b').length cd) := ⟨_, rfl⟩
  have kb : Kb (B + 2) v2 wz := by rw [hwz]; exact (((Kb.refl (B + 2) v2).setCell 0 _).setCell 1 _).setCell 2 _
  have O1 := o1.kb kb (fun g hg => by have := o1.lt g hg; omega)
  have O2 := o2.kb kb (fun g hg => by have := o2.lt g hg; omega)
  have hkw : Kp w wz := kb.kp ((HW.out.2.2.2.2.2.2.1.trans k03).trans kk2) (by rw [HW.out.2.2.2.1]; omega)
  have HO : Hid (Own wz w.heap.size (.slice pn (dig a').length cn) (dig a') ∧ Own wz w.heap.size (.slice pd (dig b').length cd) (dig b') ∧ (FracOf (X + Y) D 0 a' b' ∧ (X + Y ≠ 0 → ng = sa)) ∧ Kp w wz ∧ wz = ((v2.setCell ⟨B + 2, 0, none⟩ (.bool ng)).setCell ⟨B + 2, 1, none⟩ (.slice pn (dig a').length cn)).setCell ⟨B + 2, 2, none⟩ (.slice pd (dig b').length cd)) := ⟨O1.mono (by have e9 := HW.out.2.2.2.1; first | omega | exact Nat.le_trans (show w.heap.size ≤ v1.heap.size by omega) (Nat.le_refl _)), O2.mono (by have e9 := HW.out.2.2.2.1; first | omega | exact Nat.le_trans (show w.heap.size ≤ v1.heap.size by omega) (Nat.le_refl _)), ff, hkw, hwz⟩
  clear hs1 hwz kb O1 O2 hkw o1 o2 ff k12 kk2 kB an ln ad ld kk1 k01 kA ar1 ll1 HP HFR HS HL kS kD hge k03
  go_wp2
  obtain ⟨q1, q2, q3, q4, q5⟩ := HO.out
  rw [q5] at q1 q2 q4
  exact bodyPost_ret (v := .agg #[.bool ng, .slice pn (dig a').length cn, .slice pd (dig b').length cd]) (by simp [results, Tryz.results74, go_sem, R0, R1, R2]) rfl ⟨_, _, a', b', ng, rfl, q1, q2, q3, q4⟩
set_option maxRecDepth 20000 in
set_option maxHeartbeats 1000000 in
theorem raddGeO_ (sa sb : Bool) (a1 a2 b1 b2 : Nat) (P1 P2 Q1 Q2 : Option Addr) (C1 C2 D1 D2 : Nat) (w : World) (h1 : Arr w P1 (dig a1)) (l1 : (dig a1).length ≤ C1) (h2 : Arr w P2 (dig a2)) (l2 : (dig a2).length ≤ C2) (h3 : Arr w Q1 (dig b1)) (l3 : (dig b1).length ≤ D1) (h4 : Arr w Q2 (dig b2)) (l4 : (dig b2).length ≤ D2) (k1 : len32 a1 ≤ 4000) (k2 : len32 a2 ≤ 4000) (k3 : len32 b1 ≤ 4000) (k4 : len32 b2 ≤ 4000) (z2 : a2 ≠ 0) (z4 : b2 ≠ 0) (X Y D : Nat) (hX : X = a1 * b2) (hY : Y = b1 * a2) (hD : D = a2 * b2) (lX : len32 X ≤ 16000) (lY : len32 Y ≤ 16000) (lD : len32 D ≤ 16000) (lS : len32 (X + Y) ≤ 16000) (hst : sa ≠ sb) (hle : Y ≤ X) :
    Calls Tryz.prog 74 #[.agg #[.bool sa, .slice P1 (dig a1).length C1, .slice P2 (dig a2).length C2], .agg #[.bool sb, .slice Q1 (dig b1).length D1, .slice Q2 (dig b2).length D2]] w fun e w' => ∃ (vn vd : Value) (a' b' : Nat) (ng : Bool), e = .returned (.agg #[.bool ng, vn, vd]) ∧ Own w' w.heap.size vn (dig a') ∧ Own w' w.heap.size vd (dig b') ∧ (FracOf (X - Y) D 0 a' b' ∧ (X - Y ≠ 0 → ng = sa)) ∧ Kp w w' := by
  have hz : D ≠ 0 := by rw [hD]; exact Nat.mul_ne_zero z2 z4
  obtain ⟨E1, g1⟩ : ∃ E, E = (dig a1).length := ⟨_, rfl⟩
  obtain ⟨E2, g2⟩ : ∃ E, E = (dig a2).length := ⟨_, rfl⟩
  obtain ⟨E3, g3⟩ : ∃ E, E = (dig b1).length := ⟨_, rfl⟩
  obtain ⟨E4, g4⟩ : ∃ E, E = (dig b2).length := ⟨_, rfl⟩
  rw [← g1, ← g2, ← g3, ← g4]
  obtain ⟨B, hB⟩ : ∃ B, B = w.heap.size := ⟨_, rfl⟩
  obtain ⟨wA, hwA⟩ : ∃ wA, wA = w.alloc (.cells #[.bool sa, .slice P1 E1 C1, .slice P2 E2 C2] 49) := ⟨_, rfl⟩
  obtain ⟨wB, hwB⟩ : ∃ wB, wB = wA.alloc (.cells #[.bool sb, .slice Q1 E3 D1, .slice Q2 E4 D2] 49) := ⟨_, rfl⟩
  obtain ⟨w0, hw0⟩ : ∃ w0, w0 = wB.alloc (.cells #[.bool false, .slice none 0 0, .slice none 0 0] 49) := ⟨_, rfl⟩
  have sA : wA.heap.size = B + 1 := by rw [hwA, hB]; simp
  have sB : wB.heap.size = B + 2 := by rw [hwB]; simp [sA]
  have x0 : wA.cell? ⟨B, 0, none⟩ = some (.bool sa) := by rw [hwA, hB]; simp [go_sem]
  have x1 : wA.cell? ⟨B, 1, none⟩ = some (.slice P1 E1 C1) := by rw [hwA, hB]; simp [go_sem]
  have x2 : wA.cell? ⟨B, 2, none⟩ = some (.slice P2 E2 C2) := by rw [hwA, hB]; simp [go_sem]
  have y0 : wB.cell? ⟨B + 1, 0, none⟩ = some (.bool sb) := by rw [hwB, ← sA]; simp [go_sem]
  have y1 : wB.cell? ⟨B + 1, 1, none⟩ = some (.slice Q1 E3 D1) := by rw [hwB, ← sA]; simp [go_sem]
  have y2 : wB.cell? ⟨B + 1, 2, none⟩ = some (.slice Q2 E4 D2) := by rw [hwB, ← sA]; simp [go_sem]
  have r0 : w0.cell? ⟨B + 2, 0, none⟩ = some (.bool false) := by rw [hw0, ← sB]; simp [go_sem]
  have r1 : w0.cell? ⟨B + 2, 1, none⟩ = some (.slice none 0 0) := by rw [hw0, ← sB]; simp [go_sem]
  have r2 : w0.cell? ⟨B + 2, 2, none⟩ = some (.slice none 0 0) := by rw [hw0, ← sB]; simp [go_sem]
  have f0 : w0.frozen? ⟨B + 2, 0, none⟩ = false := by rw [hw0, ← sB]; simp [go_sem]
  have f1 : w0.frozen? ⟨B + 2, 1, none⟩ = false := by rw [hw0, ← sB]; simp [go_sem]
  have f2 : w0.frozen? ⟨B + 2, 2, none⟩ = false := by rw [hw0, ← sB]; simp [go_sem]
  have kw : Kp w w0 := by rw [hw0, hwB, hwA]; exact (((Kp.refl w).alloc _).alloc _).alloc _
  have kAB : Kp wA wB := by rw [hwB]; exact (Kp.refl wA).alloc _
  have kB0 : Kp wB w0 := by rw [hw0]; exact (Kp.refl wB).alloc _
  have kA0 : Kp wA w0 := kAB.trans kB0
  have hlt := cell_lt r0
  -- the products
  have t1 := timesR (.slice P1 E1 C1) (.slice Q2 E4 D2) a1 b2 w0 ⟨P1, C1, by rw [g1], h1.grown kw, l1⟩ ⟨Q2, D2, by rw [g4], h4.grown kw, l4⟩ (by omega) (by omega)
  have t2 := fun w9 (k : Kp w0 w9) => timesR (.slice Q1 E3 D1) (.slice P2 E2 C2) b1 a2 w9 ⟨Q1, D1, by rw [g3], h3.grown (kw.trans k), l3⟩ ⟨P2, C2, by rw [g2], h2.grown (kw.trans k), l2⟩ (by omega) (by omega)
  have t3 := fun w9 (k : Kp w0 w9) => timesR (.slice P2 E2 C2) (.slice Q2 E4 D2) a2 b2 w9 ⟨P2, C2, by rw [g2], h2.grown (kw.trans k), l2⟩ ⟨Q2, D2, by rw [g4], h4.grown (kw.trans k), l4⟩ (by omega) (by omega)
  rw [← hX] at t1
  rw [← hY] at t2
  rw [← hD] at t3
  have HW : Hid (w0 = wB.alloc (.cells #[.bool false, .slice none 0 0, .slice none 0 0] 49) ∧ wB = wA.alloc (.cells #[.bool sb, .slice Q1 E3 D1, .slice Q2 E4 D2] 49) ∧ wA = w.alloc (.cells #[.bool sa, .slice P1 E1 C1, .slice P2 E2 C2] 49) ∧ B = w.heap.size ∧ wA.heap.size = B + 1 ∧ wB.heap.size = B + 2 ∧ Kp w w0 ∧ Kp wA w0 ∧ Kp wB w0) := ⟨hw0, hwB, hwA, hB, sA, sB, kw, kA0, kB0⟩
  have X0 := kkeep kA0 x0
  have X1 := kkeep kA0 x1
  have X2 := kkeep kA0 x2
  have Y0 := kkeep kB0 y0
  have Y1 := kkeep kB0 y1
  have Y2 := kkeep kB0 y2
  have HL : Hid (D ≠ 0 ∧ len32 X ≤ 16000 ∧ len32 Y ≤ 16000 ∧ len32 D ≤ 16000 ∧ len32 (X + Y) ≤ 16000) := ⟨hz, lX, lY, lD, lS⟩
  clear hw0 hwB hwA hB sA sB kw kAB kB0 kA0 h1 l1 h2 l2 h3 l3 h4 l4 k1 k2 k3 k4 z2 z4 hX hY hD hz lX lY lD lS g1 g2 g3 g4 x1 x2 y1 y2
  have est : (sa == sb) = false := by cases sa <;> cases sb <;> simp_all
  have est' : decide (sa = sb) = false := by simp [hst]
  clear hst
  have HG : Hid (Y ≤ X) := hle
  clear hle
  go_enter Tryz.func74, Tryz.ntmps74
  go_wp2_with fail
  rw [← HW.out.2.2.2.1]
  try rw [← HW.out.2.2.1]
  try rw [← HW.out.2.1]
  try rw [← HW.out.1]
  refine t1.mono ?_; rintro e w1 ⟨p1, c1, rfl, s1, m1, k1⟩
  obtain ⟨N1, hN1⟩ : ∃ N, N = (dig X).length := ⟨_, rfl⟩
  rw [← hN1]
  have H1 : Hid (N1 = (dig X).length) := hN1
  clear hN1
  replace X0 := kkeep k1 X0
  replace X2 := kkeep k1 X2
  replace Y0 := kkeep k1 Y0
  replace Y1 := kkeep k1 Y1
  replace Y2 := kkeep k1 Y2
  have t2' := t2 w1 k1
  clear t1 t2
  go_wp2_with fail
  refine t2'.mono ?_; rintro e w2 ⟨p2, c2, rfl, s2, m2, k2⟩
  obtain ⟨N2, hN2⟩ : ∃ N, N = (dig Y).length := ⟨_, rfl⟩
  rw [← hN2]
  have H2 : Hid (N2 = (dig Y).length) := hN2
  clear hN2
  replace X0 := kkeep k2 X0
  replace X2 := kkeep k2 X2
  replace Y0 := kkeep k2 Y0
  replace Y2 := kkeep k2 Y2
  have t3' := t3 w2 (k1.trans k2)
  clear t2' t3
  go_wp2_with fail
  refine t3'.mono ?_; rintro e w3 ⟨p3, c3, rfl, s3, m3, k3⟩
  obtain ⟨N3, hN3⟩ : ∃ N, N = (dig D).length := ⟨_, rfl⟩
  rw [← hN3]
  have H3 : Hid (N3 = (dig D).length) := hN3
  clear hN3
  replace X0 := kkeep k3 X0
  replace Y0 := kkeep k3 Y0
  have k03 := (k1.trans k2).trans k3
  have HS : Hid (Ls w3 (.slice p1 N1 c1) (dig X) ∧ Ls w3 (.slice p2 N2 c2) (dig Y) ∧ Ls w3 (.slice p3 N3 c3) (dig D)) := ⟨⟨p1, c1, by rw [H1.out], (s1.grown k2).grown k3, m1⟩, ⟨p2, c2, by rw [H2.out], s2.grown k3, m2⟩, ⟨p3, c3, by rw [H3.out], s3, m3⟩⟩
  clear t3' s1 s2 s3 m1 m2 m3 k1 k2 k3 H1 H2 H3 X1 X2 Y1 Y2
  have hcm := cmpR (.slice p1 N1 c1) (.slice p2 N2 c2) X Y w3 HS.out.1 HS.out.2.1 (by have := blen_len X 16000 HL.out.2.1; omega) (by have := blen_len Y 16000 HL.out.2.2.1; omega)
  obtain ⟨cv9, hcv9⟩ : ∃ cv9, cv9 = cmpN X Y := ⟨_, rfl⟩
  rw [← hcv9] at hcm
  have tcv : 0 ≤ cv9 := by
    rw [hcv9]; unfold cmpN; have := HG.out; rw [if_neg (by omega)]; split <;> omega
  clear hcv9
  go_wp2_with fail
  refine hcm.mono ?_; rintro e w4 ⟨rfl, k4⟩
  clear hcm
  replace X0 := kkeep k4 X0
  replace Y0 := kkeep k4 Y0
  replace HS : Hid (Ls w4 (.slice p1 N1 c1) (dig X) ∧ Ls w4 (.slice p2 N2 c2) (dig Y) ∧ Ls w4 (.slice p3 N3 c3) (dig D)) := ⟨HS.out.1.kp k4, HS.out.2.1.kp k4, HS.out.2.2.kp k4⟩
  replace k03 := k03.trans k4
  clear k4
  -- the last region
  replace r0 := kkeep k03 r0
  replace r1 := kkeep k03 r1
  replace r2 := kkeep k03 r2
  replace f0 := (kfro k03 hlt).trans f0
  replace f1 := (kfro k03 hlt).trans f1
  replace f2 := (kfro k03 hlt).trans f2
  have hlt3 := cell_lt r0
  have kS : Kp wA w4 := HW.out.2.2.2.2.2.2.2.1.trans k03
  have kD : Kp wA w4.drew := kS.drew
  have hge : wA.heap.size ≤ (⟨B + 2, 0, none⟩ : Addr).block := by have := HW.out.2.2.2.2.1; have := HW.out.2.2.2.2.2.1; simp only; omega
  have HP : Hid (∀ W, Kp w4 W → Calls Tryz.prog 110 #[.slice p1 N1 c1, .slice p2 N2 c2] W fun e w' => ∃ p c, e = .returned (.slice p (dig (X - Y)).length c) ∧ Arr w' p (dig (X - Y)) ∧ (dig (X - Y)).length ≤ c ∧ Kp W w') := fun W kk => minusR _ _ X Y W (HS.out.1.kp kk) (HS.out.2.1.kp kk) (by have := HL.out; omega) HG.out
  have HFR : Hid (∀ (p : Option Addr) (c : Nat) (W : World), Kp w4 W → Arr W p (dig (X - Y)) → (dig (X - Y)).length ≤ c → Calls Tryz.prog 68 #[.bool sa, .slice p (dig (X - Y)).length c, .slice p3 N3 c3, .int .i64 0] W fun e w' => ∃ (vn vd : Value) (a' b' : Nat) (ng : Bool), e = .returned (.agg #[.bool ng, vn, vd]) ∧ Own w' W.heap.size vn (dig a') ∧ Own w' W.heap.size vd (dig b') ∧ (FracOf (X - Y) D 0 a' b' ∧ (X - Y ≠ 0 → ng = sa)) ∧ Kp W w') := by
    show ∀ (p : Option Addr) (c : Nat) (W : World), Kp w4 W → Arr W p (dig (X - Y)) → (dig (X - Y)).length ≤ c → Calls Tryz.prog 68 #[.bool sa, .slice p (dig (X - Y)).length c, .slice p3 N3 c3, .int .i64 0] W fun e w' => ∃ (vn vd : Value) (a' b' : Nat) (ng : Bool), e = .returned (.agg #[.bool ng, vn, vd]) ∧ Own w' W.heap.size vn (dig a') ∧ Own w' W.heap.size vd (dig b') ∧ (FracOf (X - Y) D 0 a' b' ∧ (X - Y ≠ 0 → ng = sa)) ∧ Kp W w'
    intro p c W kk ar ll
    obtain ⟨z, q1, q2, q3, q4⟩ := HL.out
    have g := frac_ sa (.slice p (dig (X - Y)).length c) (.slice p3 N3 c3) (dig (X - Y)) (dig D) 0 W ⟨p, c, rfl, ar, ll⟩ (HS.out.2.2.kp kk) (Wd_dig _) (Wd_dig _) (by change len32 _ ≤ _; have := len32_mono (Nat.sub_le X Y); omega) (by change len32 _ ≤ _; omega) (by rw [val_dig]; exact z) (by decide)
    rw [val_dig, val_dig] at g
    exact g
  obtain ⟨NX, hNX⟩ : ∃ N, N = (dig (X - Y)).length := ⟨_, rfl⟩
  rw [← hNX] at HP HFR
  clear hNX
  go_upto_region 7 with fail
  go_region_held3 (fun w' => w'.cell? ⟨B, 0, none⟩ = some (.bool sa)) ((refine kkeep (W := wA) ?_ x0; (repeat (first | with_reducible exact kB | with_reducible exact kA | with_reducible exact kD | with_reducible exact Kp.refl _ | with_reducible refine Kp.drew ?_ | refine Kp.setCell ?_ hge _)); done)) (first | (go_at_call 68; have hh := ar1; refine (HFR.out pp cc _ ?q1 ?q2 ll1).mono ?_; (case q1 => (repeat (first | with_reducible exact kk1 | with_reducible exact Kp.refl _ | with_reducible refine Kp.drew ?_)); done); (case q2 => exact ar1); rintro e v2 ⟨vn, vd, a', b', ng, rfl, o1, o2, ff, k12⟩; have kk2 : Kp w4 v2 := kk1.trans k12; have kB : Kp wA v2 := kS.trans kk2; obtain ⟨pn, cn, rfl, an, ln⟩ := o1.arr; obtain ⟨pd, cd, rfl, ad, ld⟩ := o2.arr; have R0 := kkeep kk2 r0; have R1 := kkeep kk2 r1; have R2 := kkeep kk2 r2; have F0 := (kfro kk2 hlt3).trans f0; have F1 := (kfro kk2 hlt3).trans f1; have F2 := (kfro kk2 hlt3).trans f2) | (go_at_call 110; refine (HP.out _ ?q3).mono ?_; (case q3 => (repeat (first | with_reducible exact Kp.refl _ | with_reducible refine Kp.drew ?_)); done); rintro e v1 ⟨pp, cc, rfl, ar1, ll1, k01⟩; have kk1 : Kp w4 v1 := Kp.trans ?q4 k01; (case q4 => (repeat (first | with_reducible exact Kp.refl _ | with_reducible refine Kp.drew ?_)); done); have kA : Kp wA v1 := kS.trans kk1))
  have hs1 := Below.size kk1
  obtain ⟨wz, hwz⟩ : ∃ wz, wz = ((v2.setCell ⟨B + 2, 0, none⟩ (.bool ng)).setCell ⟨B + 2, 1, none⟩ (.slice pn (dig a').length cn)).setCell ⟨B + 2, 2, none⟩ (.slice pd (dig b').length cd) := ⟨_, rfl⟩
  have kb : Kb (B + 2) v2 wz := by rw [hwz]; exact (((Kb.refl (B + 2) v2).setCell 0 _).setCell 1 _).setCell 2 _
  have O1 := o1.kb kb (fun g hg => by have := o1.lt g hg; omega)
  have O2 := o2.kb kb (fun g hg => by have := o2.lt g hg; omega)
  have hkw : Kp w wz := kb.kp ((HW.out.2.2.2.2.2.2.1.trans k03).trans kk2) (by rw [HW.out.2.2.2.1]; omega)
  have HO : Hid (Own wz w.heap.size (.slice pn (dig a').length cn) (dig a') ∧ Own wz w.heap.size (.slice pd (dig b').length cd) (dig b') ∧ (FracOf (X - Y) D 0 a' b' ∧ (X - Y ≠ 0 → ng = sa)) ∧ Kp w wz ∧ wz = ((v2.setCell ⟨B + 2, 0, none⟩ (.bool ng)).setCell ⟨B + 2, 1, none⟩ (.slice pn (dig a').length cn)).setCell ⟨B + 2, 2, none⟩ (.slice pd (dig b').length cd)) := ⟨O1.mono (by have e9 := HW.out.2.2.2.1; first | omega | exact Nat.le_trans (show w.heap.size ≤ v1.heap.size by omega) (Nat.le_refl _)), O2.mono (by have e9 := HW.out.2.2.2.1; first | omega | exact Nat.le_trans (show w.heap.size ≤ v1.heap.size by omega) (Nat.le_refl _)), ff, hkw, hwz⟩
  clear hs1 hwz kb O1 O2 hkw o1 o2 ff k12 kk2 kB an ln ad ld kk1 k01 kA ar1 ll1 HP HFR HS HL kS kD hge k03
  go_wp2
  obtain ⟨q1, q2, q3, q4, q5⟩ := HO.out
  rw [q5] at q1 q2 q4
  exact bodyPost_ret (v := .agg #[.bool ng, .slice pn (dig a').length cn, .slice pd (dig b').length cd]) (by simp [results, Tryz.results74, go_sem, R0, R1, R2]) rfl ⟨_, _, a', b', ng, rfl, q1, q2, q3, q4⟩
set_option maxRecDepth 20000 in
set_option maxHeartbeats 1000000 in
theorem raddLtO_ (sa sb : Bool) (a1 a2 b1 b2 : Nat) (P1 P2 Q1 Q2 : Option Addr) (C1 C2 D1 D2 : Nat) (w : World) (h1 : Arr w P1 (dig a1)) (l1 : (dig a1).length ≤ C1) (h2 : Arr w P2 (dig a2)) (l2 : (dig a2).length ≤ C2) (h3 : Arr w Q1 (dig b1)) (l3 : (dig b1).length ≤ D1) (h4 : Arr w Q2 (dig b2)) (l4 : (dig b2).length ≤ D2) (k1 : len32 a1 ≤ 4000) (k2 : len32 a2 ≤ 4000) (k3 : len32 b1 ≤ 4000) (k4 : len32 b2 ≤ 4000) (z2 : a2 ≠ 0) (z4 : b2 ≠ 0) (X Y D : Nat) (hX : X = a1 * b2) (hY : Y = b1 * a2) (hD : D = a2 * b2) (lX : len32 X ≤ 16000) (lY : len32 Y ≤ 16000) (lD : len32 D ≤ 16000) (lS : len32 (X + Y) ≤ 16000) (hst : sa ≠ sb) (hle : X < Y) :
    Calls Tryz.prog 74 #[.agg #[.bool sa, .slice P1 (dig a1).length C1, .slice P2 (dig a2).length C2], .agg #[.bool sb, .slice Q1 (dig b1).length D1, .slice Q2 (dig b2).length D2]] w fun e w' => ∃ (vn vd : Value) (a' b' : Nat) (ng : Bool), e = .returned (.agg #[.bool ng, vn, vd]) ∧ Own w' w.heap.size vn (dig a') ∧ Own w' w.heap.size vd (dig b') ∧ (FracOf (Y - X) D 0 a' b' ∧ (Y - X ≠ 0 → ng = sb)) ∧ Kp w w' := by
  have hz : D ≠ 0 := by rw [hD]; exact Nat.mul_ne_zero z2 z4
  obtain ⟨E1, g1⟩ : ∃ E, E = (dig a1).length := ⟨_, rfl⟩
  obtain ⟨E2, g2⟩ : ∃ E, E = (dig a2).length := ⟨_, rfl⟩
  obtain ⟨E3, g3⟩ : ∃ E, E = (dig b1).length := ⟨_, rfl⟩
  obtain ⟨E4, g4⟩ : ∃ E, E = (dig b2).length := ⟨_, rfl⟩
  rw [← g1, ← g2, ← g3, ← g4]
  obtain ⟨B, hB⟩ : ∃ B, B = w.heap.size := ⟨_, rfl⟩
  obtain ⟨wA, hwA⟩ : ∃ wA, wA = w.alloc (.cells #[.bool sa, .slice P1 E1 C1, .slice P2 E2 C2] 49) := ⟨_, rfl⟩
  obtain ⟨wB, hwB⟩ : ∃ wB, wB = wA.alloc (.cells #[.bool sb, .slice Q1 E3 D1, .slice Q2 E4 D2] 49) := ⟨_, rfl⟩
  obtain ⟨w0, hw0⟩ : ∃ w0, w0 = wB.alloc (.cells #[.bool false, .slice none 0 0, .slice none 0 0] 49) := ⟨_, rfl⟩
  have sA : wA.heap.size = B + 1 := by rw [hwA, hB]; simp
  have sB : wB.heap.size = B + 2 := by rw [hwB]; simp [sA]
  have x0 : wA.cell? ⟨B, 0, none⟩ = some (.bool sa) := by rw [hwA, hB]; simp [go_sem]
  have x1 : wA.cell? ⟨B, 1, none⟩ = some (.slice P1 E1 C1) := by rw [hwA, hB]; simp [go_sem]
  have x2 : wA.cell? ⟨B, 2, none⟩ = some (.slice P2 E2 C2) := by rw [hwA, hB]; simp [go_sem]
  have y0 : wB.cell? ⟨B + 1, 0, none⟩ = some (.bool sb) := by rw [hwB, ← sA]; simp [go_sem]
  have y1 : wB.cell? ⟨B + 1, 1, none⟩ = some (.slice Q1 E3 D1) := by rw [hwB, ← sA]; simp [go_sem]
  have y2 : wB.cell? ⟨B + 1, 2, none⟩ = some (.slice Q2 E4 D2) := by rw [hwB, ← sA]; simp [go_sem]
  have r0 : w0.cell? ⟨B + 2, 0, none⟩ = some (.bool false) := by rw [hw0, ← sB]; simp [go_sem]
  have r1 : w0.cell? ⟨B + 2, 1, none⟩ = some (.slice none 0 0) := by rw [hw0, ← sB]; simp [go_sem]
  have r2 : w0.cell? ⟨B + 2, 2, none⟩ = some (.slice none 0 0) := by rw [hw0, ← sB]; simp [go_sem]
  have f0 : w0.frozen? ⟨B + 2, 0, none⟩ = false := by rw [hw0, ← sB]; simp [go_sem]
  have f1 : w0.frozen? ⟨B + 2, 1, none⟩ = false := by rw [hw0, ← sB]; simp [go_sem]
  have f2 : w0.frozen? ⟨B + 2, 2, none⟩ = false := by rw [hw0, ← sB]; simp [go_sem]
  have kw : Kp w w0 := by rw [hw0, hwB, hwA]; exact (((Kp.refl w).alloc _).alloc _).alloc _
  have kAB : Kp wA wB := by rw [hwB]; exact (Kp.refl wA).alloc _
  have kB0 : Kp wB w0 := by rw [hw0]; exact (Kp.refl wB).alloc _
  have kA0 : Kp wA w0 := kAB.trans kB0
  have hlt := cell_lt r0
  -- the products
  have t1 := timesR (.slice P1 E1 C1) (.slice Q2 E4 D2) a1 b2 w0 ⟨P1, C1, by rw [g1], h1.grown kw, l1⟩ ⟨Q2, D2, by rw [g4], h4.grown kw, l4⟩ (by omega) (by omega)
  have t2 := fun w9 (k : Kp w0 w9) => timesR (.slice Q1 E3 D1) (.slice P2 E2 C2) b1 a2 w9 ⟨Q1, D1, by rw [g3], h3.grown (kw.trans k), l3⟩ ⟨P2, C2, by rw [g2], h2.grown (kw.trans k), l2⟩ (by omega) (by omega)
  have t3 := fun w9 (k : Kp w0 w9) => timesR (.slice P2 E2 C2) (.slice Q2 E4 D2) a2 b2 w9 ⟨P2, C2, by rw [g2], h2.grown (kw.trans k), l2⟩ ⟨Q2, D2, by rw [g4], h4.grown (kw.trans k), l4⟩ (by omega) (by omega)
  rw [← hX] at t1
  rw [← hY] at t2
  rw [← hD] at t3
  have HW : Hid (w0 = wB.alloc (.cells #[.bool false, .slice none 0 0, .slice none 0 0] 49) ∧ wB = wA.alloc (.cells #[.bool sb, .slice Q1 E3 D1, .slice Q2 E4 D2] 49) ∧ wA = w.alloc (.cells #[.bool sa, .slice P1 E1 C1, .slice P2 E2 C2] 49) ∧ B = w.heap.size ∧ wA.heap.size = B + 1 ∧ wB.heap.size = B + 2 ∧ Kp w w0 ∧ Kp wA w0 ∧ Kp wB w0) := ⟨hw0, hwB, hwA, hB, sA, sB, kw, kA0, kB0⟩
  have X0 := kkeep kA0 x0
  have X1 := kkeep kA0 x1
  have X2 := kkeep kA0 x2
  have Y0 := kkeep kB0 y0
  have Y1 := kkeep kB0 y1
  have Y2 := kkeep kB0 y2
  have HL : Hid (D ≠ 0 ∧ len32 X ≤ 16000 ∧ len32 Y ≤ 16000 ∧ len32 D ≤ 16000 ∧ len32 (X + Y) ≤ 16000) := ⟨hz, lX, lY, lD, lS⟩
  clear hw0 hwB hwA hB sA sB kw kAB kB0 kA0 h1 l1 h2 l2 h3 l3 h4 l4 k1 k2 k3 k4 z2 z4 hX hY hD hz lX lY lD lS g1 g2 g3 g4 x1 x2 y1 y2
  have est : (sa == sb) = false := by cases sa <;> cases sb <;> simp_all
  have est' : decide (sa = sb) = false := by simp [hst]
  clear hst
  have HG : Hid (X < Y) := hle
  clear hle
  go_enter Tryz.func74, Tryz.ntmps74
  go_wp2_with fail
  rw [← HW.out.2.2.2.1]
  try rw [← HW.out.2.2.1]
  try rw [← HW.out.2.1]
  try rw [← HW.out.1]
  refine t1.mono ?_; rintro e w1 ⟨p1, c1, rfl, s1, m1, k1⟩
  obtain ⟨N1, hN1⟩ : ∃ N, N = (dig X).length := ⟨_, rfl⟩
  rw [← hN1]
  have H1 : Hid (N1 = (dig X).length) := hN1
  clear hN1
  replace X0 := kkeep k1 X0
  replace X2 := kkeep k1 X2
  replace Y0 := kkeep k1 Y0
  replace Y1 := kkeep k1 Y1
  replace Y2 := kkeep k1 Y2
  have t2' := t2 w1 k1
  clear t1 t2
  go_wp2_with fail
  refine t2'.mono ?_; rintro e w2 ⟨p2, c2, rfl, s2, m2, k2⟩
  obtain ⟨N2, hN2⟩ : ∃ N, N = (dig Y).length := ⟨_, rfl⟩
  rw [← hN2]
  have H2 : Hid (N2 = (dig Y).length) := hN2
  clear hN2
  replace X0 := kkeep k2 X0
  replace X2 := kkeep k2 X2
  replace Y0 := kkeep k2 Y0
  replace Y2 := kkeep k2 Y2
  have t3' := t3 w2 (k1.trans k2)
  clear t2' t3
  go_wp2_with fail
  refine t3'.mono ?_; rintro e w3 ⟨p3, c3, rfl, s3, m3, k3⟩
  obtain ⟨N3, hN3⟩ : ∃ N, N = (dig D).length := ⟨_, rfl⟩
  rw [← hN3]
  have H3 : Hid (N3 = (dig D).length) := hN3
  clear hN3
  replace X0 := kkeep k3 X0
  replace Y0 := kkeep k3 Y0
  have k03 := (k1.trans k2).trans k3
  have HS : Hid (Ls w3 (.slice p1 N1 c1) (dig X) ∧ Ls w3 (.slice p2 N2 c2) (dig Y) ∧ Ls w3 (.slice p3 N3 c3) (dig D)) := ⟨⟨p1, c1, by rw [H1.out], (s1.grown k2).grown k3, m1⟩, ⟨p2, c2, by rw [H2.out], s2.grown k3, m2⟩, ⟨p3, c3, by rw [H3.out], s3, m3⟩⟩
  clear t3' s1 s2 s3 m1 m2 m3 k1 k2 k3 H1 H2 H3 X1 X2 Y1 Y2
  have hcm := cmpR (.slice p1 N1 c1) (.slice p2 N2 c2) X Y w3 HS.out.1 HS.out.2.1 (by have := blen_len X 16000 HL.out.2.1; omega) (by have := blen_len Y 16000 HL.out.2.2.1; omega)
  obtain ⟨cv9, hcv9⟩ : ∃ cv9, cv9 = cmpN X Y := ⟨_, rfl⟩
  rw [← hcv9] at hcm
  have tcv : ¬ 0 ≤ cv9 := by
    rw [hcv9]; unfold cmpN; rw [if_pos HG.out]; decide
  clear hcv9
  go_wp2_with fail
  refine hcm.mono ?_; rintro e w4 ⟨rfl, k4⟩
  clear hcm
  replace X0 := kkeep k4 X0
  replace Y0 := kkeep k4 Y0
  replace HS : Hid (Ls w4 (.slice p1 N1 c1) (dig X) ∧ Ls w4 (.slice p2 N2 c2) (dig Y) ∧ Ls w4 (.slice p3 N3 c3) (dig D)) := ⟨HS.out.1.kp k4, HS.out.2.1.kp k4, HS.out.2.2.kp k4⟩
  replace k03 := k03.trans k4
  clear k4
  -- the last region
  replace r0 := kkeep k03 r0
  replace r1 := kkeep k03 r1
  replace r2 := kkeep k03 r2
  replace f0 := (kfro k03 hlt).trans f0
  replace f1 := (kfro k03 hlt).trans f1
  replace f2 := (kfro k03 hlt).trans f2
  have hlt3 := cell_lt r0
  have kS : Kp wB w4 := HW.out.2.2.2.2.2.2.2.2.trans k03
  have kD : Kp wB w4.drew := kS.drew
  have hge : wB.heap.size ≤ (⟨B + 2, 0, none⟩ : Addr).block := by have := HW.out.2.2.2.2.1; have := HW.out.2.2.2.2.2.1; simp only; omega
  have HP : Hid (∀ W, Kp w4 W → Calls Tryz.prog 110 #[.slice p2 N2 c2, .slice p1 N1 c1] W fun e w' => ∃ p c, e = .returned (.slice p (dig (Y - X)).length c) ∧ Arr w' p (dig (Y - X)) ∧ (dig (Y - X)).length ≤ c ∧ Kp W w') := fun W kk => minusR _ _ Y X W (HS.out.2.1.kp kk) (HS.out.1.kp kk) (by have := HL.out; omega) (Nat.le_of_lt HG.out)
  have HFR : Hid (∀ (p : Option Addr) (c : Nat) (W : World), Kp w4 W → Arr W p (dig (Y - X)) → (dig (Y - X)).length ≤ c → Calls Tryz.prog 68 #[.bool sb, .slice p (dig (Y - X)).length c, .slice p3 N3 c3, .int .i64 0] W fun e w' => ∃ (vn vd : Value) (a' b' : Nat) (ng : Bool), e = .returned (.agg #[.bool ng, vn, vd]) ∧ Own w' W.heap.size vn (dig a') ∧ Own w' W.heap.size vd (dig b') ∧ (FracOf (Y - X) D 0 a' b' ∧ (Y - X ≠ 0 → ng = sb)) ∧ Kp W w') := by
    show ∀ (p : Option Addr) (c : Nat) (W : World), Kp w4 W → Arr W p (dig (Y - X)) → (dig (Y - X)).length ≤ c → Calls Tryz.prog 68 #[.bool sb, .slice p (dig (Y - X)).length c, .slice p3 N3 c3, .int .i64 0] W fun e w' => ∃ (vn vd : Value) (a' b' : Nat) (ng : Bool), e = .returned (.agg #[.bool ng, vn, vd]) ∧ Own w' W.heap.size vn (dig a') ∧ Own w' W.heap.size vd (dig b') ∧ (FracOf (Y - X) D 0 a' b' ∧ (Y - X ≠ 0 → ng = sb)) ∧ Kp W w'
    intro p c W kk ar ll
    obtain ⟨z, q1, q2, q3, q4⟩ := HL.out
    have g := frac_ sb (.slice p (dig (Y - X)).length c) (.slice p3 N3 c3) (dig (Y - X)) (dig D) 0 W ⟨p, c, rfl, ar, ll⟩ (HS.out.2.2.kp kk) (Wd_dig _) (Wd_dig _) (by change len32 _ ≤ _; have := len32_mono (Nat.sub_le Y X); omega) (by change len32 _ ≤ _; omega) (by rw [val_dig]; exact z) (by decide)
    rw [val_dig, val_dig] at g
    exact g
  obtain ⟨NX, hNX⟩ : ∃ N, N = (dig (Y - X)).length := ⟨_, rfl⟩
  rw [← hNX] at HP HFR
  clear hNX
  go_upto_region 8 with fail
  go_region_held3 (fun w' => w'.cell? ⟨B + 1, 0, none⟩ = some (.bool sb)) ((refine kkeep (W := wB) ?_ y0; (repeat (first | with_reducible exact kB | with_reducible exact kA | with_reducible exact kD | with_reducible exact Kp.refl _ | with_reducible refine Kp.drew ?_ | refine Kp.setCell ?_ hge _)); done)) (first | (go_at_call 68; have hh := ar1; refine (HFR.out pp cc _ ?q1 ?q2 ll1).mono ?_; (case q1 => (repeat (first | with_reducible exact kk1 | with_reducible exact Kp.refl _ | with_reducible refine Kp.drew ?_)); done); (case q2 => exact ar1); rintro e v2 ⟨vn, vd, a', b', ng, rfl, o1, o2, ff, k12⟩; have kk2 : Kp w4 v2 := kk1.trans k12; have kB : Kp wB v2 := kS.trans kk2; obtain ⟨pn, cn, rfl, an, ln⟩ := o1.arr; obtain ⟨pd, cd, rfl, ad, ld⟩ := o2.arr; have R0 := kkeep kk2 r0; have R1 := kkeep kk2 r1; have R2 := kkeep kk2 r2; have F0 := (kfro kk2 hlt3).trans f0; have F1 := (kfro kk2 hlt3).trans f1; have F2 := (kfro kk2 hlt3).trans f2) | (go_at_call 110; refine (HP.out _ ?q3).mono ?_; (case q3 => (repeat (first | with_reducible exact Kp.refl _ | with_reducible refine Kp.drew ?_)); done); rintro e v1 ⟨pp, cc, rfl, ar1, ll1, k01⟩; have kk1 : Kp w4 v1 := Kp.trans ?q4 k01; (case q4 => (repeat (first | with_reducible exact Kp.refl _ | with_reducible refine Kp.drew ?_)); done); have kA : Kp wB v1 := kS.trans kk1))
  have hs1 := Below.size kk1
  obtain ⟨wz, hwz⟩ : ∃ wz, wz = ((v2.setCell ⟨B + 2, 0, none⟩ (.bool ng)).setCell ⟨B + 2, 1, none⟩ (.slice pn (dig a').length cn)).setCell ⟨B + 2, 2, none⟩ (.slice pd (dig b').length cd) := ⟨_, rfl⟩
  have kb : Kb (B + 2) v2 wz := by rw [hwz]; exact (((Kb.refl (B + 2) v2).setCell 0 _).setCell 1 _).setCell 2 _
  have O1 := o1.kb kb (fun g hg => by have := o1.lt g hg; omega)
  have O2 := o2.kb kb (fun g hg => by have := o2.lt g hg; omega)
  have hkw : Kp w wz := kb.kp ((HW.out.2.2.2.2.2.2.1.trans k03).trans kk2) (by rw [HW.out.2.2.2.1]; omega)
  have HO : Hid (Own wz w.heap.size (.slice pn (dig a').length cn) (dig a') ∧ Own wz w.heap.size (.slice pd (dig b').length cd) (dig b') ∧ (FracOf (Y - X) D 0 a' b' ∧ (Y - X ≠ 0 → ng = sb)) ∧ Kp w wz ∧ wz = ((v2.setCell ⟨B + 2, 0, none⟩ (.bool ng)).setCell ⟨B + 2, 1, none⟩ (.slice pn (dig a').length cn)).setCell ⟨B + 2, 2, none⟩ (.slice pd (dig b').length cd)) := ⟨O1.mono (by have e9 := HW.out.2.2.2.1; first | omega | exact Nat.le_trans (show w.heap.size ≤ v1.heap.size by omega) (Nat.le_refl _)), O2.mono (by have e9 := HW.out.2.2.2.1; first | omega | exact Nat.le_trans (show w.heap.size ≤ v1.heap.size by omega) (Nat.le_refl _)), ff, hkw, hwz⟩
  clear hs1 hwz kb O1 O2 hkw o1 o2 ff k12 kk2 kB an ln ad ld kk1 k01 kA ar1 ll1 HP HFR HS HL kS kD hge k03
  go_wp2
  obtain ⟨q1, q2, q3, q4, q5⟩ := HO.out
  rw [q5] at q1 q2 q4
  exact bodyPost_ret (v := .agg #[.bool ng, .slice pn (dig a').length cn, .slice pd (dig b').length cd]) (by simp [results, Tryz.results74, go_sem, R0, R1, R2]) rfl ⟨_, _, a', b', ng, rfl, q1, q2, q3, q4⟩
end Go.Proofs.YthdnajcgdngmcaaGreatDoor
namespace Go.Proofs.YthdnajcgdngmcaaGreatDoor
open Go.RowKit
set_option maxRecDepth 20000 in
set_option maxHeartbeats 1000000 in
theorem in9_ (a b : Nat) (w : World) : Calls Tryz.prog 20 #[.agg #[.int .u64 ((a : Nat) : Int), .int .u64 ((b : Nat) : Int)]] w fun e w' => e = .returned (.agg #[.float .f64 a, .float .f64 b]) ∧ Kp w w' := by
  have h1 := Fq.ff64 a
  have h2 := Fq.ff64 b
  generalize (a : Int) = X at h1 ⊢
  generalize (b : Int) = Y at h2 ⊢
  go_enter Tryz.func20, Tryz.ntmps20
  go_wp2
  go_region_held3 (fun w' => w'.cell? ⟨w.heap.size, 0, none⟩ = some (.int .u64 X) ∧ w'.cell? ⟨w.heap.size, 1, none⟩ = some (.int .u64 Y)) (simp [go_sem]) (fail)
  go_wp2
  exact bodyPost_ret (v := .agg #[.float .f64 a, .float .f64 b]) (by simp [results, Tryz.results20, go_sem]) rfl ⟨rfl, (by repeat (with_reducible (first | assumption | exact Kp.refl _ | apply Kp.drew | apply Kp.alloc | apply Kp.drewN | (refine Kp.setCell ?_ (by first | omega | (simp <;> omega)) _) | (refine Kp.trans ?_ (by assumption)))))⟩
set_option maxRecDepth 20000 in
set_option maxHeartbeats 1000000 in
theorem out9_ (a b : Nat) (w : World) : Calls Tryz.prog 19 #[.agg #[.float .f64 a, .float .f64 b]] w fun e w' => e = .returned (.agg #[.int .u64 ((a : Nat) : Int), .int .u64 ((b : Nat) : Int)]) ∧ Kp w w' := by
  have h1 := Fq.fb64 a
  have h2 := Fq.fb64 b
  generalize (a : Int) = X at h1 ⊢
  generalize (b : Int) = Y at h2 ⊢
  go_enter Tryz.func19, Tryz.ntmps19
  go_wp2
  go_region_held3 (fun w' => w'.cell? ⟨w.heap.size, 0, none⟩ = some (.float .f64 a) ∧ w'.cell? ⟨w.heap.size, 1, none⟩ = some (.float .f64 b)) (simp [go_sem, World.cell?_alloc_past]) (fail)
  go_wp2
  exact bodyPost_ret (v := .agg #[.int .u64 X, .int .u64 Y]) (by simp [results, Tryz.results19, go_sem]) rfl ⟨rfl, (by repeat (with_reducible (first | assumption | exact Kp.refl _ | apply Kp.drew | apply Kp.alloc | apply Kp.drewN | (refine Kp.setCell ?_ (by first | omega | (simp <;> omega)) _) | (refine Kp.trans ?_ (by assumption)))))⟩
end Go.Proofs.YthdnajcgdngmcaaGreatDoor
namespace Go.Proofs.YthdnajcgdngmcaaGreatDoor
open Go.RowKit
def pI (x : Int) : Int := ((pw x : Nat) : Int)
theorem pI_inj (x y : Int) (hx : BdZ x) (hy : BdZ y) : pI x = pI y ↔ x = y := by
  unfold pI
  rw [← pw_inj x y hx hy]
  omega
set_option maxRecDepth 20000 in
set_option maxHeartbeats 400000 in
theorem isinf6_ (n : Bool) (m : Nat) (hm : m < 9223372036854775808) (w : World) : Calls Tryz.prog 33 #[.int .u64 ((Fq.wD n m : Nat) : Int)] w fun e w' => e = .returned (.bool (decide (m = 9218868437227405312))) ∧ w' = w := by
  obtain ⟨X, hX⟩ : ∃ X, X = Fq.wD n m := ⟨_, rfl⟩
  have f1 := (Fq.noTop6 n m X hm hX).1
  rw [← hX]
  clear hX hm
  by_cases c : m = 9218868437227405312
  · have t1 : ((m : Int) == 9218868437227405312) = true := by rw [c]; rfl
    rw [decide_eq_true c]
    clear c
    go_enter Tryz.func33, Tryz.ntmps33
    go_wp2
    exact bodyPost_ret (v := .bool true) (by simp [results, Tryz.results33, go_sem] <;> simpa using t1) rfl ⟨rfl, rfl⟩
  · have t1 : ((m : Int) == 9218868437227405312) = false := by simp; omega
    rw [decide_eq_false c]
    clear c
    go_enter Tryz.func33, Tryz.ntmps33
    go_wp2
    exact bodyPost_ret (v := .bool false) (by simp [results, Tryz.results33, go_sem] <;> simpa using t1) rfl ⟨rfl, rfl⟩
theorem isinf9_ (x : Int) (h : BdZ x) (w : World) : Calls Tryz.prog 33 #[.int .u64 (pI x)] w fun e w' => e = .returned (.bool (decide (x = 9218868437227405312 ∨ x = -9218868437227405312))) ∧ w' = w := by
  have g := isinf6_ (decide (x < 0)) x.natAbs (by have := abs_pw x h; omega) w
  rw [show decide (x.natAbs = 9218868437227405312) = decide (x = 9218868437227405312 ∨ x = -9218868437227405312) from by congr 1; apply propext; omega] at g
  exact g
theorem rread9_ (a b : Nat) (L H : Int) (h : Rd a b L H) (w : World) : Calls Tryz.prog 23 #[.agg #[.int .u64 ((a : Nat) : Int), .int .u64 ((b : Nat) : Int)]] w fun e w' => e = .returned (.agg #[.int .u64 (pI L), .int .u64 (pI H)]) ∧ Kp w w' := by
  have e1 := h.2.2.2.1
  have e2 := h.2.2.2.2
  unfold pI
  rw [← e1, ← e2]
  obtain ⟨n, m, hm, rfl⟩ := Fq.exD a h.1
  obtain ⟨n', m', hm', rfl⟩ := Fq.exD b h.2.1
  exact Fq.rread_ n n' m m' hm hm' w
theorem rempty9_ (w : World) : Calls Tryz.prog 31 #[] w fun e w' => e = .returned (.agg #[.int .u64 9218868437227405312, .int .u64 18442240474082181120]) ∧ Kp w w' := by
  refine (Fq.rempty_ w).mono ?_
  rintro e w' ⟨rfl, rfl⟩
  exact ⟨rfl, (Kp.refl w).alloc _⟩
end Go.Proofs.YthdnajcgdngmcaaGreatDoor
namespace Go.Proofs.YthdnajcgdngmcaaGreatDoor
open Go.RowKit
set_option linter.unusedVariables false
set_option maxRecDepth 20000 in
set_option maxHeartbeats 400000 in
theorem stepC0_ (a b X Y : Nat) (w : World) (h : ∀ W : World, Kp w W → Calls Tryz.prog 12 #[.agg #[.float .f64 a, .float .f64 b]] W fun e w' => e = .returned (.agg #[.float .f64 X, .float .f64 Y]) ∧ Kp W w') : Calls Tryz.prog 27 #[.int .i64 0, .agg #[.float .f64 a, .float .f64 b]] w fun e w' => e = .returned (.agg #[.float .f64 X, .float .f64 Y]) ∧ Kp w w' := by
  have kv : Kp w ((w.alloc (.cells #[.float .f64 a, .float .f64 b] 25)).alloc (.cells #[.float .f64 0, .float .f64 0] 25)) := ((Kp.refl w).alloc _).alloc _
  have qy := Fq.H2.two0 w (.float .f64 a) (.float .f64 b) (.float .f64 0) (.float .f64 0) 25 25
  go_enter Tryz.func27, Tryz.ntmps27
  go_wp2_with (first | (go_at_call 12; refine (h _ kv).mono ?_; rintro e w3 ⟨rfl, g3⟩; have k3 : Kp w w3 := Kp.trans kv g3; obtain ⟨z0, z1, z2, z3⟩ := Fq.H2.keep qy g3))
  exact bodyPost_ret (v := .agg #[.float .f64 X, .float .f64 Y]) (by simp [results, Tryz.results27, go_sem, z0, z1]) rfl ⟨rfl, (k3.setCell (by simp) _).setCell (by simp) _⟩
set_option maxRecDepth 20000 in
set_option maxHeartbeats 400000 in
theorem stepC1_ (a b X Y : Nat) (w : World) (h : ∀ W : World, Kp w W → Calls Tryz.prog 13 #[.agg #[.float .f64 a, .float .f64 b]] W fun e w' => e = .returned (.agg #[.float .f64 X, .float .f64 Y]) ∧ Kp W w') : Calls Tryz.prog 27 #[.int .i64 1, .agg #[.float .f64 a, .float .f64 b]] w fun e w' => e = .returned (.agg #[.float .f64 X, .float .f64 Y]) ∧ Kp w w' := by
  have kv : Kp w ((w.alloc (.cells #[.float .f64 a, .float .f64 b] 25)).alloc (.cells #[.float .f64 0, .float .f64 0] 25)) := ((Kp.refl w).alloc _).alloc _
  have qy := Fq.H2.two0 w (.float .f64 a) (.float .f64 b) (.float .f64 0) (.float .f64 0) 25 25
  go_enter Tryz.func27, Tryz.ntmps27
  go_wp2_with (first | (go_at_call 13; refine (h _ kv).mono ?_; rintro e w3 ⟨rfl, g3⟩; have k3 : Kp w w3 := Kp.trans kv g3; obtain ⟨z0, z1, z2, z3⟩ := Fq.H2.keep qy g3))
  exact bodyPost_ret (v := .agg #[.float .f64 X, .float .f64 Y]) (by simp [results, Tryz.results27, go_sem, z0, z1]) rfl ⟨rfl, (k3.setCell (by simp) _).setCell (by simp) _⟩
set_option maxRecDepth 20000 in
set_option maxHeartbeats 400000 in
theorem stepC2_ (a b X Y : Nat) (w : World) (h : ∀ W : World, Kp w W → Calls Tryz.prog 14 #[.agg #[.float .f64 a, .float .f64 b]] W fun e w' => e = .returned (.agg #[.float .f64 X, .float .f64 Y]) ∧ Kp W w') : Calls Tryz.prog 27 #[.int .i64 2, .agg #[.float .f64 a, .float .f64 b]] w fun e w' => e = .returned (.agg #[.float .f64 X, .float .f64 Y]) ∧ Kp w w' := by
  have kv : Kp w ((w.alloc (.cells #[.float .f64 a, .float .f64 b] 25)).alloc (.cells #[.float .f64 0, .float .f64 0] 25)) := ((Kp.refl w).alloc _).alloc _
  have qy := Fq.H2.two0 w (.float .f64 a) (.float .f64 b) (.float .f64 0) (.float .f64 0) 25 25
  go_enter Tryz.func27, Tryz.ntmps27
  go_wp2_with (first | (go_at_call 14; refine (h _ kv).mono ?_; rintro e w3 ⟨rfl, g3⟩; have k3 : Kp w w3 := Kp.trans kv g3; obtain ⟨z0, z1, z2, z3⟩ := Fq.H2.keep qy g3))
  exact bodyPost_ret (v := .agg #[.float .f64 X, .float .f64 Y]) (by simp [results, Tryz.results27, go_sem, z0, z1]) rfl ⟨rfl, (k3.setCell (by simp) _).setCell (by simp) _⟩
set_option maxRecDepth 20000 in
set_option maxHeartbeats 400000 in
theorem stepC3_ (a b X Y : Nat) (w : World) (h : ∀ W : World, Kp w W → Calls Tryz.prog 15 #[.agg #[.float .f64 a, .float .f64 b]] W fun e w' => e = .returned (.agg #[.float .f64 X, .float .f64 Y]) ∧ Kp W w') : Calls Tryz.prog 27 #[.int .i64 3, .agg #[.float .f64 a, .float .f64 b]] w fun e w' => e = .returned (.agg #[.float .f64 X, .float .f64 Y]) ∧ Kp w w' := by
  have kv : Kp w ((w.alloc (.cells #[.float .f64 a, .float .f64 b] 25)).alloc (.cells #[.float .f64 0, .float .f64 0] 25)) := ((Kp.refl w).alloc _).alloc _
  have qy := Fq.H2.two0 w (.float .f64 a) (.float .f64 b) (.float .f64 0) (.float .f64 0) 25 25
  go_enter Tryz.func27, Tryz.ntmps27
  go_wp2_with (first | (go_at_call 15; refine (h _ kv).mono ?_; rintro e w3 ⟨rfl, g3⟩; have k3 : Kp w w3 := Kp.trans kv g3; obtain ⟨z0, z1, z2, z3⟩ := Fq.H2.keep qy g3))
  exact bodyPost_ret (v := .agg #[.float .f64 X, .float .f64 Y]) (by simp [results, Tryz.results27, go_sem, z0, z1]) rfl ⟨rfl, (k3.setCell (by simp) _).setCell (by simp) _⟩
set_option maxRecDepth 20000 in
set_option maxHeartbeats 400000 in
theorem stepC4_ (a b X Y : Nat) (w : World) (h : ∀ W : World, Kp w W → Calls Tryz.prog 18 #[.agg #[.float .f64 a, .float .f64 b]] W fun e w' => e = .returned (.agg #[.float .f64 X, .float .f64 Y]) ∧ Kp W w') : Calls Tryz.prog 27 #[.int .i64 4, .agg #[.float .f64 a, .float .f64 b]] w fun e w' => e = .returned (.agg #[.float .f64 X, .float .f64 Y]) ∧ Kp w w' := by
  have kv : Kp w ((w.alloc (.cells #[.float .f64 a, .float .f64 b] 25)).alloc (.cells #[.float .f64 0, .float .f64 0] 25)) := ((Kp.refl w).alloc _).alloc _
  have qy := Fq.H2.two0 w (.float .f64 a) (.float .f64 b) (.float .f64 0) (.float .f64 0) 25 25
  go_enter Tryz.func27, Tryz.ntmps27
  go_wp2_with (first | (go_at_call 18; refine (h _ kv).mono ?_; rintro e w3 ⟨rfl, g3⟩; have k3 : Kp w w3 := Kp.trans kv g3; obtain ⟨z0, z1, z2, z3⟩ := Fq.H2.keep qy g3))
  exact bodyPost_ret (v := .agg #[.float .f64 X, .float .f64 Y]) (by simp [results, Tryz.results27, go_sem, z0, z1]) rfl ⟨rfl, (k3.setCell (by simp) _).setCell (by simp) _⟩
set_option maxRecDepth 20000 in
set_option maxHeartbeats 400000 in
theorem stepC5_ (a b X Y : Nat) (w : World) (h : ∀ W : World, Kp w W → Calls Tryz.prog 17 #[.agg #[.float .f64 a, .float .f64 b]] W fun e w' => e = .returned (.agg #[.float .f64 X, .float .f64 Y]) ∧ Kp W w') : Calls Tryz.prog 27 #[.int .i64 5, .agg #[.float .f64 a, .float .f64 b]] w fun e w' => e = .returned (.agg #[.float .f64 X, .float .f64 Y]) ∧ Kp w w' := by
  have kv : Kp w ((w.alloc (.cells #[.float .f64 a, .float .f64 b] 25)).alloc (.cells #[.float .f64 0, .float .f64 0] 25)) := ((Kp.refl w).alloc _).alloc _
  have qy := Fq.H2.two0 w (.float .f64 a) (.float .f64 b) (.float .f64 0) (.float .f64 0) 25 25
  go_enter Tryz.func27, Tryz.ntmps27
  go_wp2_with (first | (go_at_call 17; refine (h _ kv).mono ?_; rintro e w3 ⟨rfl, g3⟩; have k3 : Kp w w3 := Kp.trans kv g3; obtain ⟨z0, z1, z2, z3⟩ := Fq.H2.keep qy g3))
  exact bodyPost_ret (v := .agg #[.float .f64 X, .float .f64 Y]) (by simp [results, Tryz.results27, go_sem, z0, z1]) rfl ⟨rfl, (k3.setCell (by simp) _).setCell (by simp) _⟩
theorem step9_ (K : Nat) (hK : K = 1074) (k : Nat) (hk : k < 6) (a b : Nat) (L H : Int) (hx : Rd a b L H) (w : World) : Calls Tryz.prog 27 #[.int .i64 (k : Int), .agg #[.float .f64 a, .float .f64 b]] w fun e w' => e = .returned (.agg #[.float .f64 (pw (gLo K k L H)), .float .f64 (pw (gHi K k L H))]) ∧ Kp w w' := by
  by_cases c0 : k = 0
  · subst c0; exact stepC0_ a b _ _ w (fun W _ => stepB0_ K hK a b L H hx W)
  by_cases c1 : k = 1
  · subst c1; exact stepC1_ a b _ _ w (fun W _ => stepB1_ K hK a b L H hx W)
  by_cases c2 : k = 2
  · subst c2; exact stepC2_ a b _ _ w (fun W _ => stepB2_ K hK a b L H hx W)
  by_cases c3 : k = 3
  · subst c3; exact stepC3_ a b _ _ w (fun W _ => stepB3_ K hK a b L H hx W)
  by_cases c4 : k = 4
  · subst c4; exact stepC4_ a b _ _ w (fun W _ => stepB4_ K hK a b L H hx W)
  by_cases c5 : k = 5
  · subst c5; exact stepC5_ a b _ _ w (fun W _ => stepB5_ K hK a b L H hx W)
  omega
end Go.Proofs.YthdnajcgdngmcaaGreatDoor
namespace Go.Proofs.YthdnajcgdngmcaaGreatDoor
open Go.RowKit
set_option linter.unusedVariables false
theorem pI_I (x : Int) (hx : BdZ x) : (pI x == 9218868437227405312) = decide (x = 9218868437227405312) := by
  have h := pI_inj x 9218868437227405312 hx (by unfold BdZ; omega)
  have e : pI 9218868437227405312 = 9218868437227405312 := by decide
  rw [e] at h
  by_cases c : x = 9218868437227405312
  · rw [decide_eq_true c]; simp [h.2 c]
  · rw [decide_eq_false c]; simp; exact fun g => c (h.1 g)
theorem pI_MI : pI (-9218868437227405312) = 18442240474082181120 := by decide
end Go.Proofs.YthdnajcgdngmcaaGreatDoor
namespace Go.Proofs.YthdnajcgdngmcaaGreatDoor
open Go.RowKit
set_option linter.unusedVariables false
set_option maxRecDepth 20000 in
set_option maxHeartbeats 4000000 in
theorem wholeE_ (X1 X2 : Int) (A1 A2 : Nat) (S T : Nat → Nat) (E : Nat → Nat → Int) (P : Nat → Int) (hr : ∀ w : World, Calls Tryz.prog 23 #[.agg #[.int .u64 X1, .int .u64 X2]] w fun e w' => e = .returned (.agg #[.int .u64 (P 0), .int .u64 (P 1)]) ∧ Kp w w') (hi : ∀ w : World, Calls Tryz.prog 20 #[.agg #[.int .u64 (P 0), .int .u64 (P 1)]] w fun e w' => e = .returned (.agg #[.float .f64 A1, .float .f64 A2]) ∧ Kp w w') (hs : ∀ k : Nat, k < 6 → ∀ w : World, Calls Tryz.prog 27 #[.int .i64 (k : Int), .agg #[.float .f64 A1, .float .f64 A2]] w fun e w' => e = .returned (.agg #[.float .f64 (S k), .float .f64 (T k)]) ∧ Kp w w') (ho : ∀ k : Nat, k < 6 → ∀ w : World, Calls Tryz.prog 19 #[.agg #[.float .f64 (S k), .float .f64 (T k)]] w fun e w' => e = .returned (.agg #[.int .u64 (E 0 k), .int .u64 (E 1 k)]) ∧ Kp w w') (hlv : ∀ w : World, TU7 w → Calls Tryz.prog 10 #[] w fun e w' => e = .returned (.bool true) ∧ Kp w w') (t1 : (P 0 == 9218868437227405312) = true) (t2 : (P 1 == 18442240474082181120) = true) (t3 : ∀ k : Nat, k < 6 → (E 0 k == 9218868437227405312) = true ∧ (E 1 k == 18442240474082181120) = true) (w : World) (hT : TU7 w) : Calls Tryz.prog 7 #[.agg #[.int .u64 X1, .int .u64 X2]] w fun e w' => e = .returned (.bool true) ∧ Kp w w' := by
  have q0 := Fq.H2.new w (.int .u64 X1) (.int .u64 X2) 33
  obtain ⟨x0, x1, x2, x3⟩ := id q0
  go_enter Tryz.func7, Tryz.ntmps7
  go_upto_region 2 with (first | (go_at_call 23; refine (hr _).mono ?_; rintro e w1 ⟨rfl, g1⟩; have q1 := Fq.H2.keep q0 g1; clear x0 x1 x2 x3; obtain ⟨x0, x1, x2, x3⟩ := id q1))
  clear x0 x1 x2 x3
  have kW : Kp w ((w1.setCell ⟨w.heap.size, 0, none⟩ (.int .u64 (P 0))).setCell ⟨w.heap.size, 1, none⟩ (.int .u64 (P 1))) := ((Kp.trans ((Kp.refl w).alloc _) g1).setCell (Nat.le_refl _) _).setCell (Nat.le_refl _) _
  have qx := Fq.H2.put q1 (.int .u64 (P 0)) (.int .u64 (P 1))
  have hTW := hT.kp kW
  generalize hW : ((w1.setCell ⟨w.heap.size, 0, none⟩ (.int .u64 (P 0))).setCell ⟨w.heap.size, 1, none⟩ (.int .u64 (P 1))) = W at kW qx hTW ⊢
  clear hW q0 q1 g1
  go_wp2_with fail
  go_loopw [3] (fun i wr => ∃ k : Nat, k ≤ 6 ∧ i = .int .i64 k ∧ Kp W wr) (fun i _ => 6 - (intOf i).toNat)
  case atStart => exact ⟨0, by omega, rfl, Kp.refl _⟩
  case round =>
    obtain ⟨k, hk, rfl, gr⟩ := hrel
    replace qx := Fq.H2.keep qx gr
    replace hTW := hTW.kp gr
    by_cases ck : k < 6
    · have i1 : (k : Int) < 6 := by omega
      obtain ⟨x0, x1, x2, x3⟩ := id qx
      go_upto_region 6 with (first | (go_at_call 20; refine (hi _).mono ?_; rintro e wa ⟨rfl, ga⟩) | (go_at_call 27; refine (hs k ck _).mono ?_; rintro e wb ⟨rfl, gb⟩) | (go_at_call 19; refine (ho k ck _).mono ?_; rintro e wx ⟨rfl, gx⟩))
      clear x0 x1 x2 x3
      replace gx := Kp.trans (Kp.trans ga gb) gx
      replace qx := Fq.H2.past (Fq.H2.keep qx gx) #[.int .u64 (E 0 k), .int .u64 (E 1 k)] 33
      have qy := Fq.H2.new wx (.int .u64 (E 0 k)) (.int .u64 (E 1 k)) 33
      replace gr := (Kp.trans gr gx).alloc (.cells #[.int .u64 (E 0 k), .int .u64 (E 1 k)] 33)
      replace hTW := (hTW.kp gx).kp ((Kp.refl wx).alloc (.cells #[.int .u64 (E 0 k), .int .u64 (E 1 k)] 33))
      clear gx ga gb
      generalize hW0 : wx.alloc (.cells #[.int .u64 (E 0 k), .int .u64 (E 1 k)] 33) = W9 at gr qx qy hTW ⊢
      generalize wx.heap.size = by9 at qy ⊢
      clear hW0
      obtain ⟨t4, t5⟩ := t3 k ck
      go_upto_region 6 with fail
      go_cut [23] from 12 to 105 (fun s23 wx => s23 = .bool true ∧ Kp W9 wx)
      case first =>
        (
          refine Fq.wp_region_grow (by kernel_rfl) (by kernel_rfl) (fun ι _ G hG hall => ?_)
          have tG : ∀ n, TU7 (G n) := fun n => hTW.kp (hG n)
          have cc0 : ∀ n, (G n).cell? ⟨w.heap.size, 0, none⟩ = some (.int .u64 (P 0)) := fun n => Fq.gkeep (hG n) qx.1
          have cc1 : ∀ n, (G n).cell? ⟨w.heap.size, 1, none⟩ = some (.int .u64 (P 1)) := fun n => Fq.gkeep (hG n) qx.2.1
          have cc2 : ∀ n, (G n).cell? ⟨by9, 0, none⟩ = some (.int .u64 (E 0 k)) := fun n => Fq.gkeep (hG n) qy.1
          have cc3 : ∀ n, (G n).cell? ⟨by9, 1, none⟩ = some (.int .u64 (E 1 k)) := fun n => Fq.gkeep (hG n) qy.2.1
          repeat (go_big_quiet_step (first | (go_at_call 31; exact (rempty9_ _).mono (fun e w' h => ⟨h.1, hall _ (Fq.gtrans (hG _) h.2)⟩))))
          refine wpQuiet_nil ?_
          rintro _ ⟨nq, rfl⟩
          have gq : Kp W9 (G nq) := hG nq
          clear cc0 cc1 cc2 cc3 hall hG tG
          go_wp2_with fail
          go_meet
          exact ⟨rfl, gq⟩)
      case rest =>
      obtain ⟨rfl, gw⟩ := hcut
      replace qx := Fq.H2.keep qx gw
      replace qy := Fq.H2.keep qy gw
      replace hTW := hTW.kp gw
      replace gr := Kp.trans gr gw
      clear gw
      generalize wc = W9 at qx qy hTW gr ⊢
      go_upto_region 7 with fail
      refine Fq.wp_region_grow (by kernel_rfl) (by kernel_rfl) (fun ι _ G hG hall => ?_)
      have tG : ∀ n, TU7 (G n) := fun n => hTW.kp (hG n)
      have cc0 : ∀ n, (G n).cell? ⟨w.heap.size, 0, none⟩ = some (.int .u64 (P 0)) := fun n => Fq.gkeep (hG n) qx.1
      have cc1 : ∀ n, (G n).cell? ⟨w.heap.size, 1, none⟩ = some (.int .u64 (P 1)) := fun n => Fq.gkeep (hG n) qx.2.1
      have cc2 : ∀ n, (G n).cell? ⟨by9, 0, none⟩ = some (.int .u64 (E 0 k)) := fun n => Fq.gkeep (hG n) qy.1
      have cc3 : ∀ n, (G n).cell? ⟨by9, 1, none⟩ = some (.int .u64 (E 1 k)) := fun n => Fq.gkeep (hG n) qy.2.1
      repeat (go_big_quiet_step (first | (go_at_call 31; exact (rempty9_ _).mono (fun e w' h => ⟨h.1, hall _ (Fq.gtrans (hG _) h.2)⟩))))
      refine wpQuiet_nil ?_
      rintro _ ⟨nq, rfl⟩
      have gq : Kp W9 (G nq) := hG nq
      clear cc0 cc1 cc2 cc3 hall hG tG
      go_wp2
      exact ⟨⟨k + 1, by omega, by go_num, Kp.trans gr gq⟩, by simp [intOf]; omega⟩
    · have i1 : ¬ ((k : Int) < 6) := by omega
      go_wp2_with (first | (go_at_call 10; refine (hlv _ hTW).mono ?_; rintro e wx ⟨rfl, gx⟩))
      exact bodyPost_ret (v := .bool true) (by simp [results, Tryz.results7, go_sem]) rfl ⟨rfl, (Kp.trans (Kp.trans kW gr) gx)⟩
end Go.Proofs.YthdnajcgdngmcaaGreatDoor
