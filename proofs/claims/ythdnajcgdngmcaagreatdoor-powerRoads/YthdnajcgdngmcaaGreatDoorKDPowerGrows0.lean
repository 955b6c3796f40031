import Derived.Test.YthdnajcgdngmcaaGreatDoorKWUm
import Derived.Laws.FloatArith
import Derived.WalkKit
import Derived.ProofKit
import Derived.RowKit3
import Derived.Deep.RegionHeld3
import Derived.WalkSpells
import Derived.StillTactics
import Derived.Deep.QuietTactic
import Derived.BigQuiet
import Derived.Below
import Derived.Laws.BitsAllLaws
import Derived.Laws.Slices
import Derived.Laws.Bits64b
import Derived.RowKit
import Derived.Deep.OwnRows
import Derived.OwnWalk
import Derived.Deep.CutRange
import Derived.Deep.DeepCutAuto
namespace Go.Proofs.YthdnajcgdngmcaaGreatDoor
open Go.RowKit
namespace Fq
theorem pla_lt (x : Nat) (h : x < 18446744073709551616) : pla x < 18446744073709551616 := by unfold pla; split <;> omega
end Fq
end Go.Proofs.YthdnajcgdngmcaaGreatDoor
namespace Go.Proofs.YthdnajcgdngmcaaGreatDoor
open Go.RowKit
namespace Fq
/-- patterns that are no NaN in the order of what they stand for -/
def kyN (x : Nat) : Nat := if 9223372036854775808 ≤ pla x then 18446744073709551615 - pla x else pla x + 9223372036854775808
theorem kyN_w (n : Bool) (m : Nat) (h : m ≤ 9218868437227405312) : (kyN (wD n m) : Int) = if plz n m < 0 then 9223372036854775807 + plz n m else 9223372036854775808 + plz n m := by
  unfold kyN pla wD plz
  cases n <;> simp <;> repeat' split
  all_goals omega
theorem kyN_lt (n n' : Bool) (m m' : Nat) (h : m ≤ 9218868437227405312) (h' : m' ≤ 9218868437227405312) : kyN (wD n m) < kyN (wD n' m') ↔ plz n m < plz n' m' := by
  have e1 := kyN_w n m h
  have e2 := kyN_w n' m' h'
  have : (kyN (wD n m) < kyN (wD n' m')) ↔ ((kyN (wD n m) : Int) < kyN (wD n' m')) := by omega
  rw [this, e1, e2]
  repeat' split
  all_goals omega
end Fq
end Go.Proofs.YthdnajcgdngmcaaGreatDoor
namespace Go.Proofs.YthdnajcgdngmcaaGreatDoor
open Go.RowKit
namespace Fq
theorem xor_full (Y : Nat) (h : Y < 18446744073709551616) : 18446744073709551615 ^^^ Y = 18446744073709551615 - Y := by
  have e : 18446744073709551615 - Y = 2 ^ 64 - (Y + 1) := by omega
  rw [e, show 18446744073709551615 = 2 ^ 64 - 1 from by decide]
  apply Nat.eq_of_testBit_eq
  intro i
  rw [Nat.testBit_xor, Nat.testBit_two_pow_sub_one, Nat.testBit_two_pow_sub_succ (by omega)]
  by_cases c : i < 64
  · simp [c]
  · have : Y.testBit i = false := Nat.testBit_lt_two_pow (Nat.lt_of_lt_of_le (show Y < 2 ^ 64 by omega) (Nat.pow_le_pow_right (by decide) (by omega)))
    simp [c, this]
theorem noTop6 (n : Bool) (m X : Nat) (hm : m < 9223372036854775808) (hX : X = wD n m) : bits .andNot .u64 (X : Int) 9223372036854775808 = (m : Int) ∧ X < 18446744073709551616 := by
  have hX9 : X < 18446744073709551616 := by rw [hX]; unfold wD; split <;> omega
  have h := u64_andNot_nat X 9223372036854775808 hX9 (by decide)
  have e : X % 9223372036854775808 = m := by rw [hX]; unfold wD; split <;> omega
  rw [show 18446744073709551615 - 9223372036854775808 = 2 ^ 63 - 1 from by decide, Nat.and_two_pow_sub_one_eq_mod, show (2 : Nat) ^ 63 = 9223372036854775808 from by decide, e] at h
  exact ⟨h, hX9⟩
set_option maxRecDepth 20000 in
set_option maxHeartbeats 400000 in
theorem isnan6_ (n : Bool) (m : Nat) (hm : m < 9223372036854775808) (w : World) : Calls Tryz.prog 32 #[.int .u64 ((wD n m : Nat) : Int)] w fun e w' => e = .returned (.bool (decide (9218868437227405312 < m))) ∧ w' = w := by
  obtain ⟨X, hX⟩ : ∃ X, X = wD n m := ⟨_, rfl⟩
  have f1 := (noTop6 n m X hm hX).1
  rw [← hX]
  clear hX hm
  by_cases c : 9218868437227405312 < m
  · have t1 : 9218868437227405312 < (m : Int) := by omega
    rw [decide_eq_true c]
    clear c
    go_enter Tryz.func32, Tryz.ntmps32
    go_wp2
    exact bodyPost_ret (v := .bool true) (by simp [results, Tryz.results32, go_sem] <;> omega) rfl ⟨rfl, rfl⟩
  · have t1 : ¬ (9218868437227405312 < (m : Int)) := by omega
    rw [decide_eq_false c]
    clear c
    go_enter Tryz.func32, Tryz.ntmps32
    go_wp2
    exact bodyPost_ret (v := .bool false) (by simp [results, Tryz.results32, go_sem] <;> omega) rfl ⟨rfl, rfl⟩
set_option maxRecDepth 20000 in
set_option maxHeartbeats 400000 in
theorem rplain6_ (n : Bool) (m : Nat) (hm : m ≤ 9218868437227405312) (w : World) : Calls Tryz.prog 61 #[.int .u64 ((wD n m : Nat) : Int)] w fun e w' => e = .returned (.int .u64 ((pla (wD n m) : Nat) : Int)) ∧ w' = w := by
  have hn := isnan6_ n m (by omega)
  rw [decide_eq_false (by omega)] at hn
  obtain ⟨X, hX⟩ : ∃ X, X = wD n m := ⟨_, rfl⟩
  rw [← hX] at hn ⊢
  clear hX hm
  by_cases c : X = 9223372036854775808
  · have t : ((X : Int) == 9223372036854775808) = true := by rw [c]; rfl
    rw [show pla X = 0 from by simp [pla, c]]
    clear c hn
    go_enter Tryz.func61, Tryz.ntmps61
    go_wp2
    exact bodyPost_ret (v := .int .u64 0) (by simp [results, Tryz.results61, go_sem] <;> simp only [*]) rfl ⟨rfl, rfl⟩
  · have t : ((X : Int) == 9223372036854775808) = false := by simp; omega
    rw [show pla X = X from by simp [pla, c]]
    clear c
    go_enter Tryz.func61, Tryz.ntmps61
    go_wp2_with (first | (go_at_call 32; refine (hn _).mono ?_; rintro e w' ⟨rfl, rfl⟩))
    exact bodyPost_ret (v := .int .u64 (X : Int)) (by simp [results, Tryz.results61, go_sem] <;> simp only [*]) rfl ⟨rfl, rfl⟩
set_option maxRecDepth 20000 in
set_option maxHeartbeats 400000 in
theorem key6_ (n : Bool) (m : Nat) (hm : m ≤ 9218868437227405312) (w : World) : Calls Tryz.prog 91 #[.int .u64 ((wD n m : Nat) : Int)] w fun e w' => e = .returned (.int .u64 ((kyN (wD n m) : Nat) : Int)) ∧ w' = w := by
  have hp := rplain6_ n m hm
  have hb : pla (wD n m) < 18446744073709551616 := pla_lt _ (by unfold wD; split <;> omega)
  obtain ⟨X, hX⟩ : ∃ X, X = wD n m := ⟨_, rfl⟩
  rw [← hX] at hp hb ⊢
  unfold kyN
  obtain ⟨Y, hY⟩ : ∃ Y, Y = pla X := ⟨_, rfl⟩
  rw [← hY] at hp hb ⊢
  clear hX hm hY
  by_cases c : 9223372036854775808 ≤ Y
  · have t : 9223372036854775808 ≤ (Y : Int) := by omega
    have u : bits .xor .u64 IntKind.u64.max (Y : Int) = ((18446744073709551615 - Y : Nat) : Int) := by
      have h := u64_xor_nat 18446744073709551615 Y (by decide) hb
      rw [xor_full Y hb] at h
      exact h
    rw [if_pos c]
    clear c hb
    obtain ⟨Z, hZ⟩ : ∃ Z : Nat, Z = 18446744073709551615 - Y := ⟨_, rfl⟩
    rw [← hZ] at u ⊢
    clear hZ
    go_enter Tryz.func91, Tryz.ntmps91
    go_wp2_with (first | (go_at_call 61; refine (hp _).mono ?_; rintro e w' ⟨rfl, rfl⟩))
    exact bodyPost_ret (v := .int .u64 (Z : Int)) (by simp [results, Tryz.results91, go_sem] <;> simp only [*]) rfl ⟨rfl, rfl⟩
  · have t : decide (9223372036854775808 ≤ (Y : Int)) = false := decide_eq_false (by omega)
    have u : bits .or .u64 (Y : Int) 9223372036854775808 = ((Y + 9223372036854775808 : Nat) : Int) := by
      have h := u64_or_nat Y 9223372036854775808 hb (by decide)
      have h9 := Nat.two_pow_add_eq_or_of_lt (i := 63) (b := Y) (by omega) 1
      rw [show 2 ^ 63 * 1 = 9223372036854775808 from by decide] at h9
      rw [Nat.or_comm, ← h9, Nat.add_comm] at h
      exact h
    rw [if_neg c]
    clear c hb
    obtain ⟨Z, hZ⟩ : ∃ Z : Nat, Z = Y + 9223372036854775808 := ⟨_, rfl⟩
    rw [← hZ] at u ⊢
    clear hZ
    go_enter Tryz.func91, Tryz.ntmps91
    go_wp2_with (first | (go_at_call 61; refine (hp _).mono ?_; rintro e w' ⟨rfl, rfl⟩))
    exact bodyPost_ret (v := .int .u64 (Z : Int)) (by simp [results, Tryz.results91, go_sem] <;> simp only [*]) rfl ⟨rfl, rfl⟩
set_option maxRecDepth 20000 in
set_option maxHeartbeats 400000 in
theorem above6_ (n n' : Bool) (m m' : Nat) (hm : m < 9223372036854775808) (hm' : m' < 9223372036854775808) (w : World) : Calls Tryz.prog 59 #[.int .u64 ((wD n m : Nat) : Int), .int .u64 ((wD n' m' : Nat) : Int)] w fun e w' => e = .returned (.bool (decide (m ≤ 9218868437227405312 ∧ m' ≤ 9218868437227405312 ∧ plz n' m' < plz n m))) ∧ w' = w := by
  have hn := isnan6_ n m hm
  have hn' := isnan6_ n' m' hm'
  have kl := kyN_lt n' n m' m
  have hk := key6_ n m
  have hk' := key6_ n' m'
  have e1 : m ≤ 9218868437227405312 → m' ≤ 9218868437227405312 → decide (m ≤ 9218868437227405312 ∧ m' ≤ 9218868437227405312 ∧ plz n' m' < plz n m) = decide ((kyN (wD n' m') : Int) < (kyN (wD n m) : Int)) := by
    intro h1 h2
    have kl := kl h2 h1
    have : ((kyN (wD n' m') : Int) < (kyN (wD n m) : Int)) ↔ plz n' m' < plz n m := by rw [← kl]; omega
    simp only [this]; congr 1; apply propext; omega
  clear kl
  obtain ⟨X, hX⟩ : ∃ X, X = wD n m := ⟨_, rfl⟩
  obtain ⟨Y, hY⟩ : ∃ Y, Y = wD n' m' := ⟨_, rfl⟩
  rw [← hX] at hn hk e1 ⊢
  rw [← hY] at hn' hk' e1 ⊢
  clear hX hY
  by_cases c1 : 9218868437227405312 < m
  · rw [decide_eq_true c1] at hn
    rw [decide_eq_false (by omega)]
    clear c1 e1 hk hk' hm hm' hn'
    go_enter Tryz.func59, Tryz.ntmps59
    go_wp2_with (first | (go_at_call 32; refine (hn _).mono ?_; rintro e w' ⟨rfl, rfl⟩))
    exact bodyPost_ret (v := .bool false) (by simp [results, Tryz.results59, go_sem] <;> simp only [*]) rfl ⟨rfl, rfl⟩
  rw [decide_eq_false c1] at hn
  by_cases c2 : 9218868437227405312 < m'
  · rw [decide_eq_true c2] at hn'
    rw [decide_eq_false (by omega)]
    clear c1 c2 e1 hk hk' hm hm'
    go_enter Tryz.func59, Tryz.ntmps59
    go_wp2_with (first | (go_at_call_of 32 (Value.int .u64 (X : Int)); refine (hn _).mono ?_; rintro e w' ⟨rfl, rfl⟩) | (go_at_call_of 32 (Value.int .u64 (Y : Int)); refine (hn' _).mono ?_; rintro e w' ⟨rfl, rfl⟩))
    exact bodyPost_ret (v := .bool false) (by simp [results, Tryz.results59, go_sem] <;> simp only [*]) rfl ⟨rfl, rfl⟩
  rw [decide_eq_false c2] at hn'
  have hk := hk (by omega)
  have hk' := hk' (by omega)
  rw [e1 (by omega) (by omega)]
  clear e1 c1 c2 hm hm'
  generalize kyN X = KX at hk ⊢
  generalize kyN Y = KY at hk' ⊢
  go_enter Tryz.func59, Tryz.ntmps59
  go_wp2_with (first | (go_at_call_of 32 (Value.int .u64 (X : Int)); refine (hn _).mono ?_; rintro e w' ⟨rfl, rfl⟩) | (go_at_call_of 32 (Value.int .u64 (Y : Int)); refine (hn' _).mono ?_; rintro e w' ⟨rfl, rfl⟩) | (go_at_call_of 91 (Value.int .u64 (X : Int)); refine (hk _).mono ?_; rintro e w' ⟨rfl, rfl⟩) | (go_at_call_of 91 (Value.int .u64 (Y : Int)); refine (hk' _).mono ?_; rintro e w' ⟨rfl, rfl⟩))
  exact bodyPost_ret (v := .bool (decide ((KY : Int) < (KX : Int)))) (by simp [results, Tryz.results59, go_sem] <;> simp only [*]) rfl ⟨rfl, rfl⟩
end Fq
end Go.Proofs.YthdnajcgdngmcaaGreatDoor
namespace Go.Proofs.YthdnajcgdngmcaaGreatDoor
open Go.RowKit
namespace Fq
set_option maxRecDepth 20000 in
set_option maxHeartbeats 400000 in
theorem rempty_ (w : World) : Calls Tryz.prog 31 #[] w fun e w' => e = .returned (.agg #[.int .u64 9218868437227405312, .int .u64 18442240474082181120]) ∧ w' = w.alloc (.cells #[.int .u64 9218868437227405312, .int .u64 18442240474082181120] 33) := by
  go_enter Tryz.func31, Tryz.ntmps31
  go_wp2
  exact bodyPost_ret (v := .agg #[.int .u64 9218868437227405312, .int .u64 18442240474082181120]) (by simp [results, Tryz.results31, go_sem] <;> simp only [*]) rfl ⟨rfl, rfl⟩
set_option maxRecDepth 20000 in
set_option maxHeartbeats 1000000 in
theorem sound_ (n n' : Bool) (m m' : Nat) (hm : m < 9223372036854775808) (hm' : m' < 9223372036854775808) (w : World) : Calls Tryz.prog 60 #[.agg #[.int .u64 (((wD n m) : Nat) : Int), .int .u64 (((wD n' m') : Nat) : Int)]] w fun e w' => e = .returned (.bool (snd (wD n m) (wD n' m'))) ∧ w' = w.alloc (.cells #[.int .u64 (((wD n m) : Nat) : Int), .int .u64 (((wD n' m') : Nat) : Int)] 33) := by
  have hn := isnan6_ n m hm
  have hn' := isnan6_ n' m' hm'
  have ha := above6_ n n' m m' hm hm'
  have es := snd_w n n' m m' hm hm'
  have e1 : (wD n m = 9218868437227405312) ↔ (n = false ∧ m = 9218868437227405312) := by unfold wD; cases n <;> simp; omega
  have e2 : (wD n' m' = 18442240474082181120) ↔ (n' = true ∧ m' = 9218868437227405312) := by unfold wD; cases n' <;> simp <;> omega
  obtain ⟨X, hX⟩ : ∃ X, X = wD n m := ⟨_, rfl⟩
  obtain ⟨Y, hY⟩ : ∃ Y, Y = wD n' m' := ⟨_, rfl⟩
  rw [← hX] at hn ha es e1 ⊢
  rw [← hY] at hn' ha es e2 ⊢
  clear hX hY
  rw [es]
  by_cases c1 : 9218868437227405312 < m
  · rw [decide_eq_true c1] at hn
    rw [decide_eq_false (by omega)]
    clear c1 es e1 e2 hm hm' hn' ha
    go_enter Tryz.func60, Tryz.ntmps60
    go_wp2_with (first | (go_at_call_of 32 (Value.int .u64 (X : Int)); refine (hn _).mono ?_; rintro e w' ⟨rfl, rfl⟩))
    exact bodyPost_ret (v := .bool false) (by simp [results, Tryz.results60, go_sem] <;> simp only [*]) rfl ⟨rfl, rfl⟩
  rw [decide_eq_false c1] at hn
  by_cases c2 : 9218868437227405312 < m'
  · rw [decide_eq_true c2] at hn'
    rw [decide_eq_false (by omega)]
    clear c1 c2 es e1 e2 hm hm' ha
    go_enter Tryz.func60, Tryz.ntmps60
    go_wp2_with (first | (go_at_call_of 32 (Value.int .u64 (X : Int)); refine (hn _).mono ?_; rintro e w' ⟨rfl, rfl⟩) | (go_at_call_of 32 (Value.int .u64 (Y : Int)); refine (hn' _).mono ?_; rintro e w' ⟨rfl, rfl⟩))
    exact bodyPost_ret (v := .bool false) (by simp [results, Tryz.results60, go_sem] <;> simp only [*]) rfl ⟨rfl, rfl⟩
  rw [decide_eq_false c2] at hn'
  by_cases c3 : plz n' m' < plz n m
  · rw [decide_eq_true ⟨by omega, by omega, c3⟩] at ha
    rw [decide_eq_false (by omega)]
    clear c1 c2 c3 es e1 e2 hm hm'
    go_enter Tryz.func60, Tryz.ntmps60
    go_wp2_with (first | (go_at_call_of 32 (Value.int .u64 (X : Int)); refine (hn _).mono ?_; rintro e w' ⟨rfl, rfl⟩) | (go_at_call_of 32 (Value.int .u64 (Y : Int)); refine (hn' _).mono ?_; rintro e w' ⟨rfl, rfl⟩) | (go_at_call 59; refine (ha _).mono ?_; rintro e w' ⟨rfl, rfl⟩))
    exact bodyPost_ret (v := .bool false) (by simp [results, Tryz.results60, go_sem] <;> simp only [*]) rfl ⟨rfl, rfl⟩
  rw [decide_eq_false (by omega)] at ha
  by_cases c4 : X = 9218868437227405312
  · have t4 : ((X : Int) != 9218868437227405312) = false := by rw [c4]; rfl
    rw [decide_eq_false (fun h => h.2.2.2.1 (e1.mp c4))]
    clear c1 c2 c3 c4 es e1 e2 hm hm'
    go_enter Tryz.func60, Tryz.ntmps60
    go_wp2_with (first | (go_at_call_of 32 (Value.int .u64 (X : Int)); refine (hn _).mono ?_; rintro e w' ⟨rfl, rfl⟩) | (go_at_call_of 32 (Value.int .u64 (Y : Int)); refine (hn' _).mono ?_; rintro e w' ⟨rfl, rfl⟩) | (go_at_call 59; refine (ha _).mono ?_; rintro e w' ⟨rfl, rfl⟩))
    exact bodyPost_ret (v := .bool false) (by simp [results, Tryz.results60, go_sem] <;> simp only [*]) rfl ⟨rfl, rfl⟩
  have t4 : ((X : Int) != 9218868437227405312) = true := by simp; omega
  by_cases c5 : Y = 18442240474082181120
  · have t5 : ((Y : Int) != 18442240474082181120) = false := by rw [c5]; rfl
    rw [decide_eq_false (fun h => h.2.2.2.2 (e2.mp c5))]
    clear c1 c2 c3 c4 c5 es e1 e2 hm hm'
    go_enter Tryz.func60, Tryz.ntmps60
    go_wp2_with (first | (go_at_call_of 32 (Value.int .u64 (X : Int)); refine (hn _).mono ?_; rintro e w' ⟨rfl, rfl⟩) | (go_at_call_of 32 (Value.int .u64 (Y : Int)); refine (hn' _).mono ?_; rintro e w' ⟨rfl, rfl⟩) | (go_at_call 59; refine (ha _).mono ?_; rintro e w' ⟨rfl, rfl⟩))
    exact bodyPost_ret (v := .bool false) (by simp [results, Tryz.results60, go_sem] <;> simp only [*]) rfl ⟨rfl, rfl⟩
  have t5 : ((Y : Int) != 18442240474082181120) = true := by simp; omega
  rw [decide_eq_true ⟨by omega, by omega, by omega, fun h => c4 (e1.mpr h), fun h => c5 (e2.mpr h)⟩]
  clear c1 c2 c3 c4 c5 es e1 e2 hm hm'
  go_enter Tryz.func60, Tryz.ntmps60
  go_wp2_with (first | (go_at_call_of 32 (Value.int .u64 (X : Int)); refine (hn _).mono ?_; rintro e w' ⟨rfl, rfl⟩) | (go_at_call_of 32 (Value.int .u64 (Y : Int)); refine (hn' _).mono ?_; rintro e w' ⟨rfl, rfl⟩) | (go_at_call 59; refine (ha _).mono ?_; rintro e w' ⟨rfl, rfl⟩))
  exact bodyPost_ret (v := .bool true) (by simp [results, Tryz.results60, go_sem] <;> simp only [*]) rfl ⟨rfl, rfl⟩
set_option maxRecDepth 20000 in
set_option maxHeartbeats 1000000 in
theorem rread_ (n n' : Bool) (m m' : Nat) (hm : m < 9223372036854775808) (hm' : m' < 9223372036854775808) (w : World) : Calls Tryz.prog 23 #[.agg #[.int .u64 (((wD n m) : Nat) : Int), .int .u64 (((wD n' m') : Nat) : Int)]] w fun e w' => e = .returned (.agg #[.int .u64 (((rlo (wD n m) (wD n' m')) : Nat) : Int), .int .u64 (((rhi (wD n m) (wD n' m')) : Nat) : Int)]) ∧ Grown w w' := by
  have hs := sound_ n n' m m' hm hm'
  have es := snd_w n n' m m' hm hm'
  have hp := rplain6_ n m
  have hp' := rplain6_ n' m'
  obtain ⟨X, hX⟩ : ∃ X, X = wD n m := ⟨_, rfl⟩
  obtain ⟨Y, hY⟩ : ∃ Y, Y = wD n' m' := ⟨_, rfl⟩
  rw [← hX] at hs es hp ⊢
  rw [← hY] at hs es hp' ⊢
  clear hX hY
  by_cases c : snd X Y = true
  · rw [c] at hs
    rw [show rlo X Y = pla X from by simp [rlo, c], show rhi X Y = pla Y from by simp [rhi, c]]
    rw [c] at es
    replace es := of_decide_eq_true es.symm
    replace hp := hp es.1
    replace hp' := hp' es.2.1
    clear es c hm hm'
    generalize ((pla X : Nat) : Int) = PX at hp ⊢
    generalize ((pla Y : Nat) : Int) = PY at hp' ⊢
    generalize (X : Int) = X at hs hp ⊢
    generalize (Y : Int) = Y at hs hp' ⊢
    go_enter Tryz.func23, Tryz.ntmps23
    go_wp2_with (first | (go_at_call 60; refine (hs _).mono ?_; rintro e w' ⟨rfl, rfl⟩))
    go_region_held3 (fun w' => w'.cell? ⟨w.heap.size, 0, none⟩ = some (.int .u64 X) ∧ w'.cell? ⟨w.heap.size, 1, none⟩ = some (.int .u64 Y)) (simp [go_sem, World.cell?_alloc_past]) (first | (go_at_call_of 61 (Value.int .u64 X); refine (hp _).mono ?_; rintro e w' ⟨rfl, rfl⟩) | (go_at_call_of 61 (Value.int .u64 Y); refine (hp' _).mono ?_; rintro e w' ⟨rfl, rfl⟩))
    go_wp2
    exact bodyPost_ret (v := .agg #[.int .u64 PX, .int .u64 PY]) (by simp [results, Tryz.results23, go_sem] <;> simp only [*]) rfl ⟨rfl, (by repeat (with_reducible (first | assumption | exact Grown.refl _ | apply Grown.drew | apply Grown.alloc | apply gdrewN | (refine Grown.setCell ?_ (by simp <;> omega) _) | (refine gtrans ?_ (by assumption)))))⟩
  · have c : snd X Y = false := by simpa using c
    rw [c] at hs
    rw [show rlo X Y = 9218868437227405312 from by simp [rlo, c], show rhi X Y = 18442240474082181120 from by simp [rhi, c]]
    clear es c hm hm' hp hp'
    go_enter Tryz.func23, Tryz.ntmps23
    go_wp2_with (first | (go_at_call 60; refine (hs _).mono ?_; rintro e w' ⟨rfl, rfl⟩) | (go_at_call 31; refine (rempty_ _).mono ?_; rintro e w' ⟨rfl, rfl⟩))
    exact bodyPost_ret (v := .agg #[.int .u64 9218868437227405312, .int .u64 18442240474082181120]) (by simp [results, Tryz.results23, go_sem] <;> simp only [*]) rfl ⟨rfl, (by repeat (with_reducible (first | assumption | exact Grown.refl _ | apply Grown.drew | apply Grown.alloc | apply gdrewN | (refine Grown.setCell ?_ (by simp <;> omega) _) | (refine gtrans ?_ (by assumption)))))⟩
end Fq
end Go.Proofs.YthdnajcgdngmcaaGreatDoor
namespace Go.Proofs.YthdnajcgdngmcaaGreatDoor
open Go.RowKit
namespace Fq
def vld (a b : Nat) : Bool := decide (a = 9218868437227405312 ∧ b = 18442240474082181120) || (snd a b && (!(decide (a = 9223372036854775808)) && !(decide (b = 9223372036854775808))))
set_option maxRecDepth 20000 in
set_option maxHeartbeats 2000000 in
theorem rvalid_ (n n' : Bool) (m m' : Nat) (hm : m < 9223372036854775808) (hm' : m' < 9223372036854775808) (w : World) : Calls Tryz.prog 62 #[.agg #[.int .u64 (((wD n m) : Nat) : Int), .int .u64 (((wD n' m') : Nat) : Int)]] w fun e w' => e = .returned (.bool (vld (wD n m) (wD n' m'))) ∧ Grown w w' := by
  have hs := sound_ n n' m m' hm hm'
  unfold vld
  generalize snd (wD n m) (wD n' m') = s at hs ⊢
  have t1 : decide (wD n m = 9218868437227405312 ∧ wD n' m' = 18442240474082181120) = ((((wD n m : Nat) : Int) == 9218868437227405312) && (((wD n' m' : Nat) : Int) == 18442240474082181120)) := by
    by_cases c1 : wD n m = 9218868437227405312 <;> by_cases c2 : wD n' m' = 18442240474082181120 <;> simp [c1, c2] <;> omega
  have t3 : (!decide (wD n m = 9223372036854775808)) = (((wD n m : Nat) : Int) != 9223372036854775808) := by
    by_cases c1 : wD n m = 9223372036854775808 <;> simp [c1] <;> omega
  have t4 : (!decide (wD n' m' = 9223372036854775808)) = (((wD n' m' : Nat) : Int) != 9223372036854775808) := by
    by_cases c1 : wD n' m' = 9223372036854775808 <;> simp [c1] <;> omega
  rw [t1, t3, t4]
  clear t1 t3 t4 hm hm'
  generalize ((wD n m : Nat) : Int) = X at hs ⊢
  generalize ((wD n' m' : Nat) : Int) = Y at hs ⊢
  generalize h1 : (X == 9218868437227405312) = E1
  generalize h2 : (Y == 18442240474082181120) = E2
  generalize h3 : (X != 9223372036854775808) = E3
  generalize h4 : (Y != 9223372036854775808) = E4
  cases E1
  · cases s <;> cases E2 <;> cases E3 <;> cases E4
    all_goals (
      go_enter Tryz.func62, Tryz.ntmps62
      go_wp2
      go_region_held3 (fun w' => w'.cell? ⟨w.heap.size, 0, none⟩ = some (.int .u64 X) ∧ w'.cell? ⟨w.heap.size, 1, none⟩ = some (.int .u64 Y)) (simp [go_sem]) (first | (go_at_call 31; refine (rempty_ _).mono ?_; rintro e w' ⟨rfl, rfl⟩))
      go_wp2_with (first | (go_at_call 60; refine (hs _).mono ?_; rintro e w' ⟨rfl, rfl⟩))
      exact bodyPost_ret (v := .bool _) (by simp [results, Tryz.results62, go_sem] <;> simp only [*]) rfl ⟨rfl, (by repeat (with_reducible (first | assumption | exact Grown.refl _ | apply Grown.drew | apply Grown.alloc | apply gdrewN | (refine Grown.setCell ?_ (by simp <;> omega) _) | (refine gtrans ?_ (by assumption)))))⟩)
  cases E2
  · cases s <;> cases E3 <;> cases E4
    all_goals (
      go_enter Tryz.func62, Tryz.ntmps62
      go_wp2
      go_region_held3 (fun w' => w'.cell? ⟨w.heap.size, 0, none⟩ = some (.int .u64 X) ∧ w'.cell? ⟨w.heap.size, 1, none⟩ = some (.int .u64 Y)) (simp [go_sem]) (first | (go_at_call 31; refine (rempty_ _).mono ?_; rintro e w' ⟨rfl, rfl⟩))
      go_wp2_with (first | (go_at_call 60; refine (hs _).mono ?_; rintro e w' ⟨rfl, rfl⟩))
      exact bodyPost_ret (v := .bool _) (by simp [results, Tryz.results62, go_sem] <;> simp only [*]) rfl ⟨rfl, (by repeat (with_reducible (first | assumption | exact Grown.refl _ | apply Grown.drew | apply Grown.alloc | apply gdrewN | (refine Grown.setCell ?_ (by simp <;> omega) _) | (refine gtrans ?_ (by assumption)))))⟩)
  · cases s <;> cases E3 <;> cases E4
    all_goals (
      go_enter Tryz.func62, Tryz.ntmps62
      go_wp2
      go_region_held3 (fun w' => w'.cell? ⟨w.heap.size, 0, none⟩ = some (.int .u64 X) ∧ w'.cell? ⟨w.heap.size, 1, none⟩ = some (.int .u64 Y)) (simp [go_sem]) (first | (go_at_call 31; refine (rempty_ _).mono ?_; rintro e w' ⟨rfl, rfl⟩))
      go_wp2_with (first | (go_at_call 60; refine (hs _).mono ?_; rintro e w' ⟨rfl, rfl⟩))
      exact bodyPost_ret (v := .bool _) (by simp [results, Tryz.results62, go_sem] <;> simp only [*]) rfl ⟨rfl, (by repeat (with_reducible (first | assumption | exact Grown.refl _ | apply Grown.drew | apply Grown.alloc | apply gdrewN | (refine Grown.setCell ?_ (by simp <;> omega) _) | (refine gtrans ?_ (by assumption)))))⟩)
end Fq
end Go.Proofs.YthdnajcgdngmcaaGreatDoor
namespace Go.Proofs.YthdnajcgdngmcaaGreatDoor
open Go.RowKit
theorem blen_mono {a b : Nat} (h : a ≤ b) : blen a ≤ blen b := (blen_le_iff a (blen b)).2 (Nat.lt_of_le_of_lt h ((blen_le_iff b (blen b)).1 (Nat.le_refl _)))
end Go.Proofs.YthdnajcgdngmcaaGreatDoor
namespace Go.Proofs.YthdnajcgdngmcaaGreatDoor
open Go.RowKit
theorem rS_lt (p A B : Nat) (hB : 0 < B) (hp : 0 < p) : rS p A B < 2 ^ p ∧ (rE p A B = 0 ∨ 2 ^ (p - 1) ≤ rS p A B) := by
  obtain ⟨h1, h2⟩ := rE_spec p A B hB hp
  have hq : 0 < B * 2 ^ rE p A B := Nat.mul_pos hB (Nat.two_pow_pos _)
  unfold rS
  refine ⟨?_, ?_⟩
  · rw [Nat.div_lt_iff_lt_mul hq, Nat.mul_comm (2 ^ p), Nat.mul_assoc, ← Nat.pow_add]
    exact h1
  · rcases h2 with h2 | h2
    · exact Or.inl h2
    · by_cases c : rE p A B = 0
      · exact Or.inl c
      · right
        rw [Nat.le_div_iff_mul_le hq, Nat.mul_comm (2 ^ (p - 1)), Nat.mul_assoc, ← Nat.pow_add, show rE p A B + (p - 1) = rE p A B + p - 1 from by omega]
        exact h2
theorem rE_mono (p A B A' B' : Nat) (hB : 0 < B) (hB' : 0 < B') (h : A * B' ≤ A' * B) : rE p A B ≤ rE p A' B' := by
  unfold rE
  have : A / B ≤ A' / B' := by
    rw [Nat.le_div_iff_mul_le hB']
    have e : A / B * B ≤ A := Nat.div_mul_le_self A B
    have e2 : A / B * B * B' ≤ A' * B := Nat.le_trans (Nat.mul_le_mul_right _ e) h
    rw [Nat.mul_right_comm] at e2
    exact Nat.le_of_mul_le_mul_right e2 hB
  have := blen_mono this
  omega
/-- a greater ratio is not rounded to less -/
theorem rU_mono (d : Int) (p A B A' B' : Nat) (hB : 0 < B) (hB' : 0 < B') (hp : 0 < p) (h : A * B' ≤ A' * B) : rU d p A B ≤ rU d p A' B' := by
  obtain ⟨s1, s2⟩ := rS_lt p A B hB hp
  obtain ⟨t1, t2⟩ := rS_lt p A' B' hB' hp
  have hE := rE_mono p A B A' B' hB hB' h
  have hw : 0 < B * 2 ^ rE p A B := Nat.mul_pos hB (Nat.two_pow_pos _)
  have hw' : 0 < B' * 2 ^ rE p A' B' := Nat.mul_pos hB' (Nat.two_pow_pos _)
  have le1 : ∀ b : Bool, b.toNat ≤ 1 := fun b => by cases b <;> decide
  unfold rU
  by_cases c : rE p A B = rE p A' B'
  · have hS : rS p A B ≤ rS p A' B' := by
      unfold rS
      rw [Nat.le_div_iff_mul_le hw']
      have e : A / (B * 2 ^ rE p A B) * (B * 2 ^ rE p A B) ≤ A := Nat.div_mul_le_self _ _
      have e2 : A / (B * 2 ^ rE p A B) * (B * 2 ^ rE p A B) * B' ≤ A' * B := Nat.le_trans (Nat.mul_le_mul_right _ e) h
      rw [← c]
      generalize A / (B * 2 ^ rE p A B) = q at *
      generalize 2 ^ rE p A B = P at *
      have e3 : q * (B * P) * B' = q * (B' * P) * B := by ac_rfl
      rw [e3] at e2
      exact Nat.le_of_mul_le_mul_right e2 hB
    rw [← c]
    apply Nat.mul_le_mul_right
    rcases Nat.lt_or_ge (rS p A B) (rS p A' B') with g | g
    · have := le1 (upw d (rS p A B) (rR p A B) (B * 2 ^ rE p A B))
      omega
    · have e : rS p A B = rS p A' B' := by omega
      rw [← e]
      have hu : upw d (rS p A B) (rR p A B) (B * 2 ^ rE p A B) = true → upw d (rS p A B) (rR p A' B') (B' * 2 ^ rE p A B) = true := by
        apply upw_mono d _ _ _ _ _ hw (by rw [c]; exact hw')
        have d1 := Nat.div_add_mod A (B * 2 ^ rE p A B)
        have d2 := Nat.div_add_mod A' (B' * 2 ^ rE p A' B')
        have q1 : A / (B * 2 ^ rE p A B) = rS p A B := rfl
        have q2 : A' / (B' * 2 ^ rE p A' B') = rS p A B := e.symm
        have q3 : A % (B * 2 ^ rE p A B) = rR p A B := rfl
        have q4 : A' % (B' * 2 ^ rE p A' B') = rR p A' B' := rfl
        rw [q1, q3] at d1
        rw [q2, q4, ← c] at d2
        generalize rR p A B = r at *
        generalize rR p A' B' = r' at *
        generalize rS p A B = q at *
        generalize 2 ^ rE p A B = P at *
        have f1 : A * (B' * P) = (B * P) * q * (B' * P) + r * (B' * P) := by rw [← d1, Nat.add_mul]
        have f2 : A' * (B * P) = (B' * P) * q * (B * P) + r' * (B * P) := by rw [← d2, Nat.add_mul]
        have f3 : A * (B' * P) ≤ A' * (B * P) := by rw [← Nat.mul_assoc, ← Nat.mul_assoc]; exact Nat.mul_le_mul_right _ h
        have f4 : (B * P) * q * (B' * P) = (B' * P) * q * (B * P) := by ac_rfl
        omega
      cases hx : upw d (rS p A B) (rR p A B) (B * 2 ^ rE p A B)
      · simp
      · rw [hu hx]; exact Nat.le_refl _
  · have hlt : rE p A B < rE p A' B' := by omega
    have t3 : 2 ^ (p - 1) ≤ rS p A' B' := t2.resolve_left (by omega)
    have g1 : (rS p A B + (upw d (rS p A B) (rR p A B) (B * 2 ^ rE p A B)).toNat) * 2 ^ rE p A B ≤ 2 ^ p * 2 ^ rE p A B := by
      apply Nat.mul_le_mul_right
      have := le1 (upw d (rS p A B) (rR p A B) (B * 2 ^ rE p A B))
      omega
    have g2 : 2 ^ p * 2 ^ rE p A B ≤ 2 ^ (p - 1) * 2 ^ rE p A' B' := by
      rw [← Nat.pow_add, ← Nat.pow_add]
      exact Nat.pow_le_pow_right (by decide) (by omega)
    have g3 : 2 ^ (p - 1) * 2 ^ rE p A' B' ≤ (rS p A' B' + (upw d (rS p A' B') (rR p A' B') (B' * 2 ^ rE p A' B')).toNat) * 2 ^ rE p A' B' := by
      apply Nat.mul_le_mul_right
      omega
    omega
theorem rgU_mono (p U U' : Nat) (hp : 0 < p) (h : U ≤ U') : rgU p U ≤ rgU p U' := by
  have hb := blen_mono h
  unfold rgU
  by_cases c : blen U - p = blen U' - p
  · rw [c]
    exact Nat.add_le_add_left (Nat.div_le_div_right h) _
  · have hlt : blen U - p < blen U' - p := by omega
    have u1 : U / 2 ^ (blen U - p) < 2 ^ p := by
      rw [Nat.div_lt_iff_lt_mul (Nat.two_pow_pos _), ← Nat.pow_add]
      exact Nat.lt_of_lt_of_le ((blen_le_iff U (blen U)).1 (Nat.le_refl _)) (Nat.pow_le_pow_right (by decide) (by omega))
    have u2 : 2 ^ (p - 1) ≤ U' / 2 ^ (blen U' - p) := by
      rw [Nat.le_div_iff_mul_le (Nat.two_pow_pos _), ← Nat.pow_add]
      rcases Nat.lt_or_ge U' (2 ^ (p - 1 + (blen U' - p))) with g | g
      · have := (blen_le_iff U' _).2 g
        omega
      · exact g
    have e : (2 : Nat) ^ p = 2 * 2 ^ (p - 1) := by rw [show p = p - 1 + 1 from by omega, Nat.pow_succ, Nat.add_sub_cancel]; omega
    have m1 : (blen U - p + 1) * 2 ^ (p - 1) ≤ (blen U' - p) * 2 ^ (p - 1) := Nat.mul_le_mul_right _ (by omega)
    rw [Nat.add_mul, Nat.one_mul] at m1
    omega
theorem rgU_top (p T U : Nat) (hp : 0 < p) (hT : p ≤ T) (h : blen U ≤ T) : rgU p U < (T - p + 2) * 2 ^ (p - 1) := by
  have u1 : U / 2 ^ (blen U - p) < 2 ^ p := by
    rw [Nat.div_lt_iff_lt_mul (Nat.two_pow_pos _), ← Nat.pow_add]
    exact Nat.lt_of_lt_of_le ((blen_le_iff U (blen U)).1 (Nat.le_refl _)) (Nat.pow_le_pow_right (by decide) (by omega))
  have e : (2 : Nat) ^ p = 2 * 2 ^ (p - 1) := by rw [show p = p - 1 + 1 from by omega, Nat.pow_succ, Nat.add_sub_cancel]; omega
  unfold rgU
  have m1 : (blen U - p) * 2 ^ (p - 1) ≤ (T - p) * 2 ^ (p - 1) := Nat.mul_le_mul_right _ (by omega)
  rw [Nat.add_mul]
  omega
theorem finG_mono (p T G I : Nat) (d : Int) (U U' : Nat) (hp : 0 < p) (hT : p ≤ T) (hG : (T - p + 2) * 2 ^ (p - 1) = G + 1) (hI : G + 1 = I) (h : U ≤ U') : finU p T G I d U ≤ finU p T G I d U' ∧ finU p T G I d U' ≤ I := by
  have hb := blen_mono h
  have k : ∀ X, blen X ≤ T → rgU p X ≤ G := fun X hX => by have := rgU_top p T X hp hT hX; omega
  unfold finU
  by_cases c2 : blen U' ≤ T
  · rw [if_pos c2, if_pos (by omega)]
    have := k U' c2
    exact ⟨rgU_mono p U U' hp h, by omega⟩
  · rw [if_neg c2]
    by_cases c1 : blen U ≤ T
    · rw [if_pos c1]
      have := k U c1
      split <;> omega
    · rw [if_neg c1]
      split <;> omega
theorem gpl_mono (p T G I : Nat) (d : Int) (c1 c2 : Nat) (hc : 0 < c2) (hp : 0 < p) (hT : p ≤ T) (hG : (T - p + 2) * 2 ^ (p - 1) = G + 1) (hI : G + 1 = I) (V V' : Int) (h : V ≤ V') : gpl p T G I d c1 c2 V ≤ gpl p T G I d c1 c2 V' := by
  have mn : ∀ (s : Bool) (a b : Nat), a ≤ b → finU p T G I (dirN s d) (rU (dirN s d) p (a * c1) c2) ≤ finU p T G I (dirN s d) (rU (dirN s d) p (b * c1) c2) := fun s a b hab =>
    (finG_mono p T G I (dirN s d) _ _ hp hT hG hI (rU_mono (dirN s d) p (a * c1) c2 (b * c1) c2 hc hc hp (Nat.mul_le_mul_right _ (Nat.mul_le_mul_right _ hab)))).1
  unfold gpl
  by_cases z : V = 0
  · rw [if_pos z]
    by_cases z' : V' = 0
    · rw [if_pos z']; exact Int.le_refl _
    · rw [if_neg z', if_neg (by omega)]; omega
  · rw [if_neg z]
    by_cases n : V < 0
    · rw [if_pos n]
      by_cases z' : V' = 0
      · rw [if_pos z']; omega
      · rw [if_neg z']
        by_cases n' : V' < 0
        · rw [if_pos n']
          have := mn true V'.natAbs V.natAbs (by omega)
          omega
        · rw [if_neg n']; omega
    · rw [if_neg n, if_neg (show ¬ V' = 0 by omega), if_neg (show ¬ V' < 0 by omega)]
      have := mn false V.natAbs V'.natAbs (by omega)
      omega
theorem gpl_le (p T G I : Nat) (d : Int) (c1 c2 : Nat) (hp : 0 < p) (hT : p ≤ T) (hG : (T - p + 2) * 2 ^ (p - 1) = G + 1) (hI : G + 1 = I) (V : Int) : -(I : Int) ≤ gpl p T G I d c1 c2 V ∧ gpl p T G I d c1 c2 V ≤ I := by
  have k := fun d U => (finG_mono p T G I d U U hp hT hG hI (Nat.le_refl _)).2
  unfold gpl
  split
  · omega
  · split
    · have := k (dirN true d) (rU (dirN true d) p (V.natAbs * c1) c2)
      omega
    · have := k (dirN false d) (rU (dirN false d) p (V.natAbs * c1) c2)
      omega
end Go.Proofs.YthdnajcgdngmcaaGreatDoor
namespace Go.Proofs.YthdnajcgdngmcaaGreatDoor
open Go.RowKit
theorem vd_hull (L1 H1 L2 H2 : Int) (h1 : VdZ L1 H1) (h2 : VdZ L2 H2) : VdZ (min L1 L2) (max H1 H2) := by
  unfold VdZ at *
  omega
end Go.Proofs.YthdnajcgdngmcaaGreatDoor
namespace Go.Proofs.YthdnajcgdngmcaaGreatDoor
open Go.RowKit
set_option linter.unusedVariables false
theorem g53_mono (d : Int) (c1 c2 : Nat) (hc : 0 < c2) (V V' : Int) (h : V ≤ V') : g53 d c1 c2 V ≤ g53 d c1 c2 V' := gpl_mono 53 2098 9218868437227405311 9218868437227405312 d c1 c2 hc (by decide) (by decide) (by decide) (by decide) V V' h
theorem g53_le (d : Int) (c1 c2 : Nat) (V : Int) : -9218868437227405312 ≤ g53 d c1 c2 V ∧ g53 d c1 c2 V ≤ 9218868437227405312 := gpl_le 53 2098 9218868437227405311 9218868437227405312 d c1 c2 (by decide) (by decide) (by decide) (by decide) V
end Go.Proofs.YthdnajcgdngmcaaGreatDoor
namespace Go.Proofs.YthdnajcgdngmcaaGreatDoor
open Go.RowKit
set_option linter.unusedVariables false
theorem gpl_neg (p T G I : Nat) (d : Int) (c1 c2 : Nat) (V : Int) : gpl p T G I (-d) c1 c2 (-V) = -(gpl p T G I d c1 c2 V) := by
  unfold gpl
  have e1 : dirN true (-d) = dirN false d := by unfold dirN; simp
  have e2 : dirN false (-d) = dirN true d := by unfold dirN; simp
  rw [e1, e2, Int.natAbs_neg]
  by_cases z : V = 0
  · rw [if_pos (show -V = 0 by omega), if_pos z]; rfl
  · rw [if_neg (show ¬ -V = 0 by omega), if_neg z]
    by_cases n : V < 0
    · rw [if_pos n, if_neg (show ¬ -V < 0 by omega)]; omega
    · rw [if_neg n, if_pos (show -V < 0 by omega)]
theorem g53_neg (d : Int) (c1 c2 : Nat) (V : Int) : g53 (-d) c1 c2 (-V) = -(g53 d c1 c2 V) := gpl_neg _ _ _ _ d c1 c2 V
end Go.Proofs.YthdnajcgdngmcaaGreatDoor
namespace Go.Proofs.YthdnajcgdngmcaaGreatDoor
open Go.RowKit
/-- the rung of S of the places 2^E: S of no more than p bits, or 2^p -/
theorem rgU_place (p S E : Nat) (hp : 0 < p) (hS : S ≤ 2 ^ p) (hE : E = 0 ∨ 2 ^ (p - 1) ≤ S) : rgU p (S * 2 ^ E) = E * 2 ^ (p - 1) + S := by
  have ep : (2 : Nat) ^ p = 2 * 2 ^ (p - 1) := by rw [show p = p - 1 + 1 from by omega, Nat.pow_succ, Nat.add_sub_cancel]; omega
  have pp := Nat.two_pow_pos (p - 1)
  have full : ∀ X x : Nat, 2 ^ (p - 1) ≤ X → X < 2 ^ p → rgU p (X * 2 ^ x) = x * 2 ^ (p - 1) + X := by
    intro X x h1 h2
    have b1 : blen X ≤ p := (blen_le_iff X p).2 h2
    have b2 : ¬ blen X ≤ p - 1 := fun h => by have := (blen_le_iff X (p - 1)).1 h; omega
    have b3 : p - blen X = 0 := by omega
    rw [rgU_mul p X x 0 (by omega) (by rw [b3, Nat.zero_min]) b1, Nat.sub_zero, Nat.pow_zero, Nat.mul_one]
  by_cases c : S = 2 ^ p
  · have e : S * 2 ^ E = 2 ^ (p - 1) * 2 ^ (E + 1) := by
      rw [c, ep, Nat.pow_succ]; ac_rfl
    rw [e, full _ _ (Nat.le_refl _) (by omega), c, ep, Nat.add_mul, Nat.one_mul, Nat.two_mul]
    omega
  · have hlt : S < 2 ^ p := by omega
    rcases hE with h | h
    · rw [h, Nat.pow_zero, Nat.mul_one, Nat.zero_mul, Nat.zero_add]
      by_cases z : S = 0
      · rw [z, rgU_zero]
      · have h1 := rgU_mul p S 0 0 z (by omega) ((blen_le_iff S p).2 hlt)
        rw [Nat.pow_zero, Nat.mul_one, Nat.sub_zero, Nat.zero_mul, Nat.zero_add] at h1
        exact h1
    · exact full S E h hlt
theorem tightU (p T G I : Nat) (v : Nat → Nat) (hv : ∀ E S : Nat, S ≤ 2 ^ p → (E = 0 ∨ 2 ^ (p - 1) ≤ S) → v (E * 2 ^ (p - 1) + S) = S * 2 ^ E) (A B : Nat) (hB : 0 < B) (hp : 2 ≤ p) (hT : p ≤ T) (hG : (T - p + 2) * 2 ^ (p - 1) = G + 1) (hI : G + 1 = I) :
    TU I v A B (finU p T G I (-1) (rU (-1) p A B)) (finU p T G I 1 (rU 1 p A B)) (finU p T G I 0 (rU 0 p A B)) := by
  obtain ⟨s1, s2⟩ := rS_lt p A B hB (by omega)
  have ep : (2 : Nat) ^ p = 2 * 2 ^ (p - 1) := by rw [show p = p - 1 + 1 from by omega, Nat.pow_succ, Nat.add_sub_cancel]; omega
  have pp := Nat.two_pow_pos (p - 1)
  have hw : 0 < B * 2 ^ rE p A B := Nat.mul_pos hB (Nat.two_pow_pos _)
  have d1 := Nat.div_add_mod A (B * 2 ^ rE p A B)
  have dr := Nat.mod_lt A hw
  have q1 : A / (B * 2 ^ rE p A B) = rS p A B := rfl
  have q3 : A % (B * 2 ^ rE p A B) = rR p A B := rfl
  rw [q1, q3] at d1
  rw [q3] at dr
  have hGp : (T - p) * 2 ^ (p - 1) + (2 ^ p - 1) = G := by
    rw [Nat.add_mul] at hG; omega
  unfold rU
  generalize rS p A B = S at *
  generalize rR p A B = R at *
  generalize rE p A B = E at *
  clear q1 q3
  by_cases ct : E + p ≤ T
  · have fin : ∀ (d : Int) (u : Bool), (d = -1 → u = false) → finU p T G I d ((S + u.toNat) * 2 ^ E) = E * 2 ^ (p - 1) + (S + u.toNat) := by
      intro d u hd
      have hS1 : S + u.toNat ≤ 2 ^ p := by cases u <;> simp <;> omega
      have hE1 : E = 0 ∨ 2 ^ (p - 1) ≤ S + u.toNat := by rcases s2 with h | h; exact Or.inl h; exact Or.inr (by omega)
      unfold finU
      by_cases cb : blen ((S + u.toNat) * 2 ^ E) ≤ T
      · rw [if_pos cb]
        exact rgU_place p _ E (by omega) hS1 hE1
      · rw [if_neg cb]
        have hge : 2 ^ T ≤ (S + u.toNat) * 2 ^ E := by
          rcases Nat.lt_or_ge ((S + u.toNat) * 2 ^ E) (2 ^ T) with h | h
          · exact absurd ((blen_le_iff _ T).2 h) cb
          · exact h
        have hle : (2 : Nat) ^ p * 2 ^ E ≤ 2 ^ T := by rw [← Nat.pow_add]; exact Nat.pow_le_pow_right (by decide) (by omega)
        have hPE := Nat.two_pow_pos E
        have hSe : S + u.toNat = 2 ^ p := by
          rcases Nat.lt_or_ge (S + u.toNat) (2 ^ p) with h | h
          · have := Nat.mul_lt_mul_of_pos_right h hPE
            omega
          · omega
        have hu : u = true := by cases u <;> simp at hSe ⊢; omega
        have hdn : d ≠ -1 := fun h => by rw [hd h] at hu; cases hu
        rw [if_neg hdn, hSe]
        have hET : E = T - p := by
          rcases Nat.lt_or_ge (E + p) T with h | h
          · have : (2 : Nat) ^ (p + E) < 2 ^ T := Nat.pow_lt_pow_right (by decide) (by omega)
            rw [hSe, ← Nat.pow_add] at hge
            omega
          · omega
        rw [hET]; omega
    have up1 : upw (-1) S R (B * 2 ^ E) = false := rfl
    have up2 : upw 1 S R (B * 2 ^ E) = decide (0 < R) := rfl
    have up3 : upw 0 S R (B * 2 ^ E) = (decide (B * 2 ^ E < 2 * R) || (decide (B * 2 ^ E = 2 * R) && decide (S % 2 = 1))) := rfl
    rw [fin (-1) _ (fun _ => up1), fin 1 _ (fun h => absurd h (by decide)), fin 0 _ (fun h => absurd h (by decide)), up1, up2, up3]
    have hlo : E * 2 ^ (p - 1) + S < I := by
      have : E * 2 ^ (p - 1) ≤ (T - p) * 2 ^ (p - 1) := Nat.mul_le_mul_right _ (by omega)
      omega
    have v1 := hv E S (by omega) s2
    have v2 := hv E (S + 1) (by omega) (by rcases s2 with h | h; exact Or.inl h; exact Or.inr (by omega))
    have w1 : v (E * 2 ^ (p - 1) + S) * B = B * 2 ^ E * S := by rw [v1]; ac_rfl
    have w2 : v (E * 2 ^ (p - 1) + (S + 1)) * B = B * 2 ^ E * S + B * 2 ^ E := by rw [v2, ← Nat.mul_succ]; ac_rfl
    have ev : E * 2 ^ (p - 1) % 2 = 0 := by
      rw [show p - 1 = p - 2 + 1 from by omega, Nat.pow_succ, ← Nat.mul_assoc]; exact Nat.mul_mod_left _ _
    generalize E * 2 ^ (p - 1) = Z at *
    generalize B * 2 ^ E = W at *
    generalize W * S = WS at *
    have t0 : false.toNat = 0 := rfl
    have t1 : true.toNat = 1 := rfl
    by_cases cR : R = 0
    · left
      rw [decide_eq_false (show ¬ 0 < R by omega), decide_eq_false (show ¬ W < 2 * R by omega), decide_eq_false (show ¬ W = 2 * R by omega), Bool.false_and, Bool.or_false, t0, Nat.add_zero]
      exact ⟨rfl, rfl, hlo, by omega⟩
    · right
      rw [decide_eq_true (show 0 < R by omega), t0, t1, show S + 0 = S from rfl]
      refine ⟨by omega, hlo, by omega, fun _ => by omega, ?_⟩
      rw [Nat.add_mul, w1, w2]
      by_cases c1 : W < 2 * R
      · rw [decide_eq_true c1, Bool.true_or, t1]
        exact Or.inr (Or.inl ⟨by omega, rfl⟩)
      · rw [decide_eq_false c1, Bool.false_or]
        by_cases c2 : W = 2 * R
        · rw [decide_eq_true c2, Bool.true_and]
          refine Or.inr (Or.inr ⟨by omega, ?_⟩)
          by_cases c3 : S % 2 = 1
          · rw [decide_eq_true c3, t1]; exact ⟨Or.inr rfl, by omega⟩
          · rw [decide_eq_false c3, t0]; exact ⟨Or.inl rfl, by omega⟩
        · rw [decide_eq_false c2, Bool.false_and, t0]
          exact Or.inl ⟨by omega, rfl⟩
  · have hS0 : 2 ^ (p - 1) ≤ S := s2.resolve_left (by omega)
    have big : (2 : Nat) ^ T ≤ S * 2 ^ E := by
      have h1 : (2 : Nat) ^ (p - 1) * 2 ^ E ≤ S * 2 ^ E := Nat.mul_le_mul_right _ hS0
      rw [← Nat.pow_add] at h1
      exact Nat.le_trans (Nat.pow_le_pow_right (by decide) (by omega)) h1
    have nb : ∀ u : Bool, ¬ blen ((S + u.toNat) * 2 ^ E) ≤ T := fun u h => by
      have h2 := (blen_le_iff _ T).1 h
      have h3 : S * 2 ^ E ≤ (S + u.toNat) * 2 ^ E := Nat.mul_le_mul_right _ (by omega)
      omega
    have f1 : ∀ u : Bool, finU p T G I (-1) ((S + u.toNat) * 2 ^ E) = G := fun u => by unfold finU; rw [if_neg (nb u), if_pos rfl]
    have f2 : ∀ u : Bool, finU p T G I 1 ((S + u.toNat) * 2 ^ E) = I := fun u => by unfold finU; rw [if_neg (nb u), if_neg (by decide)]
    have f3 : ∀ u : Bool, finU p T G I 0 ((S + u.toNat) * 2 ^ E) = I := fun u => by unfold finU; rw [if_neg (nb u), if_neg (by decide)]
    rw [f1, f2, f3]
    right
    have v1 := hv (T - p) (2 ^ p - 1) (by omega) (Or.inr (by omega))
    have v2 := hv (T - p) (2 ^ p) (Nat.le_refl _) (Or.inr (by omega))
    rw [hGp] at v1
    rw [show (T - p) * 2 ^ (p - 1) + 2 ^ p = I from by omega, ← Nat.pow_add, show p + (T - p) = T from by omega] at v2
    have vl : v G < 2 ^ T := by
      rw [v1, show (2 : Nat) ^ T = 2 ^ p * 2 ^ (T - p) from by rw [← Nat.pow_add]; exact congrArg _ (by omega)]
      exact Nat.mul_lt_mul_of_pos_right (by omega) (Nat.two_pow_pos _)
    have hA : B * 2 ^ T ≤ A := by
      have h1 : B * 2 ^ T ≤ B * (S * 2 ^ E) := Nat.mul_le_mul_left _ big
      have h2 : B * (S * 2 ^ E) = B * 2 ^ E * S := by ac_rfl
      omega
    have h4 : v G * B < 2 ^ T * B := Nat.mul_lt_mul_of_pos_right vl hB
    rw [Nat.mul_comm B] at hA
    refine ⟨by omega, by omega, by omega, fun h => by omega, Or.inr (Or.inl ⟨?_, rfl⟩)⟩
    rw [Nat.add_mul, v2]
    omega
/-- Down, Up and Near of a signed ratio lie about it as closely as they can -/
theorem gpl_tight (p T G I : Nat) (v : Nat → Nat) (hv : ∀ E S : Nat, S ≤ 2 ^ p → (E = 0 ∨ 2 ^ (p - 1) ≤ S) → v (E * 2 ^ (p - 1) + S) = S * 2 ^ E) (c1 c2 : Nat) (hB : 0 < c2) (hp : 2 ≤ p) (hT : p ≤ T) (hG : (T - p + 2) * 2 ^ (p - 1) = G + 1) (hI : G + 1 = I) (V : Int) :
    TS I v (V * c1) (c2 : Int) (gpl p T G I (-1) c1 c2 V) (gpl p T G I 1 c1 c2 V) (gpl p T G I 0 c1 c2 V) := by
  have k := tightU p T G I v hv (V.natAbs * c1) c2 hB hp hT hG hI
  unfold gpl
  by_cases z : V = 0
  · rw [if_pos z, if_pos z, if_pos z]
    intro vs h1 h2
    have v0 := hv 0 0 (Nat.zero_le _) (Or.inl rfl)
    rw [Nat.zero_mul, Nat.zero_mul] at v0
    left
    refine ⟨rfl, rfl, by omega, by omega, ?_⟩
    rw [h1 0 (by omega), show (0 : Int).natAbs = 0 + 0 from rfl, v0, z]
    simp
  · rw [if_neg z, if_neg z, if_neg z]
    by_cases n : V < 0
    · rw [if_pos n, if_pos n, if_pos n]
      have e : V * (c1 : Int) = -((V.natAbs * c1 : Nat) : Int) := by
        rw [Int.natCast_mul, show (V.natAbs : Int) = -V from by omega, Int.neg_mul, Int.neg_neg]
      rw [e]
      exact k.neg
    · rw [if_neg n, if_neg n, if_neg n]
      have e : V * (c1 : Int) = ((V.natAbs * c1 : Nat) : Int) := by
        rw [Int.natCast_mul, show (V.natAbs : Int) = V from by omega]
      rw [e]
      exact k.pos
end Go.Proofs.YthdnajcgdngmcaaGreatDoor
namespace Go.Proofs.YthdnajcgdngmcaaGreatDoor
open Go.RowKit
set_option linter.unusedVariables false
theorem g53_tight (c1 c2 : Nat) (hc : 0 < c2) (V : Int) : TS 9218868437227405312 (Fq.vV Ieee.double) (V * c1) (c2 : Int) (g53 (-1) c1 c2 V) (g53 1 c1 c2 V) (g53 0 c1 c2 V) := gpl_tight 53 2098 9218868437227405311 9218868437227405312 (Fq.vV Ieee.double) vV_place c1 c2 hc (by decide) (by decide) (by decide) (by decide) V
theorem g53_lohi (c1 c2 : Nat) (hc : 0 < c2) (V : Int) : g53 (-1) c1 c2 V ≤ g53 1 c1 c2 V ∧ g53 (-1) c1 c2 V < 9218868437227405312 ∧ -9218868437227405312 < g53 1 c1 c2 V := by
  have h := g53_tight c1 c2 hc V vZ vZ_pos vZ_neg
  have b1 := g53_le (-1) c1 c2 V
  have b2 := g53_le 1 c1 c2 V
  rcases h with ⟨h1, _, h3, h4, _⟩ | ⟨h1, h2, h3, _⟩ <;> omega
set_option linter.unusedVariables false
theorem g53_anti (d : Int) (c1 c2 c2' : Nat) (hc : 0 < c2) (h : c2 ≤ c2') (V : Int) (hV : 0 ≤ V) : g53 d c1 c2' V ≤ g53 d c1 c2 V := by
  unfold g53 gpl
  by_cases z : V = 0
  · rw [if_pos z, if_pos z]; omega
  rw [if_neg z, if_neg z, if_neg (show ¬ V < 0 by omega), if_neg (show ¬ V < 0 by omega)]
  have h1 := rU_mono (dirN false d) 53 (V.natAbs * c1) c2' (V.natAbs * c1) c2 (by omega) hc (by decide) (Nat.mul_le_mul_left _ h)
  have h2 := (finG_mono 53 2098 9218868437227405311 9218868437227405312 (dirN false d) _ _ (by decide) (by decide) (by decide) (by decide) h1).1
  omega
theorem g53_nn (d : Int) (c1 c2 : Nat) (V : Int) (hV : 0 ≤ V) : 0 ≤ g53 d c1 c2 V := by
  unfold g53 gpl
  by_cases z : V = 0
  · rw [if_pos z]; omega
  rw [if_neg z, if_neg (show ¬ V < 0 by omega)]; omega
end Go.Proofs.YthdnajcgdngmcaaGreatDoor
namespace Go.Proofs.YthdnajcgdngmcaaGreatDoor
open Go.RowKit
set_option linter.unusedVariables false
theorem g_vd (K : Nat) (hK : K = 1074) (k : Nat) (L H : Int) (h : VdZ L H) : VdZ (gLo K k L H) (gHi K k L H) := by
  unfold gLo gHi
  by_cases c : L = 9218868437227405312
  · rw [if_pos c, if_pos c]; exact Or.inl ⟨rfl, rfl⟩
  · rw [if_neg c, if_neg c]; exact stZ_vd K hK k L H h c
end Go.Proofs.YthdnajcgdngmcaaGreatDoor
namespace Go.Proofs.YthdnajcgdngmcaaGreatDoor
open Go.RowKit
theorem pnZ_bd (K : Nat) (d N z : Int) : BdZ (pnZ K d N z) := by
  have g := g53_le d 1 (2 ^ (K * (N.natAbs - 1))) (vZ z ^ N.natAbs)
  have g2 := g53_le d (2 ^ (K * (N.natAbs + 1))) ((vZ z).natAbs ^ N.natAbs) (if z < 0 ∧ N.natAbs % 2 = 1 then -1 else 1)
  unfold pnZ pU pD BdZ
  by_cases c : N = 0
  · rw [if_pos c]; omega
  rw [if_neg c]
  by_cases c2 : 0 < N
  · rw [if_pos c2]
    by_cases a : z = 9218868437227405312
    · rw [if_pos a]; omega
    rw [if_neg a]
    by_cases b : z = -9218868437227405312
    · rw [if_pos b]; split <;> omega
    rw [if_neg b]; exact g
  · rw [if_neg c2]
    by_cases a : z = 9218868437227405312 ∨ z = -9218868437227405312
    · rw [if_pos a]; omega
    rw [if_neg a]
    by_cases b : z = 0
    · rw [if_pos b]; omega
    rw [if_neg b]; exact g2
end Go.Proofs.YthdnajcgdngmcaaGreatDoor
namespace Go.Proofs.YthdnajcgdngmcaaGreatDoor
open Go.RowKit
set_option linter.unusedVariables false
theorem ipow_mono (a b : Int) (k : Nat) (h0 : 0 ≤ a) (h : a ≤ b) : a ^ k ≤ b ^ k ∧ 0 ≤ a ^ k := by
  induction k with
  | zero => simp
  | succ j ih =>
    rw [Int.pow_succ, Int.pow_succ]
    refine ⟨?_, Int.mul_nonneg ih.2 h0⟩
    exact Int.mul_le_mul ih.1 h h0 (by have := (ih.1); have := ih.2; omega)
theorem ipow_neg (a : Int) (k : Nat) : (-a) ^ k = if k % 2 = 1 then -(a ^ k) else a ^ k := by
  induction k with
  | zero => simp
  | succ j ih =>
    rw [Int.pow_succ, Int.pow_succ, ih]
    by_cases c : j % 2 = 1
    · rw [if_pos c, if_neg (by omega)]; simp [Int.mul_neg, Int.neg_mul]
    · rw [if_neg c, if_pos (by omega)]; simp [Int.mul_neg]
theorem ipow_odd (a b : Int) (k : Nat) (hk : k % 2 = 1) (h : a ≤ b) : a ^ k ≤ b ^ k := by
  rcases Int.lt_or_le a 0 with ca | ca
  · have e := ipow_neg (-a) k
    rw [Int.neg_neg, if_pos hk] at e
    rcases Int.lt_or_le b 0 with cb | cb
    · have e2 := ipow_neg (-b) k
      rw [Int.neg_neg, if_pos hk] at e2
      have := (ipow_mono (-b) (-a) k (by omega) (by omega)).1
      omega
    · have h1 := (ipow_mono (-a) (-a) k (by omega) (by omega)).2
      have h2 := (ipow_mono b b k cb (by omega)).2
      omega
  · exact (ipow_mono a b k ca h).1
theorem pU_mono (K : Nat) (d : Int) (k : Nat) (hk : 0 < k) (x y : Int) (hx : BdZ x) (hy : BdZ y) (ho : k % 2 = 1 ∨ 0 ≤ x) (h : x ≤ y) : pU K d k x ≤ pU K d k y := by
  have gx := g53_le d 1 (2 ^ (K * (k - 1))) (vZ x ^ k)
  have gy := g53_le d 1 (2 ^ (K * (k - 1))) (vZ y ^ k)
  unfold BdZ at hx hy
  unfold pU
  by_cases c1 : y = 9218868437227405312
  · rw [if_pos c1]
    by_cases c2 : x = 9218868437227405312
    · rw [if_pos c2]; omega
    rw [if_neg c2]
    by_cases c3 : x = -9218868437227405312
    · rw [if_pos c3]; split <;> omega
    rw [if_neg c3]; exact gx.2
  rw [if_neg c1, if_neg (show ¬ x = 9218868437227405312 by omega)]
  by_cases c3 : x = -9218868437227405312
  · have hk1 : k % 2 = 1 := by rcases ho with h | h <;> omega
    rw [if_pos c3, if_pos hk1]
    by_cases c4 : y = -9218868437227405312
    · rw [if_pos c4]; omega
    · rw [if_neg c4]; exact gy.1
  rw [if_neg c3, if_neg (show ¬ y = -9218868437227405312 by omega)]
  apply g53_mono _ _ _ (Nat.two_pow_pos _)
  have hv := (vZ_iff x y).2 h
  rcases ho with ho | ho
  · exact ipow_odd _ _ k ho hv
  · have h0 : 0 ≤ vZ x := by have := (vZ_iff 0 x).2 ho; rw [vZ_0] at this; exact this
    exact (ipow_mono _ _ k h0 hv).1
theorem pU_dn (K : Nat) (k : Nat) (z : Int) : pU K (-1) k z ≤ pU K 1 k z := by
  unfold pU
  by_cases c1 : z = 9218868437227405312
  · rw [if_pos c1, if_pos c1]; omega
  rw [if_neg c1, if_neg c1]
  by_cases c2 : z = -9218868437227405312
  · rw [if_pos c2, if_pos c2]; omega
  rw [if_neg c2, if_neg c2]
  exact (g53_lohi _ _ (Nat.two_pow_pos _) _).1
theorem pU_lt (K : Nat) (k : Nat) (z : Int) (h : z ≠ 9218868437227405312 ∧ (k % 2 = 1 ∨ z ≠ -9218868437227405312)) : pU K (-1) k z < 9218868437227405312 := by
  unfold pU
  rw [if_neg h.1]
  by_cases c2 : z = -9218868437227405312
  · rw [if_pos c2]; split <;> omega
  rw [if_neg c2]
  exact (g53_lohi _ _ (Nat.two_pow_pos _) _).2.1
theorem pU_gt (K : Nat) (k : Nat) (z : Int) (h : z ≠ -9218868437227405312) : -9218868437227405312 < pU K 1 k z := by
  unfold pU
  by_cases c1 : z = 9218868437227405312
  · rw [if_pos c1]; omega
  rw [if_neg c1, if_neg h]
  exact (g53_lohi _ _ (Nat.two_pow_pos _) _).2.2
theorem vV_pos7 (z : Int) (h : z ≠ 0) : 0 < (vZ z).natAbs := by
  rcases Int.lt_or_le z 0 with c | c
  · have := vZ_lt7 z 0 c; rw [vZ_0] at this; omega
  · have := vZ_lt7 0 z (by omega); rw [vZ_0] at this; omega
/-- inverses of powers fall -/
theorem pD_anti (K : Nat) (d : Int) (k : Nat) (x y : Int) (hx : 0 ≤ x) (hy : BdZ y) (h : x ≤ y) : pD K d k y ≤ pD K d k x := by
  have gx := g53_le d (2 ^ (K * (k + 1))) ((vZ x).natAbs ^ k) 1
  have gy := g53_le d (2 ^ (K * (k + 1))) ((vZ y).natAbs ^ k) 1
  have nx := g53_nn d (2 ^ (K * (k + 1))) ((vZ x).natAbs ^ k) 1 (by decide)
  unfold BdZ at hy
  unfold pD
  rw [if_neg (show ¬ (x < 0 ∧ k % 2 = 1) by omega), if_neg (show ¬ (y < 0 ∧ k % 2 = 1) by omega)]
  by_cases c1 : y = 9218868437227405312 ∨ y = -9218868437227405312
  · rw [if_pos c1]
    by_cases c2 : x = 9218868437227405312 ∨ x = -9218868437227405312
    · rw [if_pos c2]; omega
    rw [if_neg c2]
    by_cases c3 : x = 0
    · rw [if_pos c3]; omega
    rw [if_neg c3]; exact nx
  rw [if_neg c1, if_neg (show ¬ (x = 9218868437227405312 ∨ x = -9218868437227405312) by omega)]
  by_cases c3 : x = 0
  · rw [if_pos c3]
    by_cases c4 : y = 0
    · rw [if_pos c4]; omega
    rw [if_neg c4]; exact gy.2
  rw [if_neg c3, if_neg (show ¬ y = 0 by omega)]
  have hv := (vZ_iff x y).2 h
  have h0 : 0 ≤ vZ x := by have := (vZ_iff 0 x).2 hx; rw [vZ_0] at this; exact this
  exact g53_anti d _ _ _ (Nat.pow_pos (vV_pos7 x c3)) (Nat.pow_le_pow_left (by omega) k) 1 (by decide)
theorem pD_dn (K : Nat) (k : Nat) (z : Int) : pD K (-1) k z ≤ pD K 1 k z := by
  unfold pD
  by_cases c1 : z = 9218868437227405312 ∨ z = -9218868437227405312
  · rw [if_pos c1, if_pos c1]; omega
  rw [if_neg c1, if_neg c1]
  by_cases c2 : z = 0
  · rw [if_pos c2, if_pos c2]; omega
  rw [if_neg c2, if_neg c2]
  exact (g53_lohi _ _ (Nat.pow_pos (vV_pos7 z c2)) _).1
theorem pD_lt (K : Nat) (k : Nat) (z : Int) (h : z ≠ 0) : pD K (-1) k z < 9218868437227405312 := by
  unfold pD
  by_cases c1 : z = 9218868437227405312 ∨ z = -9218868437227405312
  · rw [if_pos c1]; omega
  rw [if_neg c1, if_neg h]
  exact (g53_lohi _ _ (Nat.pow_pos (vV_pos7 z h)) _).2.1
theorem pD_gt (K : Nat) (k : Nat) (z : Int) : -9218868437227405312 < pD K 1 k z := by
  unfold pD
  by_cases c1 : z = 9218868437227405312 ∨ z = -9218868437227405312
  · rw [if_pos c1]; omega
  rw [if_neg c1]
  by_cases c2 : z = 0
  · rw [if_pos c2]; omega
  rw [if_neg c2]
  exact (g53_lohi _ _ (Nat.pow_pos (vV_pos7 z c2)) _).2.2
theorem pD_nn (K : Nat) (d : Int) (k : Nat) (z : Int) (h : 0 ≤ z) : 0 ≤ pD K d k z := by
  unfold pD
  rw [if_neg (show ¬ (z < 0 ∧ k % 2 = 1) by omega)]
  by_cases c1 : z = 9218868437227405312 ∨ z = -9218868437227405312
  · rw [if_pos c1]; omega
  rw [if_neg c1]
  by_cases c2 : z = 0
  · rw [if_pos c2]; omega
  rw [if_neg c2]; exact g53_nn _ _ _ _ (by decide)
theorem pD_neg (K : Nat) (d : Int) (k : Nat) (hk : k % 2 = 1) (z : Int) (h : z ≠ 0) : pD K (-d) k (-z) = -(pD K d k z) := by
  unfold pD
  by_cases c1 : z = 9218868437227405312 ∨ z = -9218868437227405312
  · rw [if_pos c1, if_pos (by omega)]; omega
  rw [if_neg c1, if_neg (show ¬ (-z = 9218868437227405312 ∨ -z = -9218868437227405312) by omega), if_neg h, if_neg (show ¬ -z = 0 by omega), vZ_neg, Int.natAbs_neg]
  by_cases c2 : z < 0
  · rw [if_neg (show ¬ (-z < 0 ∧ k % 2 = 1) by omega), if_pos ⟨c2, hk⟩]
    have g := g53_neg d (2 ^ (K * (k + 1))) ((vZ z).natAbs ^ k) (-1)
    rw [show -(-1 : Int) = 1 from rfl] at g
    exact g
  · rw [if_pos ⟨by omega, hk⟩, if_neg (show ¬ (z < 0 ∧ k % 2 = 1) by omega)]
    exact g53_neg d (2 ^ (K * (k + 1))) ((vZ z).natAbs ^ k) 1
/-- below 0 they fall too, at odd powers -/
theorem pD_anti2 (K : Nat) (d : Int) (k : Nat) (hk : k % 2 = 1) (x y : Int) (hx : BdZ x) (hy : y < 0) (h : x ≤ y) : pD K d k y ≤ pD K d k x := by
  have a := pD_anti K (-d) k (-y) (-x) (by omega) (by unfold BdZ at *; omega) (by omega)
  have e1 := pD_neg K d k hk x (by omega)
  have e2 := pD_neg K d k hk y (by omega)
  rw [e1, e2] at a
  omega
theorem n_all (K : Nat) (N L H L' H' : Int) (d : VdZ L H) (d' : VdZ L' H') (n : L ≠ 9218868437227405312) (n' : L' ≠ 9218868437227405312) (h1 : L' ≤ L) (h2 : H ≤ H') : VdZ (nLo K N L H) (nHi K N L H) ∧ (nLo K N L H ≠ 9218868437227405312 → nLo K N L' H' ≤ nLo K N L H ∧ nHi K N L H ≤ nHi K N L' H' ∧ nLo K N L' H' ≠ 9218868437227405312) := by
  have E : ∀ d z, pnZ K d N z = if N = 0 then 4607182418800017408 else if 0 < N then pU K d N.natAbs z else pD K d N.natAbs z := fun d z => rfl
  have m1 : 0 ≤ sMl L H ∧ sMl L H ≤ sMh L H ∧ sMl L' H' ≤ sMl L H ∧ sMh L H ≤ sMh L' H' ∧ sMl L H < 9218868437227405312 ∧ sMh L H ≤ 9218868437227405312 ∧ 0 ≤ sMl L' H' ∧ sMh L' H' ≤ 9218868437227405312 ∧ sMl L' H' ≤ sMh L' H' ∧ sMl L' H' < 9218868437227405312 ∧ (sMh L H = 0 ↔ (L = 0 ∧ H = 0)) := by
    unfold VdZ at d d'
    unfold sMl sMh
    by_cases c : L ≤ 0 ∧ 0 ≤ H
    · rw [if_pos c, if_pos (by omega)]; omega
    · rw [if_neg c]
      by_cases c' : L' ≤ 0 ∧ 0 ≤ H'
      · rw [if_pos c']; omega
      · rw [if_neg c']; omega
  have hL : BdZ L ∧ BdZ H ∧ BdZ L' ∧ BdZ H' := ⟨d.lo, d.hi, d'.lo, d'.hi⟩
  have hd : L ≤ H ∧ L' ≤ H' ∧ -9218868437227405312 < H ∧ L < 9218868437227405312 ∧ -9218868437227405312 < H' ∧ L' < 9218868437227405312 := by unfold VdZ at d d'; omega
  unfold nLo nHi
  generalize sMl L H = a at *
  generalize sMh L H = b at *
  generalize sMl L' H' = a' at *
  generalize sMh L' H' = b' at *
  rw [if_neg n, if_neg n, if_neg n', if_neg n']
  by_cases c0 : N < -1024 ∨ 1024 < N
  · rw [if_pos c0, if_pos c0, if_pos c0, if_pos c0]; unfold VdZ; omega
  rw [if_neg c0, if_neg c0, if_neg c0, if_neg c0]
  obtain ⟨k, hk⟩ : ∃ k, k = N.natAbs := ⟨_, rfl⟩
  unfold VdZ BdZ at *
  by_cases c1 : N < 0
  · rw [if_pos c1, if_pos c1, if_pos c1, if_pos c1]
    have E1 : ∀ d z, pnZ K d N z = pD K d k z := fun d z => by rw [E, if_neg (show ¬ N = 0 by omega), if_neg (show ¬ 0 < N by omega), hk]
    simp only [E1]
    by_cases z : L = 0 ∧ H = 0
    · rw [if_pos z, if_pos z]
      exact ⟨Or.inl ⟨rfl, rfl⟩, fun h => absurd rfl h⟩
    rw [if_neg z, if_neg z]
    have z' : ¬ (L' = 0 ∧ H' = 0) := by omega
    rw [if_neg z', if_neg z']
    by_cases c2 : N % 2 = 0
    · rw [if_pos c2, if_pos c2, if_pos c2, if_pos c2]
      have q1 := pD_lt K k b (by omega)
      have q2 := pD_gt K k a
      have q3 := pD_dn K k b
      have q4 := pD_anti K 1 k a b m1.1 (by unfold BdZ; omega) m1.2.1
      have q5 := pD_anti K (-1) k b b' (by omega) (by unfold BdZ; omega) m1.2.2.2.1
      have q6 := pD_anti K 1 k a' a (by omega) (by unfold BdZ; omega) m1.2.2.1
      have q7 := pD_nn K (-1) k b (by omega)
      have q8 := pD_nn K (-1) k b' (by omega)
      have q9 := pnZ_bd K 1 N a
      rw [E1] at q9
      unfold BdZ at q9
      exact ⟨Or.inr ⟨by omega, q1, q2, q9.2, by omega⟩, fun _ => ⟨q5, q6, by omega⟩⟩
    rw [if_neg c2, if_neg c2, if_neg c2, if_neg c2]
    have ko : k % 2 = 1 := by omega
    by_cases s1 : L < 0 ∧ 0 < H
    · rw [if_pos (Or.inl s1), if_pos s1, if_pos (Or.inl (by omega)), if_pos (by omega)]
      exact ⟨Or.inr (by omega), fun _ => by omega⟩
    rw [if_neg s1]
    by_cases s2 : H = 0
    · rw [if_pos (Or.inr s2)]
      have q1 := pD_gt K k L
      have q2 := pnZ_bd K 1 N L
      rw [E1] at q2
      unfold BdZ at q2
      refine ⟨Or.inr ⟨by omega, by omega, q1, q2.2, by omega⟩, fun _ => ?_⟩
      by_cases s3 : L' < 0 ∧ 0 < H'
      · rw [if_pos (Or.inl s3), if_pos s3]; omega
      · rw [if_neg s3, if_pos (show (L' < 0 ∧ 0 < H') ∨ H' = 0 by omega)]
        have q3 := pD_anti2 K 1 k ko L' L (by unfold BdZ; omega) (by omega) h1
        exact ⟨by omega, q3, by omega⟩
    rw [if_neg (show ¬ ((L < 0 ∧ 0 < H) ∨ H = 0) by omega)]
    rcases Int.lt_or_le H 0 with s4 | s4
    · have q1 := pD_lt K k H (by omega)
      have q2 := pD_gt K k L
      have q3 := pD_dn K k H
      have q4 := pD_anti2 K 1 k ko L H (by unfold BdZ; omega) s4 hd.1
      have q5 := pnZ_bd K (-1) N H
      have q6 := pnZ_bd K 1 N L
      rw [E1] at q5 q6
      unfold BdZ at q5 q6
      refine ⟨Or.inr ⟨q5.1, q1, q2, q6.2, by omega⟩, fun _ => ?_⟩
      by_cases s3 : L' < 0 ∧ 0 < H'
      · rw [if_pos (Or.inl s3), if_pos s3]; omega
      · rw [if_neg s3]
        have q7 := pD_anti2 K 1 k ko L' L (by unfold BdZ; omega) (by omega) h1
        by_cases s5 : H' = 0
        · rw [if_pos (show (L' < 0 ∧ 0 < H') ∨ H' = 0 by omega)]; omega
        · rw [if_neg (show ¬ ((L' < 0 ∧ 0 < H') ∨ H' = 0) by omega)]
          have q8 := pD_anti2 K (-1) k ko H H' (by unfold BdZ; omega) (by omega) h2
          have q9 := pD_lt K k H' (by omega)
          omega
    · have hL0 : 0 ≤ L := by omega
      have q1 := pD_lt K k H (by omega)
      have q2 := pD_gt K k L
      have q3 := pD_dn K k H
      have q4 := pD_anti K 1 k L H hL0 (by unfold BdZ; omega) hd.1
      have q5 := pnZ_bd K (-1) N H
      have q6 := pnZ_bd K 1 N L
      rw [E1] at q5 q6
      unfold BdZ at q5 q6
      refine ⟨Or.inr ⟨q5.1, q1, q2, q6.2, by omega⟩, fun _ => ?_⟩
      by_cases s3 : L' < 0 ∧ 0 < H'
      · rw [if_pos (Or.inl s3), if_pos s3]; omega
      · rw [if_neg s3, if_neg (show ¬ ((L' < 0 ∧ 0 < H') ∨ H' = 0) by omega)]
        have q7 := pD_anti K 1 k L' L (by omega) (by unfold BdZ; omega) h1
        have q8 := pD_anti K (-1) k H H' (by omega) (by unfold BdZ; omega) h2
        have q9 := pD_lt K k H' (by omega)
        omega
  · rw [if_neg c1, if_neg c1, if_neg c1, if_neg c1]
    by_cases cz : N = 0
    · have E0 : ∀ d z, pnZ K d N z = 4607182418800017408 := fun d z => by rw [E, if_pos cz]
      simp only [E0, ite_self]; omega
    have E2 : ∀ d z, pnZ K d N z = pU K d k z := fun d z => by rw [E, if_neg cz, if_pos (show 0 < N by omega), hk]
    simp only [E2]
    by_cases c2 : N % 2 = 0
    · rw [if_pos c2, if_pos c2, if_pos c2, if_pos c2]
      have q1 := pU_lt K k a (by omega)
      have q2 := pU_gt K k b (by omega)
      have q3 := pU_dn K k a
      have q4 := pU_mono K 1 k (by omega) a b (by unfold BdZ; omega) (by unfold BdZ; omega) (Or.inr m1.1) m1.2.1
      have q5 := pU_mono K (-1) k (by omega) a' a (by unfold BdZ; omega) (by unfold BdZ; omega) (Or.inr (by omega)) m1.2.2.1
      have q6 := pU_mono K 1 k (by omega) b b' (by unfold BdZ; omega) (by unfold BdZ; omega) (Or.inr (by omega)) m1.2.2.2.1
      have q7 := pnZ_bd K (-1) N a
      have q8 := pnZ_bd K 1 N b
      rw [E2] at q7 q8
      unfold BdZ at q7 q8
      have q9 := pU_lt K k a' (by omega)
      exact ⟨Or.inr ⟨q7.1, q1, q2, q8.2, by omega⟩, fun _ => ⟨q5, q6, by omega⟩⟩
    · rw [if_neg c2, if_neg c2, if_neg c2, if_neg c2]
      have ko : k % 2 = 1 := by omega
      have q1 := pU_lt K k L ⟨by omega, Or.inl ko⟩
      have q2 := pU_gt K k H (by omega)
      have q3 := pU_dn K k L
      have q4 := pU_mono K 1 k (by omega) L H (by unfold BdZ; omega) (by unfold BdZ; omega) (Or.inl ko) hd.1
      have q5 := pU_mono K (-1) k (by omega) L' L (by unfold BdZ; omega) (by unfold BdZ; omega) (Or.inl ko) h1
      have q6 := pU_mono K 1 k (by omega) H H' (by unfold BdZ; omega) (by unfold BdZ; omega) (Or.inl ko) h2
      have q7 := pnZ_bd K (-1) N L
      have q8 := pnZ_bd K 1 N H
      rw [E2] at q7 q8
      unfold BdZ at q7 q8
      have q9 := pU_lt K k L' ⟨by omega, Or.inl ko⟩
      exact ⟨Or.inr ⟨q7.1, q1, q2, q8.2, by omega⟩, fun _ => ⟨q5, q6, by omega⟩⟩
end Go.Proofs.YthdnajcgdngmcaaGreatDoor
namespace Go.Proofs.YthdnajcgdngmcaaGreatDoor
open Go.RowKit
set_option linter.unusedVariables false
theorem vd_minP (L1 H1 L2 H2 : Int) (h1 : VdZ L1 H1) (h2 : VdZ L2 H2) : VdZ (minLo L1 H1 L2 H2) (minHi L1 H1 L2 H2) := by
  unfold minLo minHi VdZ at *
  split <;> omega
theorem vd_maxP (L1 H1 L2 H2 : Int) (h1 : VdZ L1 H1) (h2 : VdZ L2 H2) : VdZ (maxLo L1 H1 L2 H2) (maxHi L1 H1 L2 H2) := by
  unfold maxLo maxHi VdZ at *
  split <;> omega
end Go.Proofs.YthdnajcgdngmcaaGreatDoor
namespace Go.Proofs.YthdnajcgdngmcaaGreatDoor
open Go.RowKit
set_option maxRecDepth 20000 in
set_option maxHeartbeats 1000000 in
theorem in9_ (a b : Nat) (w : World) : Calls Tryz.prog 20 #[.agg #[.int .u64 ((a : Nat) : Int), .int .u64 ((b : Nat) : Int)]] w fun e w' => e = .returned (.agg #[.float .f64 a, .float .f64 b]) ∧ Kp w w' := by
  have h1 := Fq.ff64 a
  have h2 := Fq.ff64 b
  generalize (a : Int) = X at h1 ⊢
  generalize (b : Int) = Y at h2 ⊢
  go_enter Tryz.func20, Tryz.ntmps20
  go_wp2
  go_region_held3 (fun w' => w'.cell? ⟨w.heap.size, 0, none⟩ = some (.int .u64 X) ∧ w'.cell? ⟨w.heap.size, 1, none⟩ = some (.int .u64 Y)) (simp [go_sem]) (fail)
  go_wp2
  exact bodyPost_ret (v := .agg #[.float .f64 a, .float .f64 b]) (by simp [results, Tryz.results20, go_sem]) rfl ⟨rfl, (by repeat (with_reducible (first | assumption | exact Kp.refl _ | apply Kp.drew | apply Kp.alloc | apply Kp.drewN | (refine Kp.setCell ?_ (by first | omega | (simp <;> omega)) _) | (refine Kp.trans ?_ (by assumption)))))⟩
set_option maxRecDepth 20000 in
set_option maxHeartbeats 1000000 in
theorem out9_ (a b : Nat) (w : World) : Calls Tryz.prog 19 #[.agg #[.float .f64 a, .float .f64 b]] w fun e w' => e = .returned (.agg #[.int .u64 ((a : Nat) : Int), .int .u64 ((b : Nat) : Int)]) ∧ Kp w w' := by
  have h1 := Fq.fb64 a
  have h2 := Fq.fb64 b
  generalize (a : Int) = X at h1 ⊢
  generalize (b : Int) = Y at h2 ⊢
  go_enter Tryz.func19, Tryz.ntmps19
  go_wp2
  go_region_held3 (fun w' => w'.cell? ⟨w.heap.size, 0, none⟩ = some (.float .f64 a) ∧ w'.cell? ⟨w.heap.size, 1, none⟩ = some (.float .f64 b)) (simp [go_sem, World.cell?_alloc_past]) (fail)
  go_wp2
  exact bodyPost_ret (v := .agg #[.int .u64 X, .int .u64 Y]) (by simp [results, Tryz.results19, go_sem]) rfl ⟨rfl, (by repeat (with_reducible (first | assumption | exact Kp.refl _ | apply Kp.drew | apply Kp.alloc | apply Kp.drewN | (refine Kp.setCell ?_ (by first | omega | (simp <;> omega)) _) | (refine Kp.trans ?_ (by assumption)))))⟩
end Go.Proofs.YthdnajcgdngmcaaGreatDoor
namespace Go.Proofs.YthdnajcgdngmcaaGreatDoor
open Go.RowKit
def pI (x : Int) : Int := ((pw x : Nat) : Int)
theorem pI_inj (x y : Int) (hx : BdZ x) (hy : BdZ y) : pI x = pI y ↔ x = y := by
  unfold pI
  rw [← pw_inj x y hx hy]
  omega
theorem rabove9_ (x y : Int) (hx : BdZ x) (hy : BdZ y) (w : World) : Calls Tryz.prog 59 #[.int .u64 (pI x), .int .u64 (pI y)] w fun e w' => e = .returned (.bool (decide (y < x))) ∧ w' = w := by
  have h1 := abs_pw x hx
  have h2 := abs_pw y hy
  have g := Fq.above6_ (decide (x < 0)) (decide (y < 0)) x.natAbs y.natAbs (by omega) (by omega) w
  rw [plz_pw, plz_pw, show decide (x.natAbs ≤ 9218868437227405312 ∧ y.natAbs ≤ 9218868437227405312 ∧ y < x) = decide (y < x) from by congr 1; apply propext; exact ⟨fun h => h.2.2, fun h => ⟨h1, h2, h⟩⟩] at g
  exact g
theorem rread9_ (a b : Nat) (L H : Int) (h : Rd a b L H) (w : World) : Calls Tryz.prog 23 #[.agg #[.int .u64 ((a : Nat) : Int), .int .u64 ((b : Nat) : Int)]] w fun e w' => e = .returned (.agg #[.int .u64 (pI L), .int .u64 (pI H)]) ∧ Kp w w' := by
  have e1 := h.2.2.2.1
  have e2 := h.2.2.2.2
  unfold pI
  rw [← e1, ← e2]
  obtain ⟨n, m, hm, rfl⟩ := Fq.exD a h.1
  obtain ⟨n', m', hm', rfl⟩ := Fq.exD b h.2.1
  exact Fq.rread_ n n' m m' hm hm' w
theorem rempty9_ (w : World) : Calls Tryz.prog 31 #[] w fun e w' => e = .returned (.agg #[.int .u64 9218868437227405312, .int .u64 18442240474082181120]) ∧ Kp w w' := by
  refine (Fq.rempty_ w).mono ?_
  rintro e w' ⟨rfl, rfl⟩
  exact ⟨rfl, (Kp.refl w).alloc _⟩
theorem valid9_ (L H : Int) (d : VdZ L H) (w : World) : Calls Tryz.prog 62 #[.agg #[.int .u64 (pI L), .int .u64 (pI H)]] w fun e w' => e = .returned (.bool true) ∧ Kp w w' := by
  have al := abs_pw L d.lo
  have ah := abs_pw H d.hi
  have g := Fq.rvalid_ (decide (L < 0)) (decide (H < 0)) L.natAbs H.natAbs (by omega) (by omega) w
  have hv : Fq.vld (pw L) (pw H) = true := by
    unfold Fq.vld
    rcases d with ⟨rfl, rfl⟩ | d'
    · decide
    · rw [snd_pw L H (by unfold BdZ; omega) (by unfold BdZ; omega), decide_eq_true (show L ≤ H ∧ L ≠ 9218868437227405312 ∧ H ≠ -9218868437227405312 by omega), decide_eq_false (pw_ne L (by unfold BdZ; omega)), decide_eq_false (pw_ne H (by unfold BdZ; omega))]
      simp
  rw [show Fq.vld (Fq.wD (decide (L < 0)) L.natAbs) (Fq.wD (decide (H < 0)) H.natAbs) = true from hv] at g
  exact g
end Go.Proofs.YthdnajcgdngmcaaGreatDoor
namespace Go.Proofs.YthdnajcgdngmcaaGreatDoor
open Go.RowKit
set_option linter.unusedVariables false
set_option maxRecDepth 20000 in
set_option maxHeartbeats 400000 in
theorem stepC0_ (a b X Y : Nat) (w : World) (h : ∀ W : World, Kp w W → Calls Tryz.prog 12 #[.agg #[.float .f64 a, .float .f64 b]] W fun e w' => e = .returned (.agg #[.float .f64 X, .float .f64 Y]) ∧ Kp W w') : Calls Tryz.prog 27 #[.int .i64 0, .agg #[.float .f64 a, .float .f64 b]] w fun e w' => e = .returned (.agg #[.float .f64 X, .float .f64 Y]) ∧ Kp w w' := by
  have kv : Kp w ((w.alloc (.cells #[.float .f64 a, .float .f64 b] 25)).alloc (.cells #[.float .f64 0, .float .f64 0] 25)) := ((Kp.refl w).alloc _).alloc _
  have qy := Fq.H2.two0 w (.float .f64 a) (.float .f64 b) (.float .f64 0) (.float .f64 0) 25 25
  go_enter Tryz.func27, Tryz.ntmps27
  go_wp2_with (first | (go_at_call 12; refine (h _ kv).mono ?_; rintro e w3 ⟨rfl, g3⟩; have k3 : Kp w w3 := Kp.trans kv g3; obtain ⟨z0, z1, z2, z3⟩ := Fq.H2.keep qy g3))
  exact bodyPost_ret (v := .agg #[.float .f64 X, .float .f64 Y]) (by simp [results, Tryz.results27, go_sem, z0, z1]) rfl ⟨rfl, (k3.setCell (by simp) _).setCell (by simp) _⟩
set_option maxRecDepth 20000 in
set_option maxHeartbeats 400000 in
theorem stepC1_ (a b X Y : Nat) (w : World) (h : ∀ W : World, Kp w W → Calls Tryz.prog 13 #[.agg #[.float .f64 a, .float .f64 b]] W fun e w' => e = .returned (.agg #[.float .f64 X, .float .f64 Y]) ∧ Kp W w') : Calls Tryz.prog 27 #[.int .i64 1, .agg #[.float .f64 a, .float .f64 b]] w fun e w' => e = .returned (.agg #[.float .f64 X, .float .f64 Y]) ∧ Kp w w' := by
  have kv : Kp w ((w.alloc (.cells #[.float .f64 a, .float .f64 b] 25)).alloc (.cells #[.float .f64 0, .float .f64 0] 25)) := ((Kp.refl w).alloc _).alloc _
  have qy := Fq.H2.two0 w (.float .f64 a) (.float .f64 b) (.float .f64 0) (.float .f64 0) 25 25
  go_enter Tryz.func27, Tryz.ntmps27
  go_wp2_with (first | (go_at_call 13; refine (h _ kv).mono ?_; rintro e w3 ⟨rfl, g3⟩; have k3 : Kp w w3 := Kp.trans kv g3; obtain ⟨z0, z1, z2, z3⟩ := Fq.H2.keep qy g3))
  exact bodyPost_ret (v := .agg #[.float .f64 X, .float .f64 Y]) (by simp [results, Tryz.results27, go_sem, z0, z1]) rfl ⟨rfl, (k3.setCell (by simp) _).setCell (by simp) _⟩
set_option maxRecDepth 20000 in
set_option maxHeartbeats 400000 in
theorem stepC2_ (a b X Y : Nat) (w : World) (h : ∀ W : World, Kp w W → Calls Tryz.prog 14 #[.agg #[.float .f64 a, .float .f64 b]] W fun e w' => e = .returned (.agg #[.float .f64 X, .float .f64 Y]) ∧ Kp W w') : Calls Tryz.prog 27 #[.int .i64 2, .agg #[.float .f64 a, .float .f64 b]] w fun e w' => e = .returned (.agg #[.float .f64 X, .float .f64 Y]) ∧ Kp w w' := by
  have kv : Kp w ((w.alloc (.cells #[.float .f64 a, .float .f64 b] 25)).alloc (.cells #[.float .f64 0, .float .f64 0] 25)) := ((Kp.refl w).alloc _).alloc _
  have qy := Fq.H2.two0 w (.float .f64 a) (.float .f64 b) (.float .f64 0) (.float .f64 0) 25 25
  go_enter Tryz.func27, Tryz.ntmps27
  go_wp2_with (first | (go_at_call 14; refine (h _ kv).mono ?_; rintro e w3 ⟨rfl, g3⟩; have k3 : Kp w w3 := Kp.trans kv g3; obtain ⟨z0, z1, z2, z3⟩ := Fq.H2.keep qy g3))
  exact bodyPost_ret (v := .agg #[.float .f64 X, .float .f64 Y]) (by simp [results, Tryz.results27, go_sem, z0, z1]) rfl ⟨rfl, (k3.setCell (by simp) _).setCell (by simp) _⟩
set_option maxRecDepth 20000 in
set_option maxHeartbeats 400000 in
theorem stepC3_ (a b X Y : Nat) (w : World) (h : ∀ W : World, Kp w W → Calls Tryz.prog 15 #[.agg #[.float .f64 a, .float .f64 b]] W fun e w' => e = .returned (.agg #[.float .f64 X, .float .f64 Y]) ∧ Kp W w') : Calls Tryz.prog 27 #[.int .i64 3, .agg #[.float .f64 a, .float .f64 b]] w fun e w' => e = .returned (.agg #[.float .f64 X, .float .f64 Y]) ∧ Kp w w' := by
  have kv : Kp w ((w.alloc (.cells #[.float .f64 a, .float .f64 b] 25)).alloc (.cells #[.float .f64 0, .float .f64 0] 25)) := ((Kp.refl w).alloc _).alloc _
  have qy := Fq.H2.two0 w (.float .f64 a) (.float .f64 b) (.float .f64 0) (.float .f64 0) 25 25
  go_enter Tryz.func27, Tryz.ntmps27
  go_wp2_with (first | (go_at_call 15; refine (h _ kv).mono ?_; rintro e w3 ⟨rfl, g3⟩; have k3 : Kp w w3 := Kp.trans kv g3; obtain ⟨z0, z1, z2, z3⟩ := Fq.H2.keep qy g3))
  exact bodyPost_ret (v := .agg #[.float .f64 X, .float .f64 Y]) (by simp [results, Tryz.results27, go_sem, z0, z1]) rfl ⟨rfl, (k3.setCell (by simp) _).setCell (by simp) _⟩
set_option maxRecDepth 20000 in
set_option maxHeartbeats 400000 in
theorem stepC4_ (a b X Y : Nat) (w : World) (h : ∀ W : World, Kp w W → Calls Tryz.prog 18 #[.agg #[.float .f64 a, .float .f64 b]] W fun e w' => e = .returned (.agg #[.float .f64 X, .float .f64 Y]) ∧ Kp W w') : Calls Tryz.prog 27 #[.int .i64 4, .agg #[.float .f64 a, .float .f64 b]] w fun e w' => e = .returned (.agg #[.float .f64 X, .float .f64 Y]) ∧ Kp w w' := by
  have kv : Kp w ((w.alloc (.cells #[.float .f64 a, .float .f64 b] 25)).alloc (.cells #[.float .f64 0, .float .f64 0] 25)) := ((Kp.refl w).alloc _).alloc _
  have qy := Fq.H2.two0 w (.float .f64 a) (.float .f64 b) (.float .f64 0) (.float .f64 0) 25 25
  go_enter Tryz.func27, Tryz.ntmps27
  go_wp2_with (first | (go_at_call 18; refine (h _ kv).mono ?_; rintro e w3 ⟨rfl, g3⟩; have k3 : Kp w w3 := Kp.trans kv g3; obtain ⟨z0, z1, z2, z3⟩ := Fq.H2.keep qy g3))
  exact bodyPost_ret (v := .agg #[.float .f64 X, .float .f64 Y]) (by simp [results, Tryz.results27, go_sem, z0, z1]) rfl ⟨rfl, (k3.setCell (by simp) _).setCell (by simp) _⟩
set_option maxRecDepth 20000 in
set_option maxHeartbeats 400000 in
theorem stepC5_ (a b X Y : Nat) (w : World) (h : ∀ W : World, Kp w W → Calls Tryz.prog 17 #[.agg #[.float .f64 a, .float .f64 b]] W fun e w' => e = .returned (.agg #[.float .f64 X, .float .f64 Y]) ∧ Kp W w') : Calls Tryz.prog 27 #[.int .i64 5, .agg #[.float .f64 a, .float .f64 b]] w fun e w' => e = .returned (.agg #[.float .f64 X, .float .f64 Y]) ∧ Kp w w' := by
  have kv : Kp w ((w.alloc (.cells #[.float .f64 a, .float .f64 b] 25)).alloc (.cells #[.float .f64 0, .float .f64 0] 25)) := ((Kp.refl w).alloc _).alloc _
  have qy := Fq.H2.two0 w (.float .f64 a) (.float .f64 b) (.float .f64 0) (.float .f64 0) 25 25
  go_enter Tryz.func27, Tryz.ntmps27
  go_wp2_with (first | (go_at_call 17; refine (h _ kv).mono ?_; rintro e w3 ⟨rfl, g3⟩; have k3 : Kp w w3 := Kp.trans kv g3; obtain ⟨z0, z1, z2, z3⟩ := Fq.H2.keep qy g3))
  exact bodyPost_ret (v := .agg #[.float .f64 X, .float .f64 Y]) (by simp [results, Tryz.results27, go_sem, z0, z1]) rfl ⟨rfl, (k3.setCell (by simp) _).setCell (by simp) _⟩
theorem step9_ (K : Nat) (hK : K = 1074) (k : Nat) (hk : k < 6) (a b : Nat) (L H : Int) (hx : Rd a b L H) (w : World) : Calls Tryz.prog 27 #[.int .i64 (k : Int), .agg #[.float .f64 a, .float .f64 b]] w fun e w' => e = .returned (.agg #[.float .f64 (pw (gLo K k L H)), .float .f64 (pw (gHi K k L H))]) ∧ Kp w w' := by
  by_cases c0 : k = 0
  · subst c0; exact stepC0_ a b _ _ w (fun W _ => stepB0_ K hK a b L H hx W)
  by_cases c1 : k = 1
  · subst c1; exact stepC1_ a b _ _ w (fun W _ => stepB1_ K hK a b L H hx W)
  by_cases c2 : k = 2
  · subst c2; exact stepC2_ a b _ _ w (fun W _ => stepB2_ K hK a b L H hx W)
  by_cases c3 : k = 3
  · subst c3; exact stepC3_ a b _ _ w (fun W _ => stepB3_ K hK a b L H hx W)
  by_cases c4 : k = 4
  · subst c4; exact stepC4_ a b _ _ w (fun W _ => stepB4_ K hK a b L H hx W)
  by_cases c5 : k = 5
  · subst c5; exact stepC5_ a b _ _ w (fun W _ => stepB5_ K hK a b L H hx W)
  omega
end Go.Proofs.YthdnajcgdngmcaaGreatDoor
namespace Go.Proofs.YthdnajcgdngmcaaGreatDoor
open Go.RowKit
set_option linter.unusedVariables false
set_option maxRecDepth 20000 in
set_option maxHeartbeats 2000000 in
theorem withinE_ (X1 X2 Y1 Y2 : Nat) (P1 P2 Q1 Q2 : Int) (ho1 : ∀ w : World, Calls Tryz.prog 19 #[.agg #[.float .f64 X1, .float .f64 X2]] w fun e w' => e = .returned (.agg #[.int .u64 P1, .int .u64 P2]) ∧ Kp w w') (ho2 : ∀ w : World, Calls Tryz.prog 19 #[.agg #[.float .f64 Y1, .float .f64 Y2]] w fun e w' => e = .returned (.agg #[.int .u64 Q1, .int .u64 Q2]) ∧ Kp w w') (hv1 : ∀ w : World, Calls Tryz.prog 62 #[.agg #[.int .u64 P1, .int .u64 P2]] w fun e w' => e = .returned (.bool true) ∧ Kp w w') (hv2 : ∀ w : World, Calls Tryz.prog 62 #[.agg #[.int .u64 Q1, .int .u64 Q2]] w fun e w' => e = .returned (.bool true) ∧ Kp w w') (t1 : (P1 == 9218868437227405312) = true) (t2 : (P2 == 18442240474082181120) = true) (w : World) : Calls Tryz.prog 24 #[.agg #[.float .f64 X1, .float .f64 X2], .agg #[.float .f64 Y1, .float .f64 Y2]] w fun e w' => e = .returned (.bool true) ∧ Kp w w' := by
  go_enter Tryz.func24, Tryz.ntmps24
  go_upto_region 3 with (first | (go_at_call_of 19 (Value.agg #[.float .f64 Y1, .float .f64 Y2]); refine (ho2 _).mono ?_; rintro e w2 ⟨rfl, g2⟩; have hg := g1; have qp := Fq.H2.keep (Fq.H2.new w1 (.int .u64 P1) (.int .u64 P2) 33) g2) | (go_at_call_of 19 (Value.agg #[.float .f64 X1, .float .f64 X2]); refine (ho1 _).mono ?_; rintro e w1 ⟨rfl, g1⟩; have k1 : Kp w w1 := Kp.trans (((Kp.refl w).alloc _).alloc _) g1; have qy := Fq.H2.keep (Fq.H2.two0 w (.float .f64 X1) (.float .f64 X2) (.float .f64 Y1) (.float .f64 Y2) 25 25) g1; have y0 := fun o => (Fq.H2.keep qy ((Kp.refl w1).alloc o)).1; have y1 := fun o => (Fq.H2.keep qy ((Kp.refl w1).alloc o)).2.1))
  have kW := (Kp.trans (k1.alloc _) g2).alloc (.cells #[.int .u64 Q1, .int .u64 Q2] 33)
  replace qp := Fq.H2.past qp #[.int .u64 Q1, .int .u64 Q2] 33
  have qq := Fq.H2.new w2 (.int .u64 Q1) (.int .u64 Q2) 33
  generalize hW : w2.alloc (.cells #[.int .u64 Q1, .int .u64 Q2] 33) = W at kW qp qq ⊢
  generalize w1.heap.size = bp at qp ⊢
  generalize w2.heap.size = bq at qq ⊢
  clear hW k1 g1 g2 hg qy y0 y1
  obtain ⟨p0, p1, p2, p3⟩ := id qp
  obtain ⟨q0, q1, q2, q3⟩ := id qq
  go_upto_region 5 with (first | (go_at_call_of 62 (Value.agg #[.int .u64 Q1, .int .u64 Q2]); refine (hv2 _).mono ?_; rintro e wx ⟨rfl, gx⟩; replace kW := Kp.trans kW gx; replace qp := Fq.H2.keep qp gx; replace qq := Fq.H2.keep qq gx; clear gx; obtain ⟨p0, p1, p2, p3⟩ := id qp; obtain ⟨q0, q1, q2, q3⟩ := id qq) | (go_at_call_of 62 (Value.agg #[.int .u64 P1, .int .u64 P2]); refine (hv1 _).mono ?_; rintro e wx ⟨rfl, gx⟩; replace kW := Kp.trans kW gx; replace qp := Fq.H2.keep qp gx; replace qq := Fq.H2.keep qq gx; clear gx; obtain ⟨p0, p1, p2, p3⟩ := id qp; obtain ⟨q0, q1, q2, q3⟩ := id qq))
  clear p0 p1 p2 p3 q0 q1 q2 q3
  generalize hW : wx = W at kW qp qq ⊢
  clear hW
  have hTW : True ∧ True := ⟨trivial, trivial⟩
  refine Fq.wp_region_grow (by kernel_rfl) (by kernel_rfl) (fun ι _ G hG hall => ?_)
  have cc0 : ∀ n, (G n).cell? ⟨bp, 0, none⟩ = some (.int .u64 P1) := fun n => Fq.gkeep (hG n) qp.1
  have cc1 : ∀ n, (G n).cell? ⟨bp, 1, none⟩ = some (.int .u64 P2) := fun n => Fq.gkeep (hG n) qp.2.1
  have cc2 : ∀ n, (G n).cell? ⟨bq, 0, none⟩ = some (.int .u64 Q1) := fun n => Fq.gkeep (hG n) qq.1
  have cc3 : ∀ n, (G n).cell? ⟨bq, 1, none⟩ = some (.int .u64 Q2) := fun n => Fq.gkeep (hG n) qq.2.1
  repeat (go_big_quiet_step (first | (go_at_call 31; exact (rempty9_ _).mono (fun e w' h => ⟨h.1, hall _ (Fq.gtrans (hG _) h.2)⟩))))
  refine wpQuiet_nil ?_
  rintro _ ⟨nq, rfl⟩
  have gq : Kp W (G nq) := hG nq
  clear cc0 cc1 cc2 cc3 hall hG
  go_wp2
  exact bodyPost_ret (v := .bool true) (by simp [results, Tryz.results24, go_sem]) rfl ⟨rfl, (Kp.trans kW gq)⟩
set_option maxRecDepth 20000 in
set_option maxHeartbeats 2000000 in
theorem withinN_ (X1 X2 Y1 Y2 : Nat) (P1 P2 Q1 Q2 : Int) (ho1 : ∀ w : World, Calls Tryz.prog 19 #[.agg #[.float .f64 X1, .float .f64 X2]] w fun e w' => e = .returned (.agg #[.int .u64 P1, .int .u64 P2]) ∧ Kp w w') (ho2 : ∀ w : World, Calls Tryz.prog 19 #[.agg #[.float .f64 Y1, .float .f64 Y2]] w fun e w' => e = .returned (.agg #[.int .u64 Q1, .int .u64 Q2]) ∧ Kp w w') (hv1 : ∀ w : World, Calls Tryz.prog 62 #[.agg #[.int .u64 P1, .int .u64 P2]] w fun e w' => e = .returned (.bool true) ∧ Kp w w') (hv2 : ∀ w : World, Calls Tryz.prog 62 #[.agg #[.int .u64 Q1, .int .u64 Q2]] w fun e w' => e = .returned (.bool true) ∧ Kp w w') (t1 : (P1 == 9218868437227405312) = false) (t2 : (Q1 == 9218868437227405312) = false) (ha1 : ∀ w : World, Calls Tryz.prog 59 #[.int .u64 Q1, .int .u64 P1] w fun e w' => e = .returned (.bool false) ∧ Kp w w') (ha2 : ∀ w : World, Calls Tryz.prog 59 #[.int .u64 P2, .int .u64 Q2] w fun e w' => e = .returned (.bool false) ∧ Kp w w') (w : World) : Calls Tryz.prog 24 #[.agg #[.float .f64 X1, .float .f64 X2], .agg #[.float .f64 Y1, .float .f64 Y2]] w fun e w' => e = .returned (.bool true) ∧ Kp w w' := by
  go_enter Tryz.func24, Tryz.ntmps24
  go_upto_region 3 with (first | (go_at_call_of 19 (Value.agg #[.float .f64 Y1, .float .f64 Y2]); refine (ho2 _).mono ?_; rintro e w2 ⟨rfl, g2⟩; have hg := g1; have qp := Fq.H2.keep (Fq.H2.new w1 (.int .u64 P1) (.int .u64 P2) 33) g2) | (go_at_call_of 19 (Value.agg #[.float .f64 X1, .float .f64 X2]); refine (ho1 _).mono ?_; rintro e w1 ⟨rfl, g1⟩; have k1 : Kp w w1 := Kp.trans (((Kp.refl w).alloc _).alloc _) g1; have qy := Fq.H2.keep (Fq.H2.two0 w (.float .f64 X1) (.float .f64 X2) (.float .f64 Y1) (.float .f64 Y2) 25 25) g1; have y0 := fun o => (Fq.H2.keep qy ((Kp.refl w1).alloc o)).1; have y1 := fun o => (Fq.H2.keep qy ((Kp.refl w1).alloc o)).2.1))
  have kW := (Kp.trans (k1.alloc _) g2).alloc (.cells #[.int .u64 Q1, .int .u64 Q2] 33)
  replace qp := Fq.H2.past qp #[.int .u64 Q1, .int .u64 Q2] 33
  have qq := Fq.H2.new w2 (.int .u64 Q1) (.int .u64 Q2) 33
  generalize hW : w2.alloc (.cells #[.int .u64 Q1, .int .u64 Q2] 33) = W at kW qp qq ⊢
  generalize w1.heap.size = bp at qp ⊢
  generalize w2.heap.size = bq at qq ⊢
  clear hW k1 g1 g2 hg qy y0 y1
  obtain ⟨p0, p1, p2, p3⟩ := id qp
  obtain ⟨q0, q1, q2, q3⟩ := id qq
  go_upto_region 5 with (first | (go_at_call_of 62 (Value.agg #[.int .u64 Q1, .int .u64 Q2]); refine (hv2 _).mono ?_; rintro e wx ⟨rfl, gx⟩; replace kW := Kp.trans kW gx; replace qp := Fq.H2.keep qp gx; replace qq := Fq.H2.keep qq gx; clear gx; obtain ⟨p0, p1, p2, p3⟩ := id qp; obtain ⟨q0, q1, q2, q3⟩ := id qq) | (go_at_call_of 62 (Value.agg #[.int .u64 P1, .int .u64 P2]); refine (hv1 _).mono ?_; rintro e wx ⟨rfl, gx⟩; replace kW := Kp.trans kW gx; replace qp := Fq.H2.keep qp gx; replace qq := Fq.H2.keep qq gx; clear gx; obtain ⟨p0, p1, p2, p3⟩ := id qp; obtain ⟨q0, q1, q2, q3⟩ := id qq))
  clear p0 p1 p2 p3 q0 q1 q2 q3
  generalize hW : wx = W at kW qp qq ⊢
  clear hW
  have hTW : True ∧ True := ⟨trivial, trivial⟩
  refine Fq.wp_region_grow (by kernel_rfl) (by kernel_rfl) (fun ι _ G hG hall => ?_)
  have cc0 : ∀ n, (G n).cell? ⟨bp, 0, none⟩ = some (.int .u64 P1) := fun n => Fq.gkeep (hG n) qp.1
  have cc1 : ∀ n, (G n).cell? ⟨bp, 1, none⟩ = some (.int .u64 P2) := fun n => Fq.gkeep (hG n) qp.2.1
  have cc2 : ∀ n, (G n).cell? ⟨bq, 0, none⟩ = some (.int .u64 Q1) := fun n => Fq.gkeep (hG n) qq.1
  have cc3 : ∀ n, (G n).cell? ⟨bq, 1, none⟩ = some (.int .u64 Q2) := fun n => Fq.gkeep (hG n) qq.2.1
  repeat (go_big_quiet_step (first | (go_at_call 31; exact (rempty9_ _).mono (fun e w' h => ⟨h.1, hall _ (Fq.gtrans (hG _) h.2)⟩)) | (go_at_call_of 59 (Value.int .u64 P2); exact (ha2 _).mono (fun e w' h => ⟨h.1, hall _ (Fq.gtrans (hG _) h.2)⟩)) | (go_at_call_of 59 (Value.int .u64 Q1); exact (ha1 _).mono (fun e w' h => ⟨h.1, hall _ (Fq.gtrans (hG _) h.2)⟩))))
  refine wpQuiet_nil ?_
  rintro _ ⟨nq, rfl⟩
  have gq : Kp W (G nq) := hG nq
  clear cc0 cc1 cc2 cc3 hall hG
  go_wp2
  exact bodyPost_ret (v := .bool true) (by simp [results, Tryz.results24, go_sem]) rfl ⟨rfl, (Kp.trans kW gq)⟩
theorem pI_I (x : Int) (hx : BdZ x) : (pI x == 9218868437227405312) = decide (x = 9218868437227405312) := by
  have h := pI_inj x 9218868437227405312 hx (by unfold BdZ; omega)
  have e : pI 9218868437227405312 = 9218868437227405312 := by decide
  rw [e] at h
  by_cases c : x = 9218868437227405312
  · rw [decide_eq_true c]; simp [h.2 c]
  · rw [decide_eq_false c]; simp; exact fun g => c (h.1 g)
theorem pI_MI : pI (-9218868437227405312) = 18442240474082181120 := by decide
theorem within7_ (L1 H1 L2 H2 : Int) (d1 : VdZ L1 H1) (d2 : VdZ L2 H2) (h : L1 = 9218868437227405312 ∨ (L2 ≠ 9218868437227405312 ∧ L2 ≤ L1 ∧ H1 ≤ H2)) (w : World) : Calls Tryz.prog 24 #[.agg #[.float .f64 (pw L1), .float .f64 (pw H1)], .agg #[.float .f64 (pw L2), .float .f64 (pw H2)]] w fun e w' => e = .returned (.bool true) ∧ Kp w w' := by
  have t := pI_I L1 d1.lo
  by_cases c : L1 = 9218868437227405312
  · have eH : H1 = -9218868437227405312 := by unfold VdZ at d1; omega
    rw [decide_eq_true c] at t
    exact withinE_ _ _ _ _ (pI L1) (pI H1) (pI L2) (pI H2) (fun w => out9_ _ _ w) (fun w => out9_ _ _ w) (fun w => valid9_ L1 H1 d1 w) (fun w => valid9_ L2 H2 d2 w) t (by rw [eH, pI_MI]; rfl) w
  · rw [decide_eq_false c] at t
    have hh := h.resolve_left c
    have t2 := pI_I L2 d2.lo
    rw [decide_eq_false hh.1] at t2
    have a1 := fun w => rabove9_ L2 L1 d2.lo d1.lo w
    have a2 := fun w => rabove9_ H1 H2 d1.hi d2.hi w
    rw [decide_eq_false (by omega)] at a1 a2
    exact withinN_ _ _ _ _ (pI L1) (pI H1) (pI L2) (pI H2) (fun w => out9_ _ _ w) (fun w => out9_ _ _ w) (fun w => valid9_ L1 H1 d1 w) (fun w => valid9_ L2 H2 d2 w) t t2 (fun w => (a1 w).mono fun e w' h => ⟨h.1, h.2 ▸ Kp.refl w⟩) (fun w => (a2 w).mono fun e w' h => ⟨h.1, h.2 ▸ Kp.refl w⟩) w
end Go.Proofs.YthdnajcgdngmcaaGreatDoor
namespace Go.Proofs.YthdnajcgdngmcaaGreatDoor
open Go.RowKit
set_option linter.unusedVariables false
set_option maxRecDepth 20000 in
set_option maxHeartbeats 2000000 in
theorem hullxE_ (X1 X2 Y1 Y2 P1 P2 Q1 Q2 : Int) (hr1 : ∀ w : World, Calls Tryz.prog 23 #[.agg #[.int .u64 X1, .int .u64 X2]] w fun e w' => e = .returned (.agg #[.int .u64 P1, .int .u64 P2]) ∧ Kp w w') (hr2 : ∀ w : World, Calls Tryz.prog 23 #[.agg #[.int .u64 Y1, .int .u64 Y2]] w fun e w' => e = .returned (.agg #[.int .u64 Q1, .int .u64 Q2]) ∧ Kp w w') (t1 : (P1 == 9218868437227405312) = true) (t2 : (P2 == 18442240474082181120) = true) (w : World) : Calls Tryz.prog 22 #[.agg #[.int .u64 X1, .int .u64 X2], .agg #[.int .u64 Y1, .int .u64 Y2]] w fun e w' => e = .returned (.agg #[.int .u64 Q1, .int .u64 Q2]) ∧ Kp w w' := by
  go_enter Tryz.func22, Tryz.ntmps22
  go_upto_region 2 with (first | (go_at_call 23; refine (hr1 _).mono ?_; rintro e w1 ⟨rfl, g1⟩; have k1 : Kp w w1 := Kp.trans ((((Kp.refl w).alloc _).alloc _).alloc _) g1; have s1 := H6.keep (H6.new w (.int .u64 X1) (.int .u64 X2) (.int .u64 Y1) (.int .u64 Y2) (.int .u64 0) (.int .u64 0) 33 33 33) g1; obtain ⟨⟨p0, p1, p2, p3⟩, ⟨p4, p5, p6, p7⟩, ⟨p8, p9, pa, pb⟩⟩ := id s1))
  have s2 : H6 ((w1.setCell ⟨w.heap.size, 0, none⟩ (.int .u64 P1)).setCell ⟨w.heap.size, 1, none⟩ (.int .u64 P2)) w.heap.size (.int .u64 P1) (.int .u64 P2) (.int .u64 Y1) (.int .u64 Y2) (.int .u64 0) (.int .u64 0) := ⟨Fq.H2.put s1.1 _ _, Fq.H2.far s1.2.1 (by omega) _ _, Fq.H2.far s1.2.2 (by omega) _ _⟩
  have k2 : Kp w ((w1.setCell ⟨w.heap.size, 0, none⟩ (.int .u64 P1)).setCell ⟨w.heap.size, 1, none⟩ (.int .u64 P2)) := (k1.setCell (Nat.le_refl _) _).setCell (Nat.le_refl _) _
  generalize hW : (w1.setCell ⟨w.heap.size, 0, none⟩ (.int .u64 P1)).setCell ⟨w.heap.size, 1, none⟩ (.int .u64 P2) = W1 at s2 k2 ⊢
  clear hW s1 k1 g1 p0 p1 p2 p3 p4 p5 p6 p7 p8 p9 pa pb
  obtain ⟨⟨p0, p1, p2, p3⟩, ⟨p4, p5, p6, p7⟩, ⟨p8, p9, pa, pb⟩⟩ := id s2
  go_upto_region 3 with (first | (go_at_call 23; refine (hr2 _).mono ?_; rintro e w2 ⟨rfl, g2⟩; have s3 := H6.keep s2 g2; have k3 := Kp.trans k2 g2; clear p0 p1 p2 p3 p4 p5 p6 p7 p8 p9 pa pb; obtain ⟨⟨p0, p1, p2, p3⟩, ⟨p4, p5, p6, p7⟩, ⟨p8, p9, pa, pb⟩⟩ := id s3))
  have s4 : H6 ((w2.setCell ⟨w.heap.size + 1, 0, none⟩ (.int .u64 Q1)).setCell ⟨w.heap.size + 1, 1, none⟩ (.int .u64 Q2)) w.heap.size (.int .u64 P1) (.int .u64 P2) (.int .u64 Q1) (.int .u64 Q2) (.int .u64 0) (.int .u64 0) := ⟨Fq.H2.far s3.1 (by omega) _ _, Fq.H2.put s3.2.1 _ _, Fq.H2.far s3.2.2 (by omega) _ _⟩
  have kW : Kp w ((w2.setCell ⟨w.heap.size + 1, 0, none⟩ (.int .u64 Q1)).setCell ⟨w.heap.size + 1, 1, none⟩ (.int .u64 Q2)) := (k3.setCell (Nat.le_succ _) _).setCell (Nat.le_succ _) _
  generalize hW : (w2.setCell ⟨w.heap.size + 1, 0, none⟩ (.int .u64 Q1)).setCell ⟨w.heap.size + 1, 1, none⟩ (.int .u64 Q2) = W at s4 kW ⊢
  clear hW s2 s3 k2 k3 g2 p0 p1 p2 p3 p4 p5 p6 p7 p8 p9 pa pb
  go_upto_region 3 with fail
  go_cut [11] (fun s11 wx => s11 = .bool true ∧ Kp W wx)
  case first =>
    (
      refine Fq.wp_region_grow (by kernel_rfl) (by kernel_rfl) (fun ι _ G hG hall => ?_)
      have cc0 : ∀ n, (G n).cell? ⟨w.heap.size, 0, none⟩ = some (.int .u64 P1) := fun n => Fq.gkeep (hG n) s4.1.1
      have cc1 : ∀ n, (G n).cell? ⟨w.heap.size, 1, none⟩ = some (.int .u64 P2) := fun n => Fq.gkeep (hG n) s4.1.2.1
      have cc2 : ∀ n, (G n).cell? ⟨w.heap.size + 1, 0, none⟩ = some (.int .u64 Q1) := fun n => Fq.gkeep (hG n) s4.2.1.1
      have cc3 : ∀ n, (G n).cell? ⟨w.heap.size + 1, 1, none⟩ = some (.int .u64 Q2) := fun n => Fq.gkeep (hG n) s4.2.1.2.1
      repeat (go_big_quiet_step (first | (go_at_call 31; exact (rempty9_ _).mono (fun e w' h => ⟨h.1, hall _ (Fq.gtrans (hG _) h.2)⟩))))
      refine wpQuiet_nil ?_
      rintro _ ⟨nq, rfl⟩
      have gq : Kp W (G nq) := hG nq
      clear cc0 cc1 cc2 cc3 hall hG
      go_wp2_with fail
      go_meet
      exact ⟨rfl, gq⟩)
  case rest =>
  obtain ⟨rfl, gw⟩ := hcut
  replace s4 := H6.keep s4 gw
  replace kW := Kp.trans kW gw
  clear gw
  generalize wc = W at s4 kW ⊢
  obtain ⟨⟨p0, p1, p2, p3⟩, ⟨p4, p5, p6, p7⟩, ⟨p8, p9, pa, pb⟩⟩ := id s4
  go_wp2
  exact bodyPost_ret (v := .agg #[.int .u64 Q1, .int .u64 Q2]) (by simp [results, Tryz.results22, go_sem, p8, p9]) rfl ⟨rfl, (kW.setCell (by simp <;> omega) _).setCell (by simp <;> omega) _⟩
set_option maxRecDepth 20000 in
set_option maxHeartbeats 2000000 in
theorem hullyE_ (X1 X2 Y1 Y2 P1 P2 Q1 Q2 : Int) (hr1 : ∀ w : World, Calls Tryz.prog 23 #[.agg #[.int .u64 X1, .int .u64 X2]] w fun e w' => e = .returned (.agg #[.int .u64 P1, .int .u64 P2]) ∧ Kp w w') (hr2 : ∀ w : World, Calls Tryz.prog 23 #[.agg #[.int .u64 Y1, .int .u64 Y2]] w fun e w' => e = .returned (.agg #[.int .u64 Q1, .int .u64 Q2]) ∧ Kp w w') (t1 : (P1 == 9218868437227405312) = false) (t3 : (Q1 == 9218868437227405312) = true) (t4 : (Q2 == 18442240474082181120) = true) (w : World) : Calls Tryz.prog 22 #[.agg #[.int .u64 X1, .int .u64 X2], .agg #[.int .u64 Y1, .int .u64 Y2]] w fun e w' => e = .returned (.agg #[.int .u64 P1, .int .u64 P2]) ∧ Kp w w' := by
  go_enter Tryz.func22, Tryz.ntmps22
  go_upto_region 2 with (first | (go_at_call 23; refine (hr1 _).mono ?_; rintro e w1 ⟨rfl, g1⟩; have k1 : Kp w w1 := Kp.trans ((((Kp.refl w).alloc _).alloc _).alloc _) g1; have s1 := H6.keep (H6.new w (.int .u64 X1) (.int .u64 X2) (.int .u64 Y1) (.int .u64 Y2) (.int .u64 0) (.int .u64 0) 33 33 33) g1; obtain ⟨⟨p0, p1, p2, p3⟩, ⟨p4, p5, p6, p7⟩, ⟨p8, p9, pa, pb⟩⟩ := id s1))
  have s2 : H6 ((w1.setCell ⟨w.heap.size, 0, none⟩ (.int .u64 P1)).setCell ⟨w.heap.size, 1, none⟩ (.int .u64 P2)) w.heap.size (.int .u64 P1) (.int .u64 P2) (.int .u64 Y1) (.int .u64 Y2) (.int .u64 0) (.int .u64 0) := ⟨Fq.H2.put s1.1 _ _, Fq.H2.far s1.2.1 (by omega) _ _, Fq.H2.far s1.2.2 (by omega) _ _⟩
  have k2 : Kp w ((w1.setCell ⟨w.heap.size, 0, none⟩ (.int .u64 P1)).setCell ⟨w.heap.size, 1, none⟩ (.int .u64 P2)) := (k1.setCell (Nat.le_refl _) _).setCell (Nat.le_refl _) _
  generalize hW : (w1.setCell ⟨w.heap.size, 0, none⟩ (.int .u64 P1)).setCell ⟨w.heap.size, 1, none⟩ (.int .u64 P2) = W1 at s2 k2 ⊢
  clear hW s1 k1 g1 p0 p1 p2 p3 p4 p5 p6 p7 p8 p9 pa pb
  obtain ⟨⟨p0, p1, p2, p3⟩, ⟨p4, p5, p6, p7⟩, ⟨p8, p9, pa, pb⟩⟩ := id s2
  go_upto_region 3 with (first | (go_at_call 23; refine (hr2 _).mono ?_; rintro e w2 ⟨rfl, g2⟩; have s3 := H6.keep s2 g2; have k3 := Kp.trans k2 g2; clear p0 p1 p2 p3 p4 p5 p6 p7 p8 p9 pa pb; obtain ⟨⟨p0, p1, p2, p3⟩, ⟨p4, p5, p6, p7⟩, ⟨p8, p9, pa, pb⟩⟩ := id s3))
  have s4 : H6 ((w2.setCell ⟨w.heap.size + 1, 0, none⟩ (.int .u64 Q1)).setCell ⟨w.heap.size + 1, 1, none⟩ (.int .u64 Q2)) w.heap.size (.int .u64 P1) (.int .u64 P2) (.int .u64 Q1) (.int .u64 Q2) (.int .u64 0) (.int .u64 0) := ⟨Fq.H2.far s3.1 (by omega) _ _, Fq.H2.put s3.2.1 _ _, Fq.H2.far s3.2.2 (by omega) _ _⟩
  have kW : Kp w ((w2.setCell ⟨w.heap.size + 1, 0, none⟩ (.int .u64 Q1)).setCell ⟨w.heap.size + 1, 1, none⟩ (.int .u64 Q2)) := (k3.setCell (Nat.le_succ _) _).setCell (Nat.le_succ _) _
  generalize hW : (w2.setCell ⟨w.heap.size + 1, 0, none⟩ (.int .u64 Q1)).setCell ⟨w.heap.size + 1, 1, none⟩ (.int .u64 Q2) = W at s4 kW ⊢
  clear hW s2 s3 k2 k3 g2 p0 p1 p2 p3 p4 p5 p6 p7 p8 p9 pa pb
  go_upto_region 3 with fail
  go_cut [11] (fun s11 wx => s11 = .bool false ∧ Kp W wx)
  case first =>
    (
      refine Fq.wp_region_grow (by kernel_rfl) (by kernel_rfl) (fun ι _ G hG hall => ?_)
      have cc0 : ∀ n, (G n).cell? ⟨w.heap.size, 0, none⟩ = some (.int .u64 P1) := fun n => Fq.gkeep (hG n) s4.1.1
      have cc1 : ∀ n, (G n).cell? ⟨w.heap.size, 1, none⟩ = some (.int .u64 P2) := fun n => Fq.gkeep (hG n) s4.1.2.1
      have cc2 : ∀ n, (G n).cell? ⟨w.heap.size + 1, 0, none⟩ = some (.int .u64 Q1) := fun n => Fq.gkeep (hG n) s4.2.1.1
      have cc3 : ∀ n, (G n).cell? ⟨w.heap.size + 1, 1, none⟩ = some (.int .u64 Q2) := fun n => Fq.gkeep (hG n) s4.2.1.2.1
      repeat (go_big_quiet_step (first | (go_at_call 31; exact (rempty9_ _).mono (fun e w' h => ⟨h.1, hall _ (Fq.gtrans (hG _) h.2)⟩))))
      refine wpQuiet_nil ?_
      rintro _ ⟨nq, rfl⟩
      have gq : Kp W (G nq) := hG nq
      clear cc0 cc1 cc2 cc3 hall hG
      go_wp2_with fail
      go_meet
      exact ⟨rfl, gq⟩)
  case rest =>
  obtain ⟨rfl, gw⟩ := hcut
  replace s4 := H6.keep s4 gw
  replace kW := Kp.trans kW gw
  clear gw
  generalize wc = W at s4 kW ⊢
  go_upto_region 5 with fail
  go_cut [15] (fun s15 wx => s15 = .bool true ∧ Kp W wx)
  case first =>
    (
      refine Fq.wp_region_grow (by kernel_rfl) (by kernel_rfl) (fun ι _ G hG hall => ?_)
      have cc0 : ∀ n, (G n).cell? ⟨w.heap.size, 0, none⟩ = some (.int .u64 P1) := fun n => Fq.gkeep (hG n) s4.1.1
      have cc1 : ∀ n, (G n).cell? ⟨w.heap.size, 1, none⟩ = some (.int .u64 P2) := fun n => Fq.gkeep (hG n) s4.1.2.1
      have cc2 : ∀ n, (G n).cell? ⟨w.heap.size + 1, 0, none⟩ = some (.int .u64 Q1) := fun n => Fq.gkeep (hG n) s4.2.1.1
      have cc3 : ∀ n, (G n).cell? ⟨w.heap.size + 1, 1, none⟩ = some (.int .u64 Q2) := fun n => Fq.gkeep (hG n) s4.2.1.2.1
      repeat (go_big_quiet_step (first | (go_at_call 31; exact (rempty9_ _).mono (fun e w' h => ⟨h.1, hall _ (Fq.gtrans (hG _) h.2)⟩))))
      refine wpQuiet_nil ?_
      rintro _ ⟨nq, rfl⟩
      have gq : Kp W (G nq) := hG nq
      clear cc0 cc1 cc2 cc3 hall hG
      go_wp2_with fail
      go_meet
      exact ⟨rfl, gq⟩)
  case rest =>
  obtain ⟨rfl, gw⟩ := hcut
  replace s4 := H6.keep s4 gw
  replace kW := Kp.trans kW gw
  clear gw
  generalize wc = W at s4 kW ⊢
  obtain ⟨⟨p0, p1, p2, p3⟩, ⟨p4, p5, p6, p7⟩, ⟨p8, p9, pa, pb⟩⟩ := id s4
  go_wp2
  exact bodyPost_ret (v := .agg #[.int .u64 P1, .int .u64 P2]) (by simp [results, Tryz.results22, go_sem, p8, p9]) rfl ⟨rfl, (kW.setCell (by simp <;> omega) _).setCell (by simp <;> omega) _⟩
set_option maxRecDepth 20000 in
set_option maxHeartbeats 2000000 in
theorem hullTT_ (X1 X2 Y1 Y2 P1 P2 Q1 Q2 : Int) (hr1 : ∀ w : World, Calls Tryz.prog 23 #[.agg #[.int .u64 X1, .int .u64 X2]] w fun e w' => e = .returned (.agg #[.int .u64 P1, .int .u64 P2]) ∧ Kp w w') (hr2 : ∀ w : World, Calls Tryz.prog 23 #[.agg #[.int .u64 Y1, .int .u64 Y2]] w fun e w' => e = .returned (.agg #[.int .u64 Q1, .int .u64 Q2]) ∧ Kp w w') (t1 : (P1 == 9218868437227405312) = false) (t3 : (Q1 == 9218868437227405312) = false) (ha1 : ∀ w : World, Calls Tryz.prog 59 #[.int .u64 P1, .int .u64 Q1] w fun e w' => e = .returned (.bool true) ∧ w' = w) (ha2 : ∀ w : World, Calls Tryz.prog 59 #[.int .u64 Q2, .int .u64 P2] w fun e w' => e = .returned (.bool true) ∧ w' = w) (w : World) : Calls Tryz.prog 22 #[.agg #[.int .u64 X1, .int .u64 X2], .agg #[.int .u64 Y1, .int .u64 Y2]] w fun e w' => e = .returned (.agg #[.int .u64 Q1, .int .u64 Q2]) ∧ Kp w w' := by
  go_enter Tryz.func22, Tryz.ntmps22
  go_upto_region 2 with (first | (go_at_call 23; refine (hr1 _).mono ?_; rintro e w1 ⟨rfl, g1⟩; have k1 : Kp w w1 := Kp.trans ((((Kp.refl w).alloc _).alloc _).alloc _) g1; have s1 := H6.keep (H6.new w (.int .u64 X1) (.int .u64 X2) (.int .u64 Y1) (.int .u64 Y2) (.int .u64 0) (.int .u64 0) 33 33 33) g1; obtain ⟨⟨p0, p1, p2, p3⟩, ⟨p4, p5, p6, p7⟩, ⟨p8, p9, pa, pb⟩⟩ := id s1))
  have s2 : H6 ((w1.setCell ⟨w.heap.size, 0, none⟩ (.int .u64 P1)).setCell ⟨w.heap.size, 1, none⟩ (.int .u64 P2)) w.heap.size (.int .u64 P1) (.int .u64 P2) (.int .u64 Y1) (.int .u64 Y2) (.int .u64 0) (.int .u64 0) := ⟨Fq.H2.put s1.1 _ _, Fq.H2.far s1.2.1 (by omega) _ _, Fq.H2.far s1.2.2 (by omega) _ _⟩
  have k2 : Kp w ((w1.setCell ⟨w.heap.size, 0, none⟩ (.int .u64 P1)).setCell ⟨w.heap.size, 1, none⟩ (.int .u64 P2)) := (k1.setCell (Nat.le_refl _) _).setCell (Nat.le_refl _) _
  generalize hW : (w1.setCell ⟨w.heap.size, 0, none⟩ (.int .u64 P1)).setCell ⟨w.heap.size, 1, none⟩ (.int .u64 P2) = W1 at s2 k2 ⊢
  clear hW s1 k1 g1 p0 p1 p2 p3 p4 p5 p6 p7 p8 p9 pa pb
  obtain ⟨⟨p0, p1, p2, p3⟩, ⟨p4, p5, p6, p7⟩, ⟨p8, p9, pa, pb⟩⟩ := id s2
  go_upto_region 3 with (first | (go_at_call 23; refine (hr2 _).mono ?_; rintro e w2 ⟨rfl, g2⟩; have s3 := H6.keep s2 g2; have k3 := Kp.trans k2 g2; clear p0 p1 p2 p3 p4 p5 p6 p7 p8 p9 pa pb; obtain ⟨⟨p0, p1, p2, p3⟩, ⟨p4, p5, p6, p7⟩, ⟨p8, p9, pa, pb⟩⟩ := id s3))
  have s4 : H6 ((w2.setCell ⟨w.heap.size + 1, 0, none⟩ (.int .u64 Q1)).setCell ⟨w.heap.size + 1, 1, none⟩ (.int .u64 Q2)) w.heap.size (.int .u64 P1) (.int .u64 P2) (.int .u64 Q1) (.int .u64 Q2) (.int .u64 0) (.int .u64 0) := ⟨Fq.H2.far s3.1 (by omega) _ _, Fq.H2.put s3.2.1 _ _, Fq.H2.far s3.2.2 (by omega) _ _⟩
  have kW : Kp w ((w2.setCell ⟨w.heap.size + 1, 0, none⟩ (.int .u64 Q1)).setCell ⟨w.heap.size + 1, 1, none⟩ (.int .u64 Q2)) := (k3.setCell (Nat.le_succ _) _).setCell (Nat.le_succ _) _
  generalize hW : (w2.setCell ⟨w.heap.size + 1, 0, none⟩ (.int .u64 Q1)).setCell ⟨w.heap.size + 1, 1, none⟩ (.int .u64 Q2) = W at s4 kW ⊢
  clear hW s2 s3 k2 k3 g2 p0 p1 p2 p3 p4 p5 p6 p7 p8 p9 pa pb
  go_upto_region 3 with fail
  go_cut [11] (fun s11 wx => s11 = .bool false ∧ Kp W wx)
  case first =>
    (
      refine Fq.wp_region_grow (by kernel_rfl) (by kernel_rfl) (fun ι _ G hG hall => ?_)
      have cc0 : ∀ n, (G n).cell? ⟨w.heap.size, 0, none⟩ = some (.int .u64 P1) := fun n => Fq.gkeep (hG n) s4.1.1
      have cc1 : ∀ n, (G n).cell? ⟨w.heap.size, 1, none⟩ = some (.int .u64 P2) := fun n => Fq.gkeep (hG n) s4.1.2.1
      have cc2 : ∀ n, (G n).cell? ⟨w.heap.size + 1, 0, none⟩ = some (.int .u64 Q1) := fun n => Fq.gkeep (hG n) s4.2.1.1
      have cc3 : ∀ n, (G n).cell? ⟨w.heap.size + 1, 1, none⟩ = some (.int .u64 Q2) := fun n => Fq.gkeep (hG n) s4.2.1.2.1
      repeat (go_big_quiet_step (first | (go_at_call 31; exact (rempty9_ _).mono (fun e w' h => ⟨h.1, hall _ (Fq.gtrans (hG _) h.2)⟩))))
      refine wpQuiet_nil ?_
      rintro _ ⟨nq, rfl⟩
      have gq : Kp W (G nq) := hG nq
      clear cc0 cc1 cc2 cc3 hall hG
      go_wp2_with fail
      go_meet
      exact ⟨rfl, gq⟩)
  case rest =>
  obtain ⟨rfl, gw⟩ := hcut
  replace s4 := H6.keep s4 gw
  replace kW := Kp.trans kW gw
  clear gw
  generalize wc = W at s4 kW ⊢
  go_upto_region 5 with fail
  go_cut [15] (fun s15 wx => s15 = .bool false ∧ Kp W wx)
  case first =>
    (
      refine Fq.wp_region_grow (by kernel_rfl) (by kernel_rfl) (fun ι _ G hG hall => ?_)
      have cc0 : ∀ n, (G n).cell? ⟨w.heap.size, 0, none⟩ = some (.int .u64 P1) := fun n => Fq.gkeep (hG n) s4.1.1
      have cc1 : ∀ n, (G n).cell? ⟨w.heap.size, 1, none⟩ = some (.int .u64 P2) := fun n => Fq.gkeep (hG n) s4.1.2.1
      have cc2 : ∀ n, (G n).cell? ⟨w.heap.size + 1, 0, none⟩ = some (.int .u64 Q1) := fun n => Fq.gkeep (hG n) s4.2.1.1
      have cc3 : ∀ n, (G n).cell? ⟨w.heap.size + 1, 1, none⟩ = some (.int .u64 Q2) := fun n => Fq.gkeep (hG n) s4.2.1.2.1
      repeat (go_big_quiet_step (first | (go_at_call 31; exact (rempty9_ _).mono (fun e w' h => ⟨h.1, hall _ (Fq.gtrans (hG _) h.2)⟩))))
      refine wpQuiet_nil ?_
      rintro _ ⟨nq, rfl⟩
      have gq : Kp W (G nq) := hG nq
      clear cc0 cc1 cc2 cc3 hall hG
      go_wp2_with fail
      go_meet
      exact ⟨rfl, gq⟩)
  case rest =>
  obtain ⟨rfl, gw⟩ := hcut
  replace s4 := H6.keep s4 gw
  replace kW := Kp.trans kW gw
  clear gw
  generalize wc = W at s4 kW ⊢
  obtain ⟨⟨p0, p1, p2, p3⟩, ⟨p4, p5, p6, p7⟩, ⟨p8, p9, pa, pb⟩⟩ := id s4
  go_wp2_with (first | (go_at_call_of 59 (Value.int .u64 Q2); refine (ha2 _).mono ?_; rintro e w' ⟨rfl, hw'⟩; obtain rfl := hw'.symm; clear hw') | (go_at_call_of 59 (Value.int .u64 P1); refine (ha1 _).mono ?_; rintro e w' ⟨rfl, hw'⟩; obtain rfl := hw'.symm; clear hw'))
  exact bodyPost_ret (v := .agg #[.int .u64 Q1, .int .u64 Q2]) (by simp [results, Tryz.results22, go_sem, p8, p9]) rfl ⟨rfl, (((kW.setCell (Nat.le_refl _) _).setCell (Nat.le_refl _) _).setCell (by simp <;> omega) _).setCell (by simp <;> omega) _⟩
set_option maxRecDepth 20000 in
set_option maxHeartbeats 2000000 in
theorem hullTF_ (X1 X2 Y1 Y2 P1 P2 Q1 Q2 : Int) (hr1 : ∀ w : World, Calls Tryz.prog 23 #[.agg #[.int .u64 X1, .int .u64 X2]] w fun e w' => e = .returned (.agg #[.int .u64 P1, .int .u64 P2]) ∧ Kp w w') (hr2 : ∀ w : World, Calls Tryz.prog 23 #[.agg #[.int .u64 Y1, .int .u64 Y2]] w fun e w' => e = .returned (.agg #[.int .u64 Q1, .int .u64 Q2]) ∧ Kp w w') (t1 : (P1 == 9218868437227405312) = false) (t3 : (Q1 == 9218868437227405312) = false) (ha1 : ∀ w : World, Calls Tryz.prog 59 #[.int .u64 P1, .int .u64 Q1] w fun e w' => e = .returned (.bool true) ∧ w' = w) (ha2 : ∀ w : World, Calls Tryz.prog 59 #[.int .u64 Q2, .int .u64 P2] w fun e w' => e = .returned (.bool false) ∧ w' = w) (w : World) : Calls Tryz.prog 22 #[.agg #[.int .u64 X1, .int .u64 X2], .agg #[.int .u64 Y1, .int .u64 Y2]] w fun e w' => e = .returned (.agg #[.int .u64 Q1, .int .u64 P2]) ∧ Kp w w' := by
  go_enter Tryz.func22, Tryz.ntmps22
  go_upto_region 2 with (first | (go_at_call 23; refine (hr1 _).mono ?_; rintro e w1 ⟨rfl, g1⟩; have k1 : Kp w w1 := Kp.trans ((((Kp.refl w).alloc _).alloc _).alloc _) g1; have s1 := H6.keep (H6.new w (.int .u64 X1) (.int .u64 X2) (.int .u64 Y1) (.int .u64 Y2) (.int .u64 0) (.int .u64 0) 33 33 33) g1; obtain ⟨⟨p0, p1, p2, p3⟩, ⟨p4, p5, p6, p7⟩, ⟨p8, p9, pa, pb⟩⟩ := id s1))
  have s2 : H6 ((w1.setCell ⟨w.heap.size, 0, none⟩ (.int .u64 P1)).setCell ⟨w.heap.size, 1, none⟩ (.int .u64 P2)) w.heap.size (.int .u64 P1) (.int .u64 P2) (.int .u64 Y1) (.int .u64 Y2) (.int .u64 0) (.int .u64 0) := ⟨Fq.H2.put s1.1 _ _, Fq.H2.far s1.2.1 (by omega) _ _, Fq.H2.far s1.2.2 (by omega) _ _⟩
  have k2 : Kp w ((w1.setCell ⟨w.heap.size, 0, none⟩ (.int .u64 P1)).setCell ⟨w.heap.size, 1, none⟩ (.int .u64 P2)) := (k1.setCell (Nat.le_refl _) _).setCell (Nat.le_refl _) _
  generalize hW : (w1.setCell ⟨w.heap.size, 0, none⟩ (.int .u64 P1)).setCell ⟨w.heap.size, 1, none⟩ (.int .u64 P2) = W1 at s2 k2 ⊢
  clear hW s1 k1 g1 p0 p1 p2 p3 p4 p5 p6 p7 p8 p9 pa pb
  obtain ⟨⟨p0, p1, p2, p3⟩, ⟨p4, p5, p6, p7⟩, ⟨p8, p9, pa, pb⟩⟩ := id s2
  go_upto_region 3 with (first | (go_at_call 23; refine (hr2 _).mono ?_; rintro e w2 ⟨rfl, g2⟩; have s3 := H6.keep s2 g2; have k3 := Kp.trans k2 g2; clear p0 p1 p2 p3 p4 p5 p6 p7 p8 p9 pa pb; obtain ⟨⟨p0, p1, p2, p3⟩, ⟨p4, p5, p6, p7⟩, ⟨p8, p9, pa, pb⟩⟩ := id s3))
  have s4 : H6 ((w2.setCell ⟨w.heap.size + 1, 0, none⟩ (.int .u64 Q1)).setCell ⟨w.heap.size + 1, 1, none⟩ (.int .u64 Q2)) w.heap.size (.int .u64 P1) (.int .u64 P2) (.int .u64 Q1) (.int .u64 Q2) (.int .u64 0) (.int .u64 0) := ⟨Fq.H2.far s3.1 (by omega) _ _, Fq.H2.put s3.2.1 _ _, Fq.H2.far s3.2.2 (by omega) _ _⟩
  have kW : Kp w ((w2.setCell ⟨w.heap.size + 1, 0, none⟩ (.int .u64 Q1)).setCell ⟨w.heap.size + 1, 1, none⟩ (.int .u64 Q2)) := (k3.setCell (Nat.le_succ _) _).setCell (Nat.le_succ _) _
  generalize hW : (w2.setCell ⟨w.heap.size + 1, 0, none⟩ (.int .u64 Q1)).setCell ⟨w.heap.size + 1, 1, none⟩ (.int .u64 Q2) = W at s4 kW ⊢
  clear hW s2 s3 k2 k3 g2 p0 p1 p2 p3 p4 p5 p6 p7 p8 p9 pa pb
  go_upto_region 3 with fail
  go_cut [11] (fun s11 wx => s11 = .bool false ∧ Kp W wx)
  case first =>
    (
      refine Fq.wp_region_grow (by kernel_rfl) (by kernel_rfl) (fun ι _ G hG hall => ?_)
      have cc0 : ∀ n, (G n).cell? ⟨w.heap.size, 0, none⟩ = some (.int .u64 P1) := fun n => Fq.gkeep (hG n) s4.1.1
      have cc1 : ∀ n, (G n).cell? ⟨w.heap.size, 1, none⟩ = some (.int .u64 P2) := fun n => Fq.gkeep (hG n) s4.1.2.1
      have cc2 : ∀ n, (G n).cell? ⟨w.heap.size + 1, 0, none⟩ = some (.int .u64 Q1) := fun n => Fq.gkeep (hG n) s4.2.1.1
      have cc3 : ∀ n, (G n).cell? ⟨w.heap.size + 1, 1, none⟩ = some (.int .u64 Q2) := fun n => Fq.gkeep (hG n) s4.2.1.2.1
      repeat (go_big_quiet_step (first | (go_at_call 31; exact (rempty9_ _).mono (fun e w' h => ⟨h.1, hall _ (Fq.gtrans (hG _) h.2)⟩))))
      refine wpQuiet_nil ?_
      rintro _ ⟨nq, rfl⟩
      have gq : Kp W (G nq) := hG nq
      clear cc0 cc1 cc2 cc3 hall hG
      go_wp2_with fail
      go_meet
      exact ⟨rfl, gq⟩)
  case rest =>
  obtain ⟨rfl, gw⟩ := hcut
  replace s4 := H6.keep s4 gw
  replace kW := Kp.trans kW gw
  clear gw
  generalize wc = W at s4 kW ⊢
  go_upto_region 5 with fail
  go_cut [15] (fun s15 wx => s15 = .bool false ∧ Kp W wx)
  case first =>
    (
      refine Fq.wp_region_grow (by kernel_rfl) (by kernel_rfl) (fun ι _ G hG hall => ?_)
      have cc0 : ∀ n, (G n).cell? ⟨w.heap.size, 0, none⟩ = some (.int .u64 P1) := fun n => Fq.gkeep (hG n) s4.1.1
      have cc1 : ∀ n, (G n).cell? ⟨w.heap.size, 1, none⟩ = some (.int .u64 P2) := fun n => Fq.gkeep (hG n) s4.1.2.1
      have cc2 : ∀ n, (G n).cell? ⟨w.heap.size + 1, 0, none⟩ = some (.int .u64 Q1) := fun n => Fq.gkeep (hG n) s4.2.1.1
      have cc3 : ∀ n, (G n).cell? ⟨w.heap.size + 1, 1, none⟩ = some (.int .u64 Q2) := fun n => Fq.gkeep (hG n) s4.2.1.2.1
      repeat (go_big_quiet_step (first | (go_at_call 31; exact (rempty9_ _).mono (fun e w' h => ⟨h.1, hall _ (Fq.gtrans (hG _) h.2)⟩))))
      refine wpQuiet_nil ?_
      rintro _ ⟨nq, rfl⟩
      have gq : Kp W (G nq) := hG nq
      clear cc0 cc1 cc2 cc3 hall hG
      go_wp2_with fail
      go_meet
      exact ⟨rfl, gq⟩)
  case rest =>
  obtain ⟨rfl, gw⟩ := hcut
  replace s4 := H6.keep s4 gw
  replace kW := Kp.trans kW gw
  clear gw
  generalize wc = W at s4 kW ⊢
  obtain ⟨⟨p0, p1, p2, p3⟩, ⟨p4, p5, p6, p7⟩, ⟨p8, p9, pa, pb⟩⟩ := id s4
  go_wp2_with (first | (go_at_call_of 59 (Value.int .u64 Q2); refine (ha2 _).mono ?_; rintro e w' ⟨rfl, hw'⟩; obtain rfl := hw'.symm; clear hw') | (go_at_call_of 59 (Value.int .u64 P1); refine (ha1 _).mono ?_; rintro e w' ⟨rfl, hw'⟩; obtain rfl := hw'.symm; clear hw'))
  exact bodyPost_ret (v := .agg #[.int .u64 Q1, .int .u64 P2]) (by simp [results, Tryz.results22, go_sem, p8, p9]) rfl ⟨rfl, ((kW.setCell (Nat.le_refl _) _).setCell (by simp <;> omega) _).setCell (by simp <;> omega) _⟩
set_option maxRecDepth 20000 in
set_option maxHeartbeats 2000000 in
theorem hullFT_ (X1 X2 Y1 Y2 P1 P2 Q1 Q2 : Int) (hr1 : ∀ w : World, Calls Tryz.prog 23 #[.agg #[.int .u64 X1, .int .u64 X2]] w fun e w' => e = .returned (.agg #[.int .u64 P1, .int .u64 P2]) ∧ Kp w w') (hr2 : ∀ w : World, Calls Tryz.prog 23 #[.agg #[.int .u64 Y1, .int .u64 Y2]] w fun e w' => e = .returned (.agg #[.int .u64 Q1, .int .u64 Q2]) ∧ Kp w w') (t1 : (P1 == 9218868437227405312) = false) (t3 : (Q1 == 9218868437227405312) = false) (ha1 : ∀ w : World, Calls Tryz.prog 59 #[.int .u64 P1, .int .u64 Q1] w fun e w' => e = .returned (.bool false) ∧ w' = w) (ha2 : ∀ w : World, Calls Tryz.prog 59 #[.int .u64 Q2, .int .u64 P2] w fun e w' => e = .returned (.bool true) ∧ w' = w) (w : World) : Calls Tryz.prog 22 #[.agg #[.int .u64 X1, .int .u64 X2], .agg #[.int .u64 Y1, .int .u64 Y2]] w fun e w' => e = .returned (.agg #[.int .u64 P1, .int .u64 Q2]) ∧ Kp w w' := by
  go_enter Tryz.func22, Tryz.ntmps22
  go_upto_region 2 with (first | (go_at_call 23; refine (hr1 _).mono ?_; rintro e w1 ⟨rfl, g1⟩; have k1 : Kp w w1 := Kp.trans ((((Kp.refl w).alloc _).alloc _).alloc _) g1; have s1 := H6.keep (H6.new w (.int .u64 X1) (.int .u64 X2) (.int .u64 Y1) (.int .u64 Y2) (.int .u64 0) (.int .u64 0) 33 33 33) g1; obtain ⟨⟨p0, p1, p2, p3⟩, ⟨p4, p5, p6, p7⟩, ⟨p8, p9, pa, pb⟩⟩ := id s1))
  have s2 : H6 ((w1.setCell ⟨w.heap.size, 0, none⟩ (.int .u64 P1)).setCell ⟨w.heap.size, 1, none⟩ (.int .u64 P2)) w.heap.size (.int .u64 P1) (.int .u64 P2) (.int .u64 Y1) (.int .u64 Y2) (.int .u64 0) (.int .u64 0) := ⟨Fq.H2.put s1.1 _ _, Fq.H2.far s1.2.1 (by omega) _ _, Fq.H2.far s1.2.2 (by omega) _ _⟩
  have k2 : Kp w ((w1.setCell ⟨w.heap.size, 0, none⟩ (.int .u64 P1)).setCell ⟨w.heap.size, 1, none⟩ (.int .u64 P2)) := (k1.setCell (Nat.le_refl _) _).setCell (Nat.le_refl _) _
  generalize hW : (w1.setCell ⟨w.heap.size, 0, none⟩ (.int .u64 P1)).setCell ⟨w.heap.size, 1, none⟩ (.int .u64 P2) = W1 at s2 k2 ⊢
  clear hW s1 k1 g1 p0 p1 p2 p3 p4 p5 p6 p7 p8 p9 pa pb
  obtain ⟨⟨p0, p1, p2, p3⟩, ⟨p4, p5, p6, p7⟩, ⟨p8, p9, pa, pb⟩⟩ := id s2
  go_upto_region 3 with (first | (go_at_call 23; refine (hr2 _).mono ?_; rintro e w2 ⟨rfl, g2⟩; have s3 := H6.keep s2 g2; have k3 := Kp.trans k2 g2; clear p0 p1 p2 p3 p4 p5 p6 p7 p8 p9 pa pb; obtain ⟨⟨p0, p1, p2, p3⟩, ⟨p4, p5, p6, p7⟩, ⟨p8, p9, pa, pb⟩⟩ := id s3))
  have s4 : H6 ((w2.setCell ⟨w.heap.size + 1, 0, none⟩ (.int .u64 Q1)).setCell ⟨w.heap.size + 1, 1, none⟩ (.int .u64 Q2)) w.heap.size (.int .u64 P1) (.int .u64 P2) (.int .u64 Q1) (.int .u64 Q2) (.int .u64 0) (.int .u64 0) := ⟨Fq.H2.far s3.1 (by omega) _ _, Fq.H2.put s3.2.1 _ _, Fq.H2.far s3.2.2 (by omega) _ _⟩
  have kW : Kp w ((w2.setCell ⟨w.heap.size + 1, 0, none⟩ (.int .u64 Q1)).setCell ⟨w.heap.size + 1, 1, none⟩ (.int .u64 Q2)) := (k3.setCell (Nat.le_succ _) _).setCell (Nat.le_succ _) _
  generalize hW : (w2.setCell ⟨w.heap.size + 1, 0, none⟩ (.int .u64 Q1)).setCell ⟨w.heap.size + 1, 1, none⟩ (.int .u64 Q2) = W at s4 kW ⊢
  clear hW s2 s3 k2 k3 g2 p0 p1 p2 p3 p4 p5 p6 p7 p8 p9 pa pb
  go_upto_region 3 with fail
  go_cut [11] (fun s11 wx => s11 = .bool false ∧ Kp W wx)
  case first =>
    (
      refine Fq.wp_region_grow (by kernel_rfl) (by kernel_rfl) (fun ι _ G hG hall => ?_)
      have cc0 : ∀ n, (G n).cell? ⟨w.heap.size, 0, none⟩ = some (.int .u64 P1) := fun n => Fq.gkeep (hG n) s4.1.1
      have cc1 : ∀ n, (G n).cell? ⟨w.heap.size, 1, none⟩ = some (.int .u64 P2) := fun n => Fq.gkeep (hG n) s4.1.2.1
      have cc2 : ∀ n, (G n).cell? ⟨w.heap.size + 1, 0, none⟩ = some (.int .u64 Q1) := fun n => Fq.gkeep (hG n) s4.2.1.1
      have cc3 : ∀ n, (G n).cell? ⟨w.heap.size + 1, 1, none⟩ = some (.int .u64 Q2) := fun n => Fq.gkeep (hG n) s4.2.1.2.1
      repeat (go_big_quiet_step (first | (go_at_call 31; exact (rempty9_ _).mono (fun e w' h => ⟨h.1, hall _ (Fq.gtrans (hG _) h.2)⟩))))
      refine wpQuiet_nil ?_
      rintro _ ⟨nq, rfl⟩
      have gq : Kp W (G nq) := hG nq
      clear cc0 cc1 cc2 cc3 hall hG
      go_wp2_with fail
      go_meet
      exact ⟨rfl, gq⟩)
  case rest =>
  obtain ⟨rfl, gw⟩ := hcut
  replace s4 := H6.keep s4 gw
  replace kW := Kp.trans kW gw
  clear gw
  generalize wc = W at s4 kW ⊢
  go_upto_region 5 with fail
  go_cut [15] (fun s15 wx => s15 = .bool false ∧ Kp W wx)
  case first =>
    (
      refine Fq.wp_region_grow (by kernel_rfl) (by kernel_rfl) (fun ι _ G hG hall => ?_)
      have cc0 : ∀ n, (G n).cell? ⟨w.heap.size, 0, none⟩ = some (.int .u64 P1) := fun n => Fq.gkeep (hG n) s4.1.1
      have cc1 : ∀ n, (G n).cell? ⟨w.heap.size, 1, none⟩ = some (.int .u64 P2) := fun n => Fq.gkeep (hG n) s4.1.2.1
      have cc2 : ∀ n, (G n).cell? ⟨w.heap.size + 1, 0, none⟩ = some (.int .u64 Q1) := fun n => Fq.gkeep (hG n) s4.2.1.1
      have cc3 : ∀ n, (G n).cell? ⟨w.heap.size + 1, 1, none⟩ = some (.int .u64 Q2) := fun n => Fq.gkeep (hG n) s4.2.1.2.1
      repeat (go_big_quiet_step (first | (go_at_call 31; exact (rempty9_ _).mono (fun e w' h => ⟨h.1, hall _ (Fq.gtrans (hG _) h.2)⟩))))
      refine wpQuiet_nil ?_
      rintro _ ⟨nq, rfl⟩
      have gq : Kp W (G nq) := hG nq
      clear cc0 cc1 cc2 cc3 hall hG
      go_wp2_with fail
      go_meet
      exact ⟨rfl, gq⟩)
  case rest =>
  obtain ⟨rfl, gw⟩ := hcut
  replace s4 := H6.keep s4 gw
  replace kW := Kp.trans kW gw
  clear gw
  generalize wc = W at s4 kW ⊢
  obtain ⟨⟨p0, p1, p2, p3⟩, ⟨p4, p5, p6, p7⟩, ⟨p8, p9, pa, pb⟩⟩ := id s4
  go_wp2_with (first | (go_at_call_of 59 (Value.int .u64 Q2); refine (ha2 _).mono ?_; rintro e w' ⟨rfl, hw'⟩; obtain rfl := hw'.symm; clear hw') | (go_at_call_of 59 (Value.int .u64 P1); refine (ha1 _).mono ?_; rintro e w' ⟨rfl, hw'⟩; obtain rfl := hw'.symm; clear hw'))
  exact bodyPost_ret (v := .agg #[.int .u64 P1, .int .u64 Q2]) (by simp [results, Tryz.results22, go_sem, p8, p9]) rfl ⟨rfl, ((kW.setCell (Nat.le_refl _) _).setCell (by simp <;> omega) _).setCell (by simp <;> omega) _⟩
set_option maxRecDepth 20000 in
set_option maxHeartbeats 2000000 in
theorem hullFF_ (X1 X2 Y1 Y2 P1 P2 Q1 Q2 : Int) (hr1 : ∀ w : World, Calls Tryz.prog 23 #[.agg #[.int .u64 X1, .int .u64 X2]] w fun e w' => e = .returned (.agg #[.int .u64 P1, .int .u64 P2]) ∧ Kp w w') (hr2 : ∀ w : World, Calls Tryz.prog 23 #[.agg #[.int .u64 Y1, .int .u64 Y2]] w fun e w' => e = .returned (.agg #[.int .u64 Q1, .int .u64 Q2]) ∧ Kp w w') (t1 : (P1 == 9218868437227405312) = false) (t3 : (Q1 == 9218868437227405312) = false) (ha1 : ∀ w : World, Calls Tryz.prog 59 #[.int .u64 P1, .int .u64 Q1] w fun e w' => e = .returned (.bool false) ∧ w' = w) (ha2 : ∀ w : World, Calls Tryz.prog 59 #[.int .u64 Q2, .int .u64 P2] w fun e w' => e = .returned (.bool false) ∧ w' = w) (w : World) : Calls Tryz.prog 22 #[.agg #[.int .u64 X1, .int .u64 X2], .agg #[.int .u64 Y1, .int .u64 Y2]] w fun e w' => e = .returned (.agg #[.int .u64 P1, .int .u64 P2]) ∧ Kp w w' := by
  go_enter Tryz.func22, Tryz.ntmps22
  go_upto_region 2 with (first | (go_at_call 23; refine (hr1 _).mono ?_; rintro e w1 ⟨rfl, g1⟩; have k1 : Kp w w1 := Kp.trans ((((Kp.refl w).alloc _).alloc _).alloc _) g1; have s1 := H6.keep (H6.new w (.int .u64 X1) (.int .u64 X2) (.int .u64 Y1) (.int .u64 Y2) (.int .u64 0) (.int .u64 0) 33 33 33) g1; obtain ⟨⟨p0, p1, p2, p3⟩, ⟨p4, p5, p6, p7⟩, ⟨p8, p9, pa, pb⟩⟩ := id s1))
  have s2 : H6 ((w1.setCell ⟨w.heap.size, 0, none⟩ (.int .u64 P1)).setCell ⟨w.heap.size, 1, none⟩ (.int .u64 P2)) w.heap.size (.int .u64 P1) (.int .u64 P2) (.int .u64 Y1) (.int .u64 Y2) (.int .u64 0) (.int .u64 0) := ⟨Fq.H2.put s1.1 _ _, Fq.H2.far s1.2.1 (by omega) _ _, Fq.H2.far s1.2.2 (by omega) _ _⟩
  have k2 : Kp w ((w1.setCell ⟨w.heap.size, 0, none⟩ (.int .u64 P1)).setCell ⟨w.heap.size, 1, none⟩ (.int .u64 P2)) := (k1.setCell (Nat.le_refl _) _).setCell (Nat.le_refl _) _
  generalize hW : (w1.setCell ⟨w.heap.size, 0, none⟩ (.int .u64 P1)).setCell ⟨w.heap.size, 1, none⟩ (.int .u64 P2) = W1 at s2 k2 ⊢
  clear hW s1 k1 g1 p0 p1 p2 p3 p4 p5 p6 p7 p8 p9 pa pb
  obtain ⟨⟨p0, p1, p2, p3⟩, ⟨p4, p5, p6, p7⟩, ⟨p8, p9, pa, pb⟩⟩ := id s2
  go_upto_region 3 with (first | (go_at_call 23; refine (hr2 _).mono ?_; rintro e w2 ⟨rfl, g2⟩; have s3 := H6.keep s2 g2; have k3 := Kp.trans k2 g2; clear p0 p1 p2 p3 p4 p5 p6 p7 p8 p9 pa pb; obtain ⟨⟨p0, p1, p2, p3⟩, ⟨p4, p5, p6, p7⟩, ⟨p8, p9, pa, pb⟩⟩ := id s3))
  have s4 : H6 ((w2.setCell ⟨w.heap.size + 1, 0, none⟩ (.int .u64 Q1)).setCell ⟨w.heap.size + 1, 1, none⟩ (.int .u64 Q2)) w.heap.size (.int .u64 P1) (.int .u64 P2) (.int .u64 Q1) (.int .u64 Q2) (.int .u64 0) (.int .u64 0) := ⟨Fq.H2.far s3.1 (by omega) _ _, Fq.H2.put s3.2.1 _ _, Fq.H2.far s3.2.2 (by omega) _ _⟩
  have kW : Kp w ((w2.setCell ⟨w.heap.size + 1, 0, none⟩ (.int .u64 Q1)).setCell ⟨w.heap.size + 1, 1, none⟩ (.int .u64 Q2)) := (k3.setCell (Nat.le_succ _) _).setCell (Nat.le_succ _) _
  generalize hW : (w2.setCell ⟨w.heap.size + 1, 0, none⟩ (.int .u64 Q1)).setCell ⟨w.heap.size + 1, 1, none⟩ (.int .u64 Q2) = W at s4 kW ⊢
  clear hW s2 s3 k2 k3 g2 p0 p1 p2 p3 p4 p5 p6 p7 p8 p9 pa pb
  go_upto_region 3 with fail
  go_cut [11] (fun s11 wx => s11 = .bool false ∧ Kp W wx)
  case first =>
    (
      refine Fq.wp_region_grow (by kernel_rfl) (by kernel_rfl) (fun ι _ G hG hall => ?_)
      have cc0 : ∀ n, (G n).cell? ⟨w.heap.size, 0, none⟩ = some (.int .u64 P1) := fun n => Fq.gkeep (hG n) s4.1.1
      have cc1 : ∀ n, (G n).cell? ⟨w.heap.size, 1, none⟩ = some (.int .u64 P2) := fun n => Fq.gkeep (hG n) s4.1.2.1
      have cc2 : ∀ n, (G n).cell? ⟨w.heap.size + 1, 0, none⟩ = some (.int .u64 Q1) := fun n => Fq.gkeep (hG n) s4.2.1.1
      have cc3 : ∀ n, (G n).cell? ⟨w.heap.size + 1, 1, none⟩ = some (.int .u64 Q2) := fun n => Fq.gkeep (hG n) s4.2.1.2.1
      repeat (go_big_quiet_step (first | (go_at_call 31; exact (rempty9_ _).mono (fun e w' h => ⟨h.1, hall _ (Fq.gtrans (hG _) h.2)⟩))))
      refine wpQuiet_nil ?_
      rintro _ ⟨nq, rfl⟩
      have gq : Kp W (G nq) := hG nq
      clear cc0 cc1 cc2 cc3 hall hG
      go_wp2_with fail
      go_meet
      exact ⟨rfl, gq⟩)
  case rest =>
  obtain ⟨rfl, gw⟩ := hcut
  replace s4 := H6.keep s4 gw
  replace kW := Kp.trans kW gw
  clear gw
  generalize wc = W at s4 kW ⊢
  go_upto_region 5 with fail
  go_cut [15] (fun s15 wx => s15 = .bool false ∧ Kp W wx)
  case first =>
    (
      refine Fq.wp_region_grow (by kernel_rfl) (by kernel_rfl) (fun ι _ G hG hall => ?_)
      have cc0 : ∀ n, (G n).cell? ⟨w.heap.size, 0, none⟩ = some (.int .u64 P1) := fun n => Fq.gkeep (hG n) s4.1.1
      have cc1 : ∀ n, (G n).cell? ⟨w.heap.size, 1, none⟩ = some (.int .u64 P2) := fun n => Fq.gkeep (hG n) s4.1.2.1
      have cc2 : ∀ n, (G n).cell? ⟨w.heap.size + 1, 0, none⟩ = some (.int .u64 Q1) := fun n => Fq.gkeep (hG n) s4.2.1.1
      have cc3 : ∀ n, (G n).cell? ⟨w.heap.size + 1, 1, none⟩ = some (.int .u64 Q2) := fun n => Fq.gkeep (hG n) s4.2.1.2.1
      repeat (go_big_quiet_step (first | (go_at_call 31; exact (rempty9_ _).mono (fun e w' h => ⟨h.1, hall _ (Fq.gtrans (hG _) h.2)⟩))))
      refine wpQuiet_nil ?_
      rintro _ ⟨nq, rfl⟩
      have gq : Kp W (G nq) := hG nq
      clear cc0 cc1 cc2 cc3 hall hG
      go_wp2_with fail
      go_meet
      exact ⟨rfl, gq⟩)
  case rest =>
  obtain ⟨rfl, gw⟩ := hcut
  replace s4 := H6.keep s4 gw
  replace kW := Kp.trans kW gw
  clear gw
  generalize wc = W at s4 kW ⊢
  obtain ⟨⟨p0, p1, p2, p3⟩, ⟨p4, p5, p6, p7⟩, ⟨p8, p9, pa, pb⟩⟩ := id s4
  go_wp2_with (first | (go_at_call_of 59 (Value.int .u64 Q2); refine (ha2 _).mono ?_; rintro e w' ⟨rfl, hw'⟩; obtain rfl := hw'.symm; clear hw') | (go_at_call_of 59 (Value.int .u64 P1); refine (ha1 _).mono ?_; rintro e w' ⟨rfl, hw'⟩; obtain rfl := hw'.symm; clear hw'))
  exact bodyPost_ret (v := .agg #[.int .u64 P1, .int .u64 P2]) (by simp [results, Tryz.results22, go_sem, p8, p9]) rfl ⟨rfl, (kW.setCell (by simp <;> omega) _).setCell (by simp <;> omega) _⟩
theorem hull7_ (a b c d : Nat) (L1 H1 L2 H2 : Int) (hx : Rd a b L1 H1) (hy : Rd c d L2 H2) (w : World) : Calls Tryz.prog 22 #[.agg #[.int .u64 ((a : Nat) : Int), .int .u64 ((b : Nat) : Int)], .agg #[.int .u64 ((c : Nat) : Int), .int .u64 ((d : Nat) : Int)]] w fun e w' => e = .returned (.agg #[.int .u64 (pI (min L1 L2)), .int .u64 (pI (max H1 H2))]) ∧ Kp w w' := by
  have d1 := hx.vd
  have d2 := hy.vd
  have r1 := fun w => rread9_ a b L1 H1 hx w
  have r2 := fun w => rread9_ c d L2 H2 hy w
  have t1 := pI_I L1 d1.lo
  have t3 := pI_I L2 d2.lo
  by_cases c1 : L1 = 9218868437227405312
  · have eH : H1 = -9218868437227405312 := by unfold VdZ at d1; omega
    rw [decide_eq_true c1] at t1
    rw [show min L1 L2 = L2 from by have := d2.lo; unfold BdZ at this; omega, show max H1 H2 = H2 from by have := d2.hi; unfold BdZ at this; omega]
    exact hullxE_ _ _ _ _ _ _ _ _ r1 r2 t1 (by rw [eH, pI_MI]; rfl) w
  rw [decide_eq_false c1] at t1
  by_cases c2 : L2 = 9218868437227405312
  · have eH : H2 = -9218868437227405312 := by unfold VdZ at d2; omega
    rw [decide_eq_true c2] at t3
    rw [show min L1 L2 = L1 from by have := d1.lo; unfold BdZ at this; omega, show max H1 H2 = H1 from by have := d1.hi; unfold BdZ at this; omega]
    exact hullyE_ _ _ _ _ _ _ _ _ r1 r2 t1 t3 (by rw [eH, pI_MI]; rfl) w
  rw [decide_eq_false c2] at t3
  have a1 := fun w => rabove9_ L1 L2 d1.lo d2.lo w
  have a2 := fun w => rabove9_ H2 H1 d2.hi d1.hi w
  by_cases e1 : L2 < L1
  · rw [decide_eq_true e1] at a1
    rw [show min L1 L2 = L2 from by omega]
    by_cases e2 : H1 < H2
    · rw [decide_eq_true e2] at a2
      rw [show max H1 H2 = H2 from by omega]
      exact hullTT_ _ _ _ _ _ _ _ _ r1 r2 t1 t3 a1 a2 w
    · rw [decide_eq_false e2] at a2
      rw [show max H1 H2 = H1 from by omega]
      exact hullTF_ _ _ _ _ _ _ _ _ r1 r2 t1 t3 a1 a2 w
  · rw [decide_eq_false e1] at a1
    rw [show min L1 L2 = L1 from by omega]
    by_cases e2 : H1 < H2
    · rw [decide_eq_true e2] at a2
      rw [show max H1 H2 = H2 from by omega]
      exact hullFT_ _ _ _ _ _ _ _ _ r1 r2 t1 t3 a1 a2 w
    · rw [decide_eq_false e2] at a2
      rw [show max H1 H2 = H1 from by omega]
      exact hullFF_ _ _ _ _ _ _ _ _ r1 r2 t1 t3 a1 a2 w
end Go.Proofs.YthdnajcgdngmcaaGreatDoor
namespace Go.Proofs.YthdnajcgdngmcaaGreatDoor
open Go.RowKit
set_option linter.unusedVariables false
set_option maxRecDepth 20000 in
set_option maxHeartbeats 8000000 in
theorem pgrowsA_ (X1 X2 Y1 Y2 Z1 Z2 K1 K2 J1 J2 N : Int) (A1 A2 B1 B2 C1 C2 P1 P2 Q1 Q2 D1 D2 E1 E2 M1 M2 V1 V2 R1 R2 T1 T2 : Nat) (PP : Nat → Nat → Int → Nat → Nat → Prop) (PI : Nat → Nat → Nat → Nat → Nat → Nat → Nat → Prop) (PU : Nat → Nat → Nat → Nat → Nat → Prop) (PX : Nat → Nat → Nat → Nat → Prop) (hP : ∀ x1 x2 N z1 z2, PP x1 x2 N z1 z2 → ∀ w : World, TU7 w → Calls Tryz.prog 11 #[.agg #[.float .f64 x1, .float .f64 x2], .int .i64 N] w fun e w' => e = .returned (.agg #[.float .f64 z1, .float .f64 z2]) ∧ Kp w w') (hI : ∀ f x1 x2 y1 y2 z1 z2, PI f x1 x2 y1 y2 z1 z2 → ∀ w : World, TU7 w → Calls Tryz.prog f #[.agg #[.float .f64 x1, .float .f64 x2], .agg #[.float .f64 y1, .float .f64 y2]] w fun e w' => e = .returned (.agg #[.float .f64 z1, .float .f64 z2]) ∧ Kp w w') (hU : ∀ f x1 x2 z1 z2, PU f x1 x2 z1 z2 → ∀ w : World, TU7 w → Calls Tryz.prog f #[.agg #[.float .f64 x1, .float .f64 x2]] w fun e w' => e = .returned (.agg #[.float .f64 z1, .float .f64 z2]) ∧ Kp w w') (hX : ∀ x1 x2 y1 y2, PX x1 x2 y1 y2 → ∀ w : World, Calls Tryz.prog 24 #[.agg #[.float .f64 x1, .float .f64 x2], .agg #[.float .f64 y1, .float .f64 y2]] w fun e w' => e = .returned (.bool true) ∧ Kp w w') (hh : ∀ w : World, Calls Tryz.prog 22 #[.agg #[.int .u64 X1, .int .u64 X2], .agg #[.int .u64 Y1, .int .u64 Y2]] w fun e w' => e = .returned (.agg #[.int .u64 K1, .int .u64 K2]) ∧ Kp w w') (hi1 : ∀ w : World, Calls Tryz.prog 20 #[.agg #[.int .u64 K1, .int .u64 K2]] w fun e w' => e = .returned (.agg #[.float .f64 B1, .float .f64 B2]) ∧ Kp w w') (hr : ∀ w : World, Calls Tryz.prog 23 #[.agg #[.int .u64 X1, .int .u64 X2]] w fun e w' => e = .returned (.agg #[.int .u64 J1, .int .u64 J2]) ∧ Kp w w') (hi2 : ∀ w : World, Calls Tryz.prog 20 #[.agg #[.int .u64 J1, .int .u64 J2]] w fun e w' => e = .returned (.agg #[.float .f64 A1, .float .f64 A2]) ∧ Kp w w') (hi3 : ∀ w : World, Calls Tryz.prog 20 #[.agg #[.int .u64 Z1, .int .u64 Z2]] w fun e w' => e = .returned (.agg #[.float .f64 C1, .float .f64 C2]) ∧ Kp w w') (fp0 : PP A1 A2 N P1 P2) (fp1 : PP B1 B2 N Q1 Q2) (fu0 : PU 25 A1 A2 D1 D2) (fu1 : PU 25 B1 B2 E1 E2) (fi0 : PI 16 A1 A2 C1 C2 M1 M2) (fi1 : PI 16 B1 B2 C1 C2 V1 V2) (fi2 : PI 26 C1 C2 A1 A2 R1 R2) (fi3 : PI 26 C1 C2 B1 B2 T1 T2) (fx0 : PX P1 P2 Q1 Q2) (fx1 : PX D1 D2 E1 E2) (fx2 : PX M1 M2 V1 V2) (fx3 : PX R1 R2 T1 T2) (SL SH BL BH : Nat → Nat) (hsA : ∀ k : Nat, k < 6 → ∀ w : World, Calls Tryz.prog 27 #[.int .i64 (k : Int), .agg #[.float .f64 A1, .float .f64 A2]] w fun e w' => e = .returned (.agg #[.float .f64 (SL k), .float .f64 (SH k)]) ∧ Kp w w') (hsB : ∀ k : Nat, k < 6 → ∀ w : World, Calls Tryz.prog 27 #[.int .i64 (k : Int), .agg #[.float .f64 B1, .float .f64 B2]] w fun e w' => e = .returned (.agg #[.float .f64 (BL k), .float .f64 (BH k)]) ∧ Kp w w') (hsX : ∀ k : Nat, k < 6 → PX (SL k) (SH k) (BL k) (BH k)) (hlv : ∀ w : World, TU7 w → Calls Tryz.prog 10 #[] w fun e w' => e = .returned (.bool true) ∧ Kp w w') (w : World) (hT : TU7 w) : Calls Tryz.prog 5 #[.agg #[.int .u64 X1, .int .u64 X2], .agg #[.int .u64 Y1, .int .u64 Y2], .agg #[.int .u64 Z1, .int .u64 Z2], .int .i64 N] w fun e w' => e = .returned (.bool true) ∧ Kp w w' := by
  have kW : Kp w ((((w.alloc (.cells #[.int .u64 X1, .int .u64 X2] 33)).alloc (.cells #[.int .u64 Y1, .int .u64 Y2] 33)).alloc (.cells #[.int .u64 Z1, .int .u64 Z2] 33))) := (((Kp.refl w).alloc _).alloc _).alloc _
  have qX := H6.new w (.int .u64 X1) (.int .u64 X2) (.int .u64 Y1) (.int .u64 Y2) (.int .u64 Z1) (.int .u64 Z2) 33 33 33
  have hTW := hT.kp kW
  go_enter Tryz.func5, Tryz.ntmps5
  go_upto_region 1 with fail
  generalize hW : (((w.alloc (.cells #[.int .u64 X1, .int .u64 X2] 33)).alloc (.cells #[.int .u64 Y1, .int .u64 Y2] 33)).alloc (.cells #[.int .u64 Z1, .int .u64 Z2] 33)) = W at kW qX hTW ⊢
  clear hW
  obtain ⟨⟨x0, x1, x2, x3⟩, ⟨x4, x5, x6, x7⟩, ⟨x8, x9, xa, xb⟩⟩ := id qX
  go_upto_region 2 with (first | (go_at_call 22; refine (hh _).mono ?_; rintro e wy ⟨rfl, gy⟩) | (go_at_call 20; refine (hi1 _).mono ?_; rintro e wx ⟨rfl, gx⟩; replace gx := Kp.trans gy gx; clear gy))
  clear x0 x1 x2 x3 x4 x5 x6 x7 x8 x9 xa xb
  have qb := Fq.H2.new wx (.float .f64 B1) (.float .f64 B2) 25
  have gz := gx.alloc (.cells #[.float .f64 B1, .float .f64 B2] 25)
  replace qX := H6.keep qX gz
  replace hTW := hTW.kp gz
  replace kW := Kp.trans kW gz
  clear gz gx
  generalize hW : wx.alloc (.cells #[.float .f64 B1, .float .f64 B2] 25) = W at qb qX hTW kW ⊢
  generalize wx.heap.size = bb at qb ⊢
  clear hW
  obtain ⟨⟨x0, x1, x2, x3⟩, ⟨x4, x5, x6, x7⟩, ⟨x8, x9, xa, xb⟩⟩ := id qX
  go_upto_region 3 with (first | (go_at_call 23; refine (hr _).mono ?_; rintro e wy ⟨rfl, gy⟩) | (go_at_call 20; refine (hi2 _).mono ?_; rintro e wx ⟨rfl, gx⟩; replace gx := Kp.trans gy gx; clear gy))
  clear x0 x1 x2 x3 x4 x5 x6 x7 x8 x9 xa xb
  replace qb := Fq.H2.past (Fq.H2.keep qb gx) #[.float .f64 A1, .float .f64 A2] 25
  have qa := Fq.H2.new wx (.float .f64 A1) (.float .f64 A2) 25
  have gz := gx.alloc (.cells #[.float .f64 A1, .float .f64 A2] 25)
  replace qX := H6.keep qX gz
  replace hTW := hTW.kp gz
  replace kW := Kp.trans kW gz
  clear gz gx
  generalize hW : wx.alloc (.cells #[.float .f64 A1, .float .f64 A2] 25) = W at qb qa qX hTW kW ⊢
  generalize wx.heap.size = ba at qa ⊢
  clear hW
  obtain ⟨⟨x0, x1, x2, x3⟩, ⟨x4, x5, x6, x7⟩, ⟨x8, x9, xa, xb⟩⟩ := id qX
  go_upto_region 4 with (first | (go_at_call 20; refine (hi3 _).mono ?_; rintro e wx ⟨rfl, gx⟩))
  clear x0 x1 x2 x3 x4 x5 x6 x7 x8 x9 xa xb
  replace qb := Fq.H2.past (Fq.H2.keep qb gx) #[.float .f64 C1, .float .f64 C2] 25
  replace qa := Fq.H2.past (Fq.H2.keep qa gx) #[.float .f64 C1, .float .f64 C2] 25
  have qc := Fq.H2.new wx (.float .f64 C1) (.float .f64 C2) 25
  have gz := gx.alloc (.cells #[.float .f64 C1, .float .f64 C2] 25)
  replace qX := H6.keep qX gz
  replace hTW := hTW.kp gz
  replace kW := Kp.trans kW gz
  clear gz gx
  generalize hW : wx.alloc (.cells #[.float .f64 C1, .float .f64 C2] 25) = W at qb qa qc qX hTW kW ⊢
  generalize wx.heap.size = bc at qc ⊢
  clear hW
  go_upto_region 4 with fail
  go_cut [57] (fun s57 wx => s57 = .bool false ∧ Kp W wx)
  case first =>
    (
      refine Fq.wp_region_grow (by kernel_rfl) (by kernel_rfl) (fun ι _ G hG hall => ?_)
      have tG : ∀ n, TU7 (G n) := fun n => hTW.kp (hG n)
      have cc0 : ∀ n, (G n).cell? ⟨ba, 0, none⟩ = some (.float .f64 A1) := fun n => Fq.gkeep (hG n) qa.1
      have cc1 : ∀ n, (G n).cell? ⟨ba, 1, none⟩ = some (.float .f64 A2) := fun n => Fq.gkeep (hG n) qa.2.1
      have cc2 : ∀ n, (G n).cell? ⟨bb, 0, none⟩ = some (.float .f64 B1) := fun n => Fq.gkeep (hG n) qb.1
      have cc3 : ∀ n, (G n).cell? ⟨bb, 1, none⟩ = some (.float .f64 B2) := fun n => Fq.gkeep (hG n) qb.2.1
      have cc4 : ∀ n, (G n).cell? ⟨bc, 0, none⟩ = some (.float .f64 C1) := fun n => Fq.gkeep (hG n) qc.1
      have cc5 : ∀ n, (G n).cell? ⟨bc, 1, none⟩ = some (.float .f64 C2) := fun n => Fq.gkeep (hG n) qc.2.1
      repeat (go_big_quiet_step (first | (go_at_call 11; exact (hP _ _ _ _ _ (by with_reducible first | exact fp0 | exact fp1) _ (tG _)).mono (fun e w' h => ⟨h.1, hall _ (Fq.gtrans (hG _) h.2)⟩)) | (go_at_call 25; exact (hU 25 _ _ _ _ (by with_reducible first | exact fu0 | exact fu1) _ (tG _)).mono (fun e w' h => ⟨h.1, hall _ (Fq.gtrans (hG _) h.2)⟩)) | (go_at_call 16; exact (hI 16 _ _ _ _ _ _ (by with_reducible first | exact fi0 | exact fi1) _ (tG _)).mono (fun e w' h => ⟨h.1, hall _ (Fq.gtrans (hG _) h.2)⟩)) | (go_at_call 26; exact (hI 26 _ _ _ _ _ _ (by with_reducible first | exact fi2 | exact fi3) _ (tG _)).mono (fun e w' h => ⟨h.1, hall _ (Fq.gtrans (hG _) h.2)⟩)) | (go_at_call 24; exact (hX _ _ _ _ (by with_reducible first | exact fx0 | exact fx1 | exact fx2 | exact fx3) _).mono (fun e w' h => ⟨h.1, hall _ (Fq.gtrans (hG _) h.2)⟩))))
      refine wpQuiet_nil ?_
      rintro _ ⟨nq, rfl⟩
      have gq : Kp W (G nq) := hG nq
      clear cc0 cc1 cc2 cc3 cc4 cc5 hall hG tG
      go_wp2_with fail
      go_meet
      exact ⟨rfl, gq⟩)
  case rest =>
  obtain ⟨rfl, gw⟩ := hcut
  replace qa := Fq.H2.keep qa gw
  replace qb := Fq.H2.keep qb gw
  replace hTW := hTW.kp gw
  replace kW := Kp.trans kW gw
  clear gw qX qc
  generalize wc = W at qa qb hTW kW ⊢
  go_wp2_with fail
  go_loopw [12] (fun i wr => ∃ k : Nat, k ≤ 6 ∧ i = .int .i64 k ∧ Kp W wr) (fun i _ => 6 - (intOf i).toNat)
  case atStart => exact ⟨0, by omega, rfl, Kp.refl _⟩
  case round =>
    obtain ⟨k, hk, rfl, gr⟩ := hrel
    replace qa := Fq.H2.keep qa gr
    replace qb := Fq.H2.keep qb gr
    replace hTW := hTW.kp gr
    have kW2 := Kp.trans kW gr
    by_cases ck : k < 6
    · have i1 : (k : Int) < 6 := by omega
      go_wp2_with fail
      generalize hW0 : wr = W9 at gr qa qb hTW kW2 ⊢
      clear hW0
      refine Fq.wp_region_grow (by kernel_rfl) (by kernel_rfl) (fun ι _ G hG hall => ?_)
      have tG : ∀ n, TU7 (G n) := fun n => hTW.kp (hG n)
      have cc0 : ∀ n, (G n).cell? ⟨ba, 0, none⟩ = some (.float .f64 A1) := fun n => Fq.gkeep (hG n) qa.1
      have cc1 : ∀ n, (G n).cell? ⟨ba, 1, none⟩ = some (.float .f64 A2) := fun n => Fq.gkeep (hG n) qa.2.1
      have cc2 : ∀ n, (G n).cell? ⟨bb, 0, none⟩ = some (.float .f64 B1) := fun n => Fq.gkeep (hG n) qb.1
      have cc3 : ∀ n, (G n).cell? ⟨bb, 1, none⟩ = some (.float .f64 B2) := fun n => Fq.gkeep (hG n) qb.2.1
      repeat (go_big_quiet_step (first | (go_at_call_of 27 (Value.agg #[.float .f64 A1, .float .f64 A2]); exact (hsA k ck _).mono (fun e w' h => ⟨h.1, hall _ (Fq.gtrans (hG _) h.2)⟩)) | (go_at_call_of 27 (Value.agg #[.float .f64 B1, .float .f64 B2]); exact (hsB k ck _).mono (fun e w' h => ⟨h.1, hall _ (Fq.gtrans (hG _) h.2)⟩)) | (go_at_call 24; exact (hX _ _ _ _ (hsX k ck) _).mono (fun e w' h => ⟨h.1, hall _ (Fq.gtrans (hG _) h.2)⟩))))
      refine wpQuiet_nil ?_
      rintro _ ⟨nq, rfl⟩
      have gq : Kp W9 (G nq) := hG nq
      clear cc0 cc1 cc2 cc3 hall hG tG
      go_wp2
      exact ⟨⟨k + 1, by omega, by go_num, Kp.trans gr gq⟩, by simp [intOf]; omega⟩
    · have i1 : ¬ ((k : Int) < 6) := by omega
      go_wp2_with (first | (go_at_call 10; refine (hlv _ hTW).mono ?_; rintro e wx ⟨rfl, gx⟩))
      exact bodyPost_ret (v := .bool true) (by simp [results, Tryz.results5, go_sem]) rfl ⟨rfl, (Kp.trans kW2 gx)⟩
end Go.Proofs.YthdnajcgdngmcaaGreatDoor
namespace Go.Proofs.YthdnajcgdngmcaaGreatDoor
open Go.RowKit
set_option linter.unusedVariables false
theorem bs_vd (L H : Int) (h : VdZ L H) : VdZ (bsLo L H) (bsHi L H) := by
  unfold bsLo bsHi sMl sMh VdZ at *
  split
  · omega
  · split <;> omega
theorem bs_in (L H L' H' : Int) (d : VdZ L H) (d' : VdZ L' H') (c : L ≠ 9218868437227405312) (c' : L' ≠ 9218868437227405312) (h1 : L' ≤ L) (h2 : H ≤ H') : bsLo L' H' ≠ 9218868437227405312 ∧ bsLo L' H' ≤ bsLo L H ∧ bsHi L H ≤ bsHi L' H' := by
  unfold bsLo bsHi
  rw [if_neg c, if_neg c, if_neg c', if_neg c']
  unfold sMl sMh VdZ at *
  by_cases q1 : L ≤ 0 ∧ 0 ≤ H
  · rw [if_pos q1, if_pos (by omega)]; omega
  · rw [if_neg q1]
    by_cases q2 : L' ≤ 0 ∧ 0 ≤ H'
    · rw [if_pos q2]; omega
    · rw [if_neg q2]; omega
theorem min_in (L1 H1 Lh Hh L3 H3 : Int) (d1 : VdZ L1 H1) (dh : VdZ Lh Hh) (d3 : VdZ L3 H3) (c1 : ¬ (L1 = 9218868437227405312 ∨ L3 = 9218868437227405312)) (c2 : Lh ≠ 9218868437227405312) (h1 : Lh ≤ L1) (h2 : H1 ≤ Hh) : minLo Lh Hh L3 H3 ≠ 9218868437227405312 ∧ minLo Lh Hh L3 H3 ≤ minLo L1 H1 L3 H3 ∧ minHi L1 H1 L3 H3 ≤ minHi Lh Hh L3 H3 := by
  unfold minLo minHi
  rw [if_neg c1, if_neg c1, if_neg (by omega), if_neg (by omega)]
  unfold VdZ at *
  omega
theorem max_in (L1 H1 Lh Hh L3 H3 : Int) (d1 : VdZ L1 H1) (dh : VdZ Lh Hh) (d3 : VdZ L3 H3) (c1 : ¬ (L3 = 9218868437227405312 ∨ L1 = 9218868437227405312)) (c2 : Lh ≠ 9218868437227405312) (h1 : Lh ≤ L1) (h2 : H1 ≤ Hh) : maxLo L3 H3 Lh Hh ≠ 9218868437227405312 ∧ maxLo L3 H3 Lh Hh ≤ maxLo L3 H3 L1 H1 ∧ maxHi L3 H3 L1 H1 ≤ maxHi L3 H3 Lh Hh := by
  unfold maxLo maxHi
  rw [if_neg c1, if_neg c1, if_neg (by omega), if_neg (by omega)]
  unfold VdZ at *
  omega
theorem g_in (K : Nat) (hK : K = 1074) (k : Nat) (L1 H1 Lh Hh : Int) (d1 : VdZ L1 H1) (dh : VdZ Lh Hh) (c1 : L1 ≠ 9218868437227405312) (c2 : Lh ≠ 9218868437227405312) (h1 : Lh ≤ L1) (h2 : H1 ≤ Hh) : gLo K k Lh Hh ≠ 9218868437227405312 ∧ gLo K k Lh Hh ≤ gLo K k L1 H1 ∧ gHi K k L1 H1 ≤ gHi K k Lh Hh := by
  have m1 := stZ_mono K hK k Lh L1 dh.lo d1.lo h1
  have m2 := stZ_mono K hK k H1 Hh d1.hi dh.hi h2
  have v := stZ_vd K hK k Lh Hh dh c2
  have bh := stZ_bd K hK k H1 d1.hi
  have v1 := stZ_vd K hK k L1 H1 d1 c1
  have m3 := stZ_mono K hK k L1 H1 d1.lo d1.hi (by unfold VdZ at d1; omega)
  unfold gLo gHi
  rw [if_neg c1, if_neg c1, if_neg c2, if_neg c2]
  refine ⟨?_, m1, m2⟩
  unfold VdZ BdZ at *
  omega
theorem pgrows_ (a b c d e5 f5 : Nat) (N : Int) (ha : a < 18446744073709551616) (hb : b < 18446744073709551616) (hc : c < 18446744073709551616) (hd : d < 18446744073709551616) (he : e5 < 18446744073709551616) (hf : f5 < 18446744073709551616) (w : World) (hT : Tab w) (hQ : Fq.Tab w) : Calls Tryz.prog 5 #[.agg #[.int .u64 ((a : Nat) : Int), .int .u64 ((b : Nat) : Int)], .agg #[.int .u64 ((c : Nat) : Int), .int .u64 ((d : Nat) : Int)], .agg #[.int .u64 ((e5 : Nat) : Int), .int .u64 ((f5 : Nat) : Int)], .int .i64 N] w fun e w' => e = .returned (.bool true) ∧ Kp w w' := by
  obtain ⟨K, hK⟩ : ∃ K : Nat, K = 1074 := ⟨_, rfl⟩
  obtain ⟨L1, H1, r1⟩ := Rd.ex a b ha hb
  obtain ⟨L2, H2, r2⟩ := Rd.ex c d hc hd
  obtain ⟨L3, H3, r3⟩ := Rd.ex e5 f5 he hf
  have d1 := r1.vd
  have d3 := r3.vd
  have dh := vd_hull L1 H1 L2 H2 d1 r2.vd
  have hL : (min L1 L2) ≤ L1 ∧ H1 ≤ (max H1 H2) := by omega
  obtain ⟨Lh, eL⟩ : ∃ Lh, Lh = (min L1 L2) := ⟨_, rfl⟩
  obtain ⟨Hh, eH⟩ : ∃ Hh, Hh = (max H1 H2) := ⟨_, rfl⟩
  have hh := fun w => hull7_ a b c d L1 H1 L2 H2 r1 r2 w
  rw [← eL, ← eH] at hh dh hL
  have rs := Rd.of d1
  have rb := Rd.of dh
  have hb1 : L1 ≠ 9218868437227405312 → Lh ≠ 9218868437227405312 := fun h => by have := d1.lo; unfold BdZ at this; omega
  have vs : VdZ (nLo K N L1 H1) (nHi K N L1 H1) := by
    by_cases c1 : L1 = 9218868437227405312
    · unfold nLo nHi; rw [if_pos c1, if_pos c1]; exact Or.inl ⟨rfl, rfl⟩
    · exact (n_all K N L1 H1 L1 H1 d1 d1 c1 c1 (Int.le_refl _) (Int.le_refl _)).1
  have vb : VdZ (nLo K N Lh Hh) (nHi K N Lh Hh) := by
    by_cases c1 : Lh = 9218868437227405312
    · unfold nLo nHi; rw [if_pos c1, if_pos c1]; exact Or.inl ⟨rfl, rfl⟩
    · exact (n_all K N Lh Hh Lh Hh dh dh c1 c1 (Int.le_refl _) (Int.le_refl _)).1
  have x0 : nLo K N L1 H1 = 9218868437227405312 ∨ (nLo K N Lh Hh ≠ 9218868437227405312 ∧ nLo K N Lh Hh ≤ nLo K N L1 H1 ∧ nHi K N L1 H1 ≤ nHi K N Lh Hh) := by
    by_cases c1 : L1 = 9218868437227405312
    · left; unfold nLo; rw [if_pos c1]
    · by_cases c2 : nLo K N L1 H1 = 9218868437227405312
      · exact Or.inl c2
      · have g := (n_all K N L1 H1 Lh Hh d1 dh c1 (hb1 c1) hL.1 hL.2).2 c2
        exact Or.inr ⟨g.2.2, g.1, g.2.1⟩
  have x1 : bsLo L1 H1 = 9218868437227405312 ∨ (bsLo Lh Hh ≠ 9218868437227405312 ∧ bsLo Lh Hh ≤ bsLo L1 H1 ∧ bsHi L1 H1 ≤ bsHi Lh Hh) := by
    by_cases c1 : L1 = 9218868437227405312
    · left; unfold bsLo; rw [if_pos c1]
    · exact Or.inr (bs_in L1 H1 Lh Hh d1 dh c1 (hb1 c1) hL.1 hL.2)
  have x2 : minLo L1 H1 L3 H3 = 9218868437227405312 ∨ (minLo Lh Hh L3 H3 ≠ 9218868437227405312 ∧ minLo Lh Hh L3 H3 ≤ minLo L1 H1 L3 H3 ∧ minHi L1 H1 L3 H3 ≤ minHi Lh Hh L3 H3) := by
    by_cases c1 : L1 = 9218868437227405312 ∨ L3 = 9218868437227405312
    · left; unfold minLo; rw [if_pos c1]
    · exact Or.inr (min_in L1 H1 Lh Hh L3 H3 d1 dh d3 c1 (hb1 (fun h => c1 (Or.inl h))) hL.1 hL.2)
  have x3 : maxLo L3 H3 L1 H1 = 9218868437227405312 ∨ (maxLo L3 H3 Lh Hh ≠ 9218868437227405312 ∧ maxLo L3 H3 Lh Hh ≤ maxLo L3 H3 L1 H1 ∧ maxHi L3 H3 L1 H1 ≤ maxHi L3 H3 Lh Hh) := by
    by_cases c1 : L3 = 9218868437227405312 ∨ L1 = 9218868437227405312
    · left; unfold maxLo; rw [if_pos c1]
    · exact Or.inr (max_in L1 H1 Lh Hh L3 H3 d1 dh d3 c1 (hb1 (fun h => c1 (Or.inr h))) hL.1 hL.2)
  have x4 : ∀ k : Nat, gLo K k L1 H1 = 9218868437227405312 ∨ (gLo K k Lh Hh ≠ 9218868437227405312 ∧ gLo K k Lh Hh ≤ gLo K k L1 H1 ∧ gHi K k L1 H1 ≤ gHi K k Lh Hh) := fun k => by
    by_cases c1 : L1 = 9218868437227405312
    · left; unfold gLo; rw [if_pos c1]
    · exact Or.inr (g_in K hK k L1 H1 Lh Hh d1 dh c1 (hb1 c1) hL.1 hL.2)
  exact pgrowsA_ _ _ _ _ _ _ (pI Lh) (pI Hh) (pI L1) (pI H1) N (pw (L1)) (pw (H1)) (pw (Lh)) (pw (Hh)) e5 f5 (pw (nLo K N L1 H1)) (pw (nHi K N L1 H1)) (pw (nLo K N Lh Hh)) (pw (nHi K N Lh Hh)) (pw (bsLo L1 H1)) (pw (bsHi L1 H1)) (pw (bsLo Lh Hh)) (pw (bsHi Lh Hh)) (pw (minLo L1 H1 L3 H3)) (pw (minHi L1 H1 L3 H3)) (pw (minLo Lh Hh L3 H3)) (pw (minHi Lh Hh L3 H3)) (pw (maxLo L3 H3 L1 H1)) (pw (maxHi L3 H3 L1 H1)) (pw (maxLo L3 H3 Lh Hh)) (pw (maxHi L3 H3 Lh Hh)) (fun x1 x2 N z1 z2 => ∀ w : World, TU7 w → Calls Tryz.prog 11 #[.agg #[.float .f64 x1, .float .f64 x2], .int .i64 N] w fun e w' => e = .returned (.agg #[.float .f64 z1, .float .f64 z2]) ∧ Kp w w') (fun f x1 x2 y1 y2 z1 z2 => ∀ w : World, TU7 w → Calls Tryz.prog f #[.agg #[.float .f64 x1, .float .f64 x2], .agg #[.float .f64 y1, .float .f64 y2]] w fun e w' => e = .returned (.agg #[.float .f64 z1, .float .f64 z2]) ∧ Kp w w') (fun f x1 x2 z1 z2 => ∀ w : World, TU7 w → Calls Tryz.prog f #[.agg #[.float .f64 x1, .float .f64 x2]] w fun e w' => e = .returned (.agg #[.float .f64 z1, .float .f64 z2]) ∧ Kp w w') (fun x1 x2 y1 y2 => ∀ w : World, Calls Tryz.prog 24 #[.agg #[.float .f64 x1, .float .f64 x2], .agg #[.float .f64 y1, .float .f64 y2]] w fun e w' => e = .returned (.bool true) ∧ Kp w w') (fun _ _ _ _ _ h => h) (fun _ _ _ _ _ _ _ h => h) (fun _ _ _ _ _ h => h) (fun _ _ _ _ h => h) hh (in9_ _ _) (rread9_ a b L1 H1 r1) (in9_ _ _) (in9_ e5 f5) (fun w h => pown9_ K hK _ _ L1 H1 N rs w h) (fun w h => pown9_ K hK _ _ Lh Hh N rb w h) (fun w _ => absP9_ _ _ L1 H1 rs w) (fun w _ => absP9_ _ _ Lh Hh rb w) (fun w _ => minP9_ _ _ e5 f5 L1 H1 L3 H3 rs r3 w) (fun w _ => minP9_ _ _ e5 f5 Lh Hh L3 H3 rb r3 w) (fun w _ => maxP9_ e5 f5 _ _ L3 H3 L1 H1 r3 rs w) (fun w _ => maxP9_ e5 f5 _ _ L3 H3 Lh Hh r3 rb w) (fun w => within7_ _ _ _ _ vs vb x0 w) (fun w => within7_ _ _ _ _ (bs_vd _ _ d1) (bs_vd _ _ dh) x1 w) (fun w => within7_ _ _ _ _ (vd_minP _ _ _ _ d1 d3) (vd_minP _ _ _ _ dh d3) x2 w) (fun w => within7_ _ _ _ _ (vd_maxP _ _ _ _ d3 d1) (vd_maxP _ _ _ _ d3 dh) x3 w) (fun k => pw (gLo K k L1 H1)) (fun k => pw (gHi K k L1 H1)) (fun k => pw (gLo K k Lh Hh)) (fun k => pw (gHi K k Lh Hh)) (fun k hk w => step9_ K hK k hk _ _ L1 H1 rs w) (fun k hk w => step9_ K hK k hk _ _ Lh Hh rb w) (fun k _ w => within7_ _ _ _ _ (g_vd K hK k L1 H1 d1) (g_vd K hK k Lh Hh dh) (x4 k) w) lives7_ w ⟨hT, hQ⟩
end Go.Proofs.YthdnajcgdngmcaaGreatDoor
