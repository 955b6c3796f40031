import Derived.Test.YtipedmnipolmeaaKEA
namespace Go.Proofs.Ytipedmnipolmeaa
open Go.RowKit
namespace Fq

theorem xor_full (Y : Nat) (h : Y < 18446744073709551616) : 18446744073709551615 ^^^ Y = 18446744073709551615 - Y := by
  have e : 18446744073709551615 - Y = 2 ^ 64 - (Y + 1) := by omega
  rw [e, show 18446744073709551615 = 2 ^ 64 - 1 from by decide]
  apply Nat.eq_of_testBit_eq
  intro i
  rw [Nat.testBit_xor, Nat.testBit_two_pow_sub_one, Nat.testBit_two_pow_sub_succ (by omega)]
  by_cases c : i < 64
  · simp [c]
  · have : Y.testBit i = false := Nat.testBit_lt_two_pow (Nat.lt_of_lt_of_le (show Y < 2 ^ 64 by omega) (Nat.pow_le_pow_right (by decide) (by omega)))
    simp [c, this]
theorem noTop6 (n : Bool) (m X : Nat) (hm : m < 9223372036854775808) (hX : X = wD n m) : bits .andNot .u64 (X : Int) 9223372036854775808 = (m : Int) ∧ X < 18446744073709551616 := by
  have hX9 : X < 18446744073709551616 := by rw [hX]; unfold wD; split <;> omega
  have h := u64_andNot_nat X 9223372036854775808 hX9 (by decide)
  have e : X % 9223372036854775808 = m := by rw [hX]; unfold wD; split <;> omega
  rw [show 18446744073709551615 - 9223372036854775808 = 2 ^ 63 - 1 from by decide, Nat.and_two_pow_sub_one_eq_mod, show (2 : Nat) ^ 63 = 9223372036854775808 from by decide, e] at h
  exact ⟨h, hX9⟩
set_option maxRecDepth 20000 in
set_option maxHeartbeats 400000 in
theorem isnan6_ (n : Bool) (m : Nat) (hm : m < 9223372036854775808) (w : World) : Calls Try.prog 62 #[.int .u64 ((wD n m : Nat) : Int)] w fun e w' => e = .returned (.bool (decide (9218868437227405312 < m))) ∧ w' = w := by
  obtain ⟨X, hX⟩ : ∃ X, X = wD n m := ⟨_, rfl⟩
  have f1 := (noTop6 n m X hm hX).1
  rw [← hX]
  clear hX hm
  by_cases c : 9218868437227405312 < m
  · have t1 : 9218868437227405312 < (m : Int) := by omega
    rw [decide_eq_true c]
    clear c
    go_enter Try.func62, Try.ntmps62
    go_wp2
    exact bodyPost_ret (v := .bool true) (by simp [results, Try.results62, go_sem] <;> omega) rfl ⟨rfl, rfl⟩
  · have t1 : ¬ (9218868437227405312 < (m : Int)) := by omega
    rw [decide_eq_false c]
    clear c
    go_enter Try.func62, Try.ntmps62
    go_wp2
    exact bodyPost_ret (v := .bool false) (by simp [results, Try.results62, go_sem] <;> omega) rfl ⟨rfl, rfl⟩
set_option maxRecDepth 20000 in
set_option maxHeartbeats 400000 in
theorem rplain6_ (n : Bool) (m : Nat) (hm : m ≤ 9218868437227405312) (w : World) : Calls Try.prog 77 #[.int .u64 ((wD n m : Nat) : Int)] w fun e w' => e = .returned (.int .u64 ((pla (wD n m) : Nat) : Int)) ∧ w' = w := by
  have hn := isnan6_ n m (by omega)
  rw [decide_eq_false (by omega)] at hn
  obtain ⟨X, hX⟩ : ∃ X, X = wD n m := ⟨_, rfl⟩
  rw [← hX] at hn ⊢
  clear hX hm
  by_cases c : X = 9223372036854775808
  · have t : ((X : Int) == 9223372036854775808) = true := by rw [c]; rfl
    rw [show pla X = 0 from by simp [pla, c]]
    clear c hn
    go_enter Try.func77, Try.ntmps77
    go_wp2
    exact bodyPost_ret (v := .int .u64 0) (by simp [results, Try.results77, go_sem] <;> simp only [*]) rfl ⟨rfl, rfl⟩
  · have t : ((X : Int) == 9223372036854775808) = false := by simp; omega
    rw [show pla X = X from by simp [pla, c]]
    clear c
    go_enter Try.func77, Try.ntmps77
    go_wp2_with (first | (go_at_call 62; refine (hn _).mono ?_; rintro e w' ⟨rfl, rfl⟩))
    exact bodyPost_ret (v := .int .u64 (X : Int)) (by simp [results, Try.results77, go_sem] <;> simp only [*]) rfl ⟨rfl, rfl⟩
set_option maxRecDepth 20000 in
set_option maxHeartbeats 400000 in
theorem key6_ (n : Bool) (m : Nat) (hm : m ≤ 9218868437227405312) (w : World) : Calls Try.prog 75 #[.int .u64 ((wD n m : Nat) : Int)] w fun e w' => e = .returned (.int .u64 ((kyN (wD n m) : Nat) : Int)) ∧ w' = w := by
  have hp := rplain6_ n m hm
  have hb : pla (wD n m) < 18446744073709551616 := pla_lt _ (by unfold wD; split <;> omega)
  obtain ⟨X, hX⟩ : ∃ X, X = wD n m := ⟨_, rfl⟩
  rw [← hX] at hp hb ⊢
  unfold kyN
  obtain ⟨Y, hY⟩ : ∃ Y, Y = pla X := ⟨_, rfl⟩
  rw [← hY] at hp hb ⊢
  clear hX hm hY
  by_cases c : 9223372036854775808 ≤ Y
  · have t : 9223372036854775808 ≤ (Y : Int) := by omega
    have u : bits .xor .u64 IntKind.u64.max (Y : Int) = ((18446744073709551615 - Y : Nat) : Int) := by
      have h := u64_xor_nat 18446744073709551615 Y (by decide) hb
      rw [xor_full Y hb] at h
      exact h
    rw [if_pos c]
    clear c hb
    obtain ⟨Z, hZ⟩ : ∃ Z : Nat, Z = 18446744073709551615 - Y := ⟨_, rfl⟩
    rw [← hZ] at u ⊢
    clear hZ
    go_enter Try.func75, Try.ntmps75
    go_wp2_with (first | (go_at_call 77; refine (hp _).mono ?_; rintro e w' ⟨rfl, rfl⟩))
    exact bodyPost_ret (v := .int .u64 (Z : Int)) (by simp [results, Try.results75, go_sem] <;> simp only [*]) rfl ⟨rfl, rfl⟩
  · have t : decide (9223372036854775808 ≤ (Y : Int)) = false := decide_eq_false (by omega)
    have u : bits .or .u64 (Y : Int) 9223372036854775808 = ((Y + 9223372036854775808 : Nat) : Int) := by
      have h := u64_or_nat Y 9223372036854775808 hb (by decide)
      have h9 := Nat.two_pow_add_eq_or_of_lt (i := 63) (b := Y) (by omega) 1
      rw [show 2 ^ 63 * 1 = 9223372036854775808 from by decide] at h9
      rw [Nat.or_comm, ← h9, Nat.add_comm] at h
      exact h
    rw [if_neg c]
    clear c hb
    obtain ⟨Z, hZ⟩ : ∃ Z : Nat, Z = Y + 9223372036854775808 := ⟨_, rfl⟩
    rw [← hZ] at u ⊢
    clear hZ
    go_enter Try.func75, Try.ntmps75
    go_wp2_with (first | (go_at_call 77; refine (hp _).mono ?_; rintro e w' ⟨rfl, rfl⟩))
    exact bodyPost_ret (v := .int .u64 (Z : Int)) (by simp [results, Try.results75, go_sem] <;> simp only [*]) rfl ⟨rfl, rfl⟩
set_option maxRecDepth 20000 in
set_option maxHeartbeats 400000 in
theorem above6_ (n n' : Bool) (m m' : Nat) (hm : m < 9223372036854775808) (hm' : m' < 9223372036854775808) (w : World) : Calls Try.prog 63 #[.int .u64 ((wD n m : Nat) : Int), .int .u64 ((wD n' m' : Nat) : Int)] w fun e w' => e = .returned (.bool (decide (m ≤ 9218868437227405312 ∧ m' ≤ 9218868437227405312 ∧ plz n' m' < plz n m))) ∧ w' = w := by
  have hn := isnan6_ n m hm
  have hn' := isnan6_ n' m' hm'
  have kl := kyN_lt n' n m' m
  have hk := key6_ n m
  have hk' := key6_ n' m'
  have e1 : m ≤ 9218868437227405312 → m' ≤ 9218868437227405312 → decide (m ≤ 9218868437227405312 ∧ m' ≤ 9218868437227405312 ∧ plz n' m' < plz n m) = decide ((kyN (wD n' m') : Int) < (kyN (wD n m) : Int)) := by
    intro h1 h2
    have kl := kl h2 h1
    have : ((kyN (wD n' m') : Int) < (kyN (wD n m) : Int)) ↔ plz n' m' < plz n m := by rw [← kl]; omega
    simp only [this]; congr 1; apply propext; omega
  clear kl
  obtain ⟨X, hX⟩ : ∃ X, X = wD n m := ⟨_, rfl⟩
  obtain ⟨Y, hY⟩ : ∃ Y, Y = wD n' m' := ⟨_, rfl⟩
  rw [← hX] at hn hk e1 ⊢
  rw [← hY] at hn' hk' e1 ⊢
  clear hX hY
  by_cases c1 : 9218868437227405312 < m
  · rw [decide_eq_true c1] at hn
    rw [decide_eq_false (by omega)]
    clear c1 e1 hk hk' hm hm' hn'
    go_enter Try.func63, Try.ntmps63
    go_wp2_with (first | (go_at_call 62; refine (hn _).mono ?_; rintro e w' ⟨rfl, rfl⟩))
    exact bodyPost_ret (v := .bool false) (by simp [results, Try.results63, go_sem] <;> simp only [*]) rfl ⟨rfl, rfl⟩
  rw [decide_eq_false c1] at hn
  by_cases c2 : 9218868437227405312 < m'
  · rw [decide_eq_true c2] at hn'
    rw [decide_eq_false (by omega)]
    clear c1 c2 e1 hk hk' hm hm'
    go_enter Try.func63, Try.ntmps63
    go_wp2_with (first | (go_at_call_of 62 (Value.int .u64 (X : Int)); refine (hn _).mono ?_; rintro e w' ⟨rfl, rfl⟩) | (go_at_call_of 62 (Value.int .u64 (Y : Int)); refine (hn' _).mono ?_; rintro e w' ⟨rfl, rfl⟩))
    exact bodyPost_ret (v := .bool false) (by simp [results, Try.results63, go_sem] <;> simp only [*]) rfl ⟨rfl, rfl⟩
  rw [decide_eq_false c2] at hn'
  have hk := hk (by omega)
  have hk' := hk' (by omega)
  rw [e1 (by omega) (by omega)]
  clear e1 c1 c2 hm hm'
  generalize kyN X = KX at hk ⊢
  generalize kyN Y = KY at hk' ⊢
  go_enter Try.func63, Try.ntmps63
  go_wp2_with (first | (go_at_call_of 62 (Value.int .u64 (X : Int)); refine (hn _).mono ?_; rintro e w' ⟨rfl, rfl⟩) | (go_at_call_of 62 (Value.int .u64 (Y : Int)); refine (hn' _).mono ?_; rintro e w' ⟨rfl, rfl⟩) | (go_at_call_of 75 (Value.int .u64 (X : Int)); refine (hk _).mono ?_; rintro e w' ⟨rfl, rfl⟩) | (go_at_call_of 75 (Value.int .u64 (Y : Int)); refine (hk' _).mono ?_; rintro e w' ⟨rfl, rfl⟩))
  exact bodyPost_ret (v := .bool (decide ((KY : Int) < (KX : Int)))) (by simp [results, Try.results63, go_sem] <;> simp only [*]) rfl ⟨rfl, rfl⟩
end Fq
end Go.Proofs.Ytipedmnipolmeaa
