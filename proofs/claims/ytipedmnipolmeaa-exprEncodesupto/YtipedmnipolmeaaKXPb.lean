import Derived.Test.YtipedmnipolmeaaKXPa
namespace Go.Proofs.Ytipedmnipolmeaa
open Go.RowKit
set_option linter.unusedVariables false

def ctN (x : Int) : Int := if x = 4 ∨ x = 5 ∨ x = 6 ∨ x = 7 ∨ x = 14 ∨ x = 15 then 2 else if x = 11 then 3 else if 2 ≤ x ∧ x ≤ 21 then 1 else 0
set_option maxRecDepth 20000 in
set_option maxHeartbeats 2000000 in
theorem count_ (x : Int) (w : World) : Calls Try.prog 52 #[.int .i64 x] w fun e w' => e = .returned (.int .i64 (ctN x)) ∧ w' = w := by
  by_cases c4 : x = 4
  · subst c4
    rw [show ctN 4 = 2 from rfl]
    go_enter Try.func52, Try.ntmps52
    go_wp2
    exact bodyPost_ret (v := .int .i64 2) (by simp [results, Try.results52, go_sem]) rfl ⟨rfl, rfl⟩
  by_cases c5 : x = 5
  · subst c5
    rw [show ctN 5 = 2 from rfl]
    go_enter Try.func52, Try.ntmps52
    go_wp2
    exact bodyPost_ret (v := .int .i64 2) (by simp [results, Try.results52, go_sem]) rfl ⟨rfl, rfl⟩
  by_cases c6 : x = 6
  · subst c6
    rw [show ctN 6 = 2 from rfl]
    go_enter Try.func52, Try.ntmps52
    go_wp2
    exact bodyPost_ret (v := .int .i64 2) (by simp [results, Try.results52, go_sem]) rfl ⟨rfl, rfl⟩
  by_cases c7 : x = 7
  · subst c7
    rw [show ctN 7 = 2 from rfl]
    go_enter Try.func52, Try.ntmps52
    go_wp2
    exact bodyPost_ret (v := .int .i64 2) (by simp [results, Try.results52, go_sem]) rfl ⟨rfl, rfl⟩
  by_cases c14 : x = 14
  · subst c14
    rw [show ctN 14 = 2 from rfl]
    go_enter Try.func52, Try.ntmps52
    go_wp2
    exact bodyPost_ret (v := .int .i64 2) (by simp [results, Try.results52, go_sem]) rfl ⟨rfl, rfl⟩
  by_cases c15 : x = 15
  · subst c15
    rw [show ctN 15 = 2 from rfl]
    go_enter Try.func52, Try.ntmps52
    go_wp2
    exact bodyPost_ret (v := .int .i64 2) (by simp [results, Try.results52, go_sem]) rfl ⟨rfl, rfl⟩
  by_cases c11 : x = 11
  · subst c11
    rw [show ctN 11 = 3 from rfl]
    go_enter Try.func52, Try.ntmps52
    go_wp2
    exact bodyPost_ret (v := .int .i64 3) (by simp [results, Try.results52, go_sem]) rfl ⟨rfl, rfl⟩
  have d4 : (x == 4) = false := beq_eq_false_iff_ne.2 c4
  have d5 : (x == 5) = false := beq_eq_false_iff_ne.2 c5
  have d6 : (x == 6) = false := beq_eq_false_iff_ne.2 c6
  have d7 : (x == 7) = false := beq_eq_false_iff_ne.2 c7
  have d14 : (x == 14) = false := beq_eq_false_iff_ne.2 c14
  have d15 : (x == 15) = false := beq_eq_false_iff_ne.2 c15
  have d11 : (x == 11) = false := beq_eq_false_iff_ne.2 c11
  have hz : ctN x = if 2 ≤ x ∧ x ≤ 21 then 1 else 0 := by unfold ctN; simp only [c11, c4, c5, c6, c7, c14, c15, or_self, if_false]
  rw [hz]
  by_cases c2 : 2 ≤ x
  · by_cases c3 : x ≤ 21
    · rw [if_pos ⟨c2, c3⟩]
      go_enter Try.func52, Try.ntmps52
      go_wp2
      exact bodyPost_ret (v := .int .i64 1) (by simp [results, Try.results52, go_sem]) rfl ⟨rfl, rfl⟩
    · rw [if_neg (by omega)]
      have c4' : 21 < x := by omega
      go_enter Try.func52, Try.ntmps52
      go_wp2
      exact bodyPost_ret (v := .int .i64 0) (by simp [results, Try.results52, go_sem]) rfl ⟨rfl, rfl⟩
  · rw [if_neg (by omega)]
    have c4' : x < 2 := by omega
    go_enter Try.func52, Try.ntmps52
    go_wp2
    exact bodyPost_ret (v := .int .i64 0) (by simp [results, Try.results52, go_sem]) rfl ⟨rfl, rfl⟩

def opsN (x : Int) : Int := if x = 1 then 0 else if ctN x = 0 then -1 else ctN x
set_option maxRecDepth 20000 in
set_option maxHeartbeats 800000 in
theorem ropands_ (x : Int) (w : World) : Calls Try.prog 32 #[.int .i64 x] w fun e w' => e = .returned (.int .i64 (opsN x)) ∧ w' = w := by
  have hc := count_ x
  unfold opsN
  by_cases c0 : x = 1
  · subst c0
    rw [if_pos rfl]
    clear hc
    go_enter Try.func32, Try.ntmps32
    go_wp2
    exact bodyPost_ret (v := .int .i64 0) (by simp [results, Try.results32, go_sem]) rfl ⟨rfl, rfl⟩
  · rw [if_neg c0]
    have d0 : (x == 1) = false := beq_eq_false_iff_ne.2 c0
    have ARM := hc
    by_cases c1 : ctN x = 0
    · rw [if_pos c1]
      rw [c1] at hc
      clear ARM
      go_enter Try.func32, Try.ntmps32
      go_wp2_with (first | (go_at_call 52; refine (hc _).mono ?_; rintro e w' ⟨rfl, hw'⟩; obtain rfl := hw'.symm; clear hw'))
      exact bodyPost_ret (v := .int .i64 (-1)) (by simp [results, Try.results32, go_sem]) rfl ⟨rfl, rfl⟩
    · rw [if_neg c1]
      clear ARM
      have d1 : (ctN x == 0) = false := beq_eq_false_iff_ne.2 c1
      generalize ctN x = z at *
      go_enter Try.func32, Try.ntmps32
      go_wp2_with (first | (go_at_call 52; refine (hc _).mono ?_; rintro e w' ⟨rfl, hw'⟩; obtain rfl := hw'.symm; clear hw'))
      exact bodyPost_ret (v := .int .i64 z) (by simp [results, Try.results32, go_sem]) rfl ⟨rfl, rfl⟩
theorem opN_opsN (x : Int) : (1 ≤ x ∧ x ≤ 21 → opsN x = opN x) ∧ (¬ (1 ≤ x ∧ x ≤ 21) → opsN x = -1) := by
  constructor
  · rintro ⟨h1, h2⟩
    have : x = 1 ∨ x = 2 ∨ x = 3 ∨ x = 4 ∨ x = 5 ∨ x = 6 ∨ x = 7 ∨ x = 8 ∨ x = 9 ∨ x = 10 ∨ x = 11 ∨ x = 12 ∨ x = 13 ∨ x = 14 ∨ x = 15 ∨ x = 16 ∨ x = 17 ∨ x = 18 ∨ x = 19 ∨ x = 20 ∨ x = 21 := by omega
    rcases this with rfl | rfl | rfl | rfl | rfl | rfl | rfl | rfl | rfl | rfl | rfl | rfl | rfl | rfl | rfl | rfl | rfl | rfl | rfl | rfl | rfl <;> rfl
  · intro h
    unfold opsN ctN
    rw [if_neg (show ¬ x = 1 by omega), if_neg (show ¬ (x = 4 ∨ x = 5 ∨ x = 6 ∨ x = 7 ∨ x = 14 ∨ x = 15) by omega), if_neg (show ¬ x = 11 by omega), if_neg (show ¬ (2 ≤ x ∧ x ≤ 21) by omega), if_pos rfl]
end Go.Proofs.Ytipedmnipolmeaa
