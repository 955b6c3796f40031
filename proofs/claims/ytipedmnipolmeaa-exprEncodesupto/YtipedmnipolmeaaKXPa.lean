import Derived.Test.YtipedmnipolmeaaKXA0
import Derived.Deep.OwnRows
import Derived.Deep.RegionHeld3
import Derived.OwnWalk
namespace Go.Proofs.Ytipedmnipolmeaa
open Go.RowKit
set_option linter.unusedVariables false
set_option maxRecDepth 20000 in
set_option maxHeartbeats 400000 in
theorem varsBounds_ (w : World) : Calls Try.prog 18 #[] w fun e w' => e = .returned (.agg #[.int .i64 0, .int .i64 32]) ∧ Kp w w' := by
  have kw : Kp w (w.alloc (.cells #[.int .i64 0, .int .i64 32] 54)) := (Kp.refl w).alloc _
  go_enter Try.func18, Try.ntmps18
  go_wp2
  exact bodyPost_ret (v := .agg #[.int .i64 0, .int .i64 32]) (by simp [results, Try.results18, go_sem]) rfl ⟨rfl, kw⟩
set_option maxRecDepth 20000 in
set_option maxHeartbeats 400000 in
theorem constsBounds_ (w : World) : Calls Try.prog 20 #[] w fun e w' => e = .returned (.agg #[.int .i64 0, .int .i64 256]) ∧ Kp w w' := by
  have kw : Kp w (w.alloc (.cells #[.int .i64 0, .int .i64 256] 54)) := (Kp.refl w).alloc _
  go_enter Try.func20, Try.ntmps20
  go_wp2
  exact bodyPost_ret (v := .agg #[.int .i64 0, .int .i64 256]) (by simp [results, Try.results20, go_sem]) rfl ⟨rfl, kw⟩
set_option maxRecDepth 20000 in
set_option maxHeartbeats 400000 in
theorem codeBounds_ (w : World) : Calls Try.prog 22 #[] w fun e w' => e = .returned (.agg #[.int .i64 1, .int .i64 1024]) ∧ Kp w w' := by
  have kw : Kp w (w.alloc (.cells #[.int .i64 1, .int .i64 1024] 54)) := (Kp.refl w).alloc _
  go_enter Try.func22, Try.ntmps22
  go_wp2
  exact bodyPost_ret (v := .agg #[.int .i64 1, .int .i64 1024]) (by simp [results, Try.results22, go_sem]) rfl ⟨rfl, kw⟩
set_option maxRecDepth 20000 in
set_option maxHeartbeats 400000 in
theorem opBounds_ (w : World) : Calls Try.prog 41 #[] w fun e w' => e = .returned (.agg #[.int .i64 1, .int .i64 21]) ∧ Kp w w' := by
  have kw : Kp w (w.alloc (.cells #[.int .i64 1, .int .i64 21] 54)) := (Kp.refl w).alloc _
  go_enter Try.func41, Try.ntmps41
  go_wp2
  exact bodyPost_ret (v := .agg #[.int .i64 1, .int .i64 21]) (by simp [results, Try.results41, go_sem]) rfl ⟨rfl, kw⟩
set_option maxRecDepth 20000 in
set_option maxHeartbeats 800000 in
theorem hold_ (lo hi x : Int) (w : World) : Calls Try.prog 19 #[.agg #[.int .i64 lo, .int .i64 hi], .int .i64 x] w fun e w' => e = .returned (.bool (decide (lo ≤ x) && decide (x ≤ hi))) ∧ Kp w w' := by
  have kw : Kp w (w.alloc (.cells #[.int .i64 lo, .int .i64 hi] 54)) := (Kp.refl w).alloc _
  by_cases c1 : lo ≤ x
  · by_cases c2 : x ≤ hi
    · rw [decide_eq_true c1, decide_eq_true c2]
      go_enter Try.func19, Try.ntmps19
      go_wp2
      exact bodyPost_ret (v := .bool true) (by simp [results, Try.results19, go_sem]) rfl ⟨rfl, kw⟩
    · rw [decide_eq_true c1, decide_eq_false c2]
      have c3 : hi < x := by omega
      go_enter Try.func19, Try.ntmps19
      go_wp2
      exact bodyPost_ret (v := .bool false) (by simp [results, Try.results19, go_sem]) rfl ⟨rfl, kw⟩
  · rw [decide_eq_false c1, Bool.false_and]
    have c3 : x < lo := by omega
    go_enter Try.func19, Try.ntmps19
    go_wp2
    exact bodyPost_ret (v := .bool false) (by simp [results, Try.results19, go_sem]) rfl ⟨rfl, kw⟩
set_option maxRecDepth 20000 in
set_option maxHeartbeats 400000 in
theorem operandBounds_ (a b : Int) (ha : 0 ≤ a ∧ a ≤ 4096) (hb : 0 ≤ b ∧ b ≤ 4096) (w : World) : Calls Try.prog 43 #[.int .i64 a, .int .i64 b] w fun e w' => e = .returned (.agg #[.int .i64 0, .int .i64 (a + b - 1)]) ∧ Kp w w' := by
  have kw : Kp w (w.alloc (.cells #[.int .i64 0, .int .i64 (a + b - 1)] 54)) := (Kp.refl w).alloc _
  have h1 : IntKind.i64.wrap (a + b) = a + b := by rw [IntKind.wrap_i64]; omega
  have h2 : IntKind.i64.wrap (a + b - 1) = a + b - 1 := by rw [IntKind.wrap_i64]; omega
  clear ha hb
  go_enter Try.func43, Try.ntmps43
  go_wp2
  exact bodyPost_ret (v := .agg #[.int .i64 0, .int .i64 (a + b - 1)]) (by simp [results, Try.results43, go_sem]) rfl ⟨rfl, kw⟩

def nbLo (x : Int) : Int := if x = 12 then -1024 else 0
def nbHi (x c : Int) : Int := if x = 1 then c - 1 else if x = 12 then 1024 else 0
set_option maxRecDepth 20000 in
set_option maxHeartbeats 800000 in
theorem numberBounds_ (x c : Int) (hc : 0 ≤ c ∧ c ≤ 4096) (w : World) : Calls Try.prog 44 #[.int .i64 x, .int .i64 c] w fun e w' => e = .returned (.agg #[.int .i64 (nbLo x), .int .i64 (nbHi x c)]) ∧ Kp w w' := by
  have kw : ∀ (a b : Int), Kp w (w.alloc (.cells #[.int .i64 a, .int .i64 b] 54)) := fun a b => (Kp.refl w).alloc _
  have h2 : IntKind.i64.wrap (c - 1) = c - 1 := by rw [IntKind.wrap_i64]; omega
  clear hc
  by_cases c1 : x = 1
  · subst c1
    rw [show nbLo 1 = 0 from rfl, show nbHi 1 c = c - 1 from rfl]
    go_enter Try.func44, Try.ntmps44
    go_wp2
    exact bodyPost_ret (v := .agg #[.int .i64 0, .int .i64 (c - 1)]) (by simp [results, Try.results44, go_sem]) rfl ⟨rfl, kw _ _⟩
  by_cases c12 : x = 12
  · subst c12
    rw [show nbLo 12 = -1024 from rfl, show nbHi 12 c = 1024 from rfl]
    go_enter Try.func44, Try.ntmps44
    go_wp2
    exact bodyPost_ret (v := .agg #[.int .i64 (-1024), .int .i64 1024]) (by simp [results, Try.results44, go_sem]) rfl ⟨rfl, kw _ _⟩
  have e1 : nbLo x = 0 := by unfold nbLo; rw [if_neg c12]
  have e2 : nbHi x c = 0 := by unfold nbHi; rw [if_neg c1, if_neg c12]
  rw [e1, e2]
  have d1 : (x == 1) = false := beq_eq_false_iff_ne.2 c1
  have d12 : (x == 12) = false := beq_eq_false_iff_ne.2 c12
  go_enter Try.func44, Try.ntmps44
  go_wp2
  exact bodyPost_ret (v := .agg #[.int .i64 0, .int .i64 0]) (by simp [results, Try.results44, go_sem]) rfl ⟨rfl, kw _ _⟩

def opN (x : Int) : Int := if x = 1 then 0 else if x = 4 ∨ x = 5 ∨ x = 6 ∨ x = 7 ∨ x = 14 ∨ x = 15 then 2 else if x = 11 then 3 else 1
set_option maxRecDepth 20000 in
set_option maxHeartbeats 1600000 in
theorem operands_ (x : Int) (w : World) : Calls Try.prog 42 #[.int .i64 x] w fun e w' => e = .returned (.int .i64 (opN x)) ∧ w' = w := by
  by_cases c0 : x = 1
  · subst c0
    rw [show opN 1 = 0 from rfl]
    go_enter Try.func42, Try.ntmps42
    go_wp2
    exact bodyPost_ret (v := .int .i64 0) (by simp [results, Try.results42, go_sem]) rfl ⟨rfl, rfl⟩
  by_cases c4 : x = 4
  · subst c4
    rw [show opN 4 = 2 from rfl]
    go_enter Try.func42, Try.ntmps42
    go_wp2
    exact bodyPost_ret (v := .int .i64 2) (by simp [results, Try.results42, go_sem]) rfl ⟨rfl, rfl⟩
  by_cases c5 : x = 5
  · subst c5
    rw [show opN 5 = 2 from rfl]
    go_enter Try.func42, Try.ntmps42
    go_wp2
    exact bodyPost_ret (v := .int .i64 2) (by simp [results, Try.results42, go_sem]) rfl ⟨rfl, rfl⟩
  by_cases c6 : x = 6
  · subst c6
    rw [show opN 6 = 2 from rfl]
    go_enter Try.func42, Try.ntmps42
    go_wp2
    exact bodyPost_ret (v := .int .i64 2) (by simp [results, Try.results42, go_sem]) rfl ⟨rfl, rfl⟩
  by_cases c7 : x = 7
  · subst c7
    rw [show opN 7 = 2 from rfl]
    go_enter Try.func42, Try.ntmps42
    go_wp2
    exact bodyPost_ret (v := .int .i64 2) (by simp [results, Try.results42, go_sem]) rfl ⟨rfl, rfl⟩
  by_cases c14 : x = 14
  · subst c14
    rw [show opN 14 = 2 from rfl]
    go_enter Try.func42, Try.ntmps42
    go_wp2
    exact bodyPost_ret (v := .int .i64 2) (by simp [results, Try.results42, go_sem]) rfl ⟨rfl, rfl⟩
  by_cases c15 : x = 15
  · subst c15
    rw [show opN 15 = 2 from rfl]
    go_enter Try.func42, Try.ntmps42
    go_wp2
    exact bodyPost_ret (v := .int .i64 2) (by simp [results, Try.results42, go_sem]) rfl ⟨rfl, rfl⟩
  by_cases c11 : x = 11
  · subst c11
    rw [show opN 11 = 3 from rfl]
    go_enter Try.func42, Try.ntmps42
    go_wp2
    exact bodyPost_ret (v := .int .i64 3) (by simp [results, Try.results42, go_sem]) rfl ⟨rfl, rfl⟩
  have hz : opN x = 1 := by unfold opN; simp only [c0, c11, c4, c5, c6, c7, c14, c15, or_self, if_false]
  rw [hz]
  have d4 : (x == 4) = false := beq_eq_false_iff_ne.2 c4
  have d5 : (x == 5) = false := beq_eq_false_iff_ne.2 c5
  have d6 : (x == 6) = false := beq_eq_false_iff_ne.2 c6
  have d7 : (x == 7) = false := beq_eq_false_iff_ne.2 c7
  have d14 : (x == 14) = false := beq_eq_false_iff_ne.2 c14
  have d15 : (x == 15) = false := beq_eq_false_iff_ne.2 c15
  have d11 : (x == 11) = false := beq_eq_false_iff_ne.2 c11
  have d0 : (x == 1) = false := beq_eq_false_iff_ne.2 c0
  go_enter Try.func42, Try.ntmps42
  go_wp2
  exact bodyPost_ret (v := .int .i64 1) (by simp [results, Try.results42, go_sem]) rfl ⟨rfl, rfl⟩
end Go.Proofs.Ytipedmnipolmeaa
