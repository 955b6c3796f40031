import Derived.Test.YthajkngngdnidaaProg
import Derived.Test.YthajkngngdnidaaKXA0
import Derived.Test.YthajkngngdnidaaKQM
import Derived.Test.YthajkngngdnidaaKQA
import Derived.Test.YthajkngngdnidaaKXQU
import Derived.Test.YthajkngngdnidaaKEM
import Derived.Test.YthajkngngdnidaaKEN
import Derived.Test.YthajkngngdnidaaKEA
import Derived.Test.YthajkngngdnidaaKEB
import Derived.Test.YthajkngngdnidaaKEH
import Derived.Test.YthajkngngdnidaaKEK
import Derived.Test.YthajkngngdnidaaKEO
import Derived.Test.YthajkngngdnidaaKER
import Derived.Test.YthajkngngdnidaaKES
import Derived.Test.YthajkngngdnidaaKNRv
import Derived.Test.YthajkngngdnidaaKNRm
import Derived.Test.YthajkngngdnidaaKNRa
import Derived.Test.YthajkngngdnidaaKNRj
import Derived.WalkKit
import Derived.ProofKit
import Derived.RowKit3
import Derived.WalkSpells
import Derived.StillTactics
import Derived.Deep.QuietTactic
import Derived.BigQuiet
import Derived.Below
import Derived.Deep.OwnRows
import Derived.OwnWalk
import Derived.Laws.BitsAllLaws
import Derived.Laws.Slices
import Derived.Laws.Bits64b
import Derived.Laws.FloatArith
import Derived.Deep.RegionHeld3
import Derived.Deep.CutRange
import Derived.Deep.DeepCutAuto
namespace Go.Proofs.Ythajkngngdnidaa
open Go.RowKit
set_option linter.unusedVariables false

/-- a block of three cells that may be written -/
def H3 (w : World) (b : Nat) (u v t : Value) : Prop := w.cell? ⟨b, 0, none⟩ = some u ∧ w.cell? ⟨b, 1, none⟩ = some v ∧ w.cell? ⟨b, 2, none⟩ = some t ∧ w.frozen? ⟨b, 0, none⟩ = false ∧ w.frozen? ⟨b, 1, none⟩ = false ∧ w.frozen? ⟨b, 2, none⟩ = false
theorem H3.keep {W w : World} {b : Nat} {u v t : Value} (h : H3 W b u v t) (g : Kp W w) : H3 w b u v t :=
  ⟨kkeep g h.1, kkeep g h.2.1, kkeep g h.2.2.1, (Fq.gfroz g (cell_lt h.1)).trans h.2.2.2.1, (Fq.gfroz g (cell_lt h.1)).trans h.2.2.2.2.1, (Fq.gfroz g (cell_lt h.1)).trans h.2.2.2.2.2⟩
theorem H3.new (w : World) (u v t : Value) (s : TypeId) : H3 (w.alloc (.cells #[u, v, t] s)) w.heap.size u v t := by
  unfold H3; simp [go_sem]
theorem H3.past {w : World} {b : Nat} {u v t : Value} (h : H3 w b u v t) (c : Array Value) (s : TypeId) : H3 (w.alloc (.cells c s)) b u v t := h.keep ((Kp.refl _).alloc _)
theorem H3.put {w : World} {b : Nat} {u v t : Value} (h : H3 w b u v t) (u' v' t' : Value) : H3 (((w.setCell ⟨b, 0, none⟩ u').setCell ⟨b, 1, none⟩ v').setCell ⟨b, 2, none⟩ t') b u' v' t' := by
  obtain ⟨h0, h1, h2, h3, h4, h5⟩ := h
  unfold H3; simp [go_sem, h0, h1, h2, h3, h4, h5]
theorem H3.far {w : World} {b : Nat} {u v t : Value} (h : H3 w b u v t) {c : Nat} (hne : c ≠ b) (u' v' t' : Value) : H3 (((w.setCell ⟨c, 0, none⟩ u').setCell ⟨c, 1, none⟩ v').setCell ⟨c, 2, none⟩ t') b u v t := by
  obtain ⟨h0, h1, h2, h3, h4, h5⟩ := h
  have f : ∀ k, ((((w.setCell ⟨c, 0, none⟩ u').setCell ⟨c, 1, none⟩ v').setCell ⟨c, 2, none⟩ t')).cell? ⟨b, k, none⟩ = w.cell? ⟨b, k, none⟩ := fun k => by
    rw [World.cell?_setCell_far _ _ _ _ (by simpa using hne), World.cell?_setCell_far _ _ _ _ (by simpa using hne), World.cell?_setCell_far _ _ _ _ (by simpa using hne)]
  refine ⟨(f 0).trans h0, (f 1).trans h1, (f 2).trans h2, ?_, ?_, ?_⟩
  · simp only [World.frozen?_setCell]; exact h3
  · simp only [World.frozen?_setCell]; exact h4
  · simp only [World.frozen?_setCell]; exact h5

def hsB (N : Bool) (P Q p : Nat) : Bool := !N && (decide (P ≤ p) && decide (p ≤ Q))
set_option maxRecDepth 20000 in
set_option maxHeartbeats 2000000 in
theorem has_ (N : Bool) (P Q p : Nat) (w : World) : Calls Try.prog 62 #[.agg #[.bool N, .int .i64 (P : Int), .int .i64 (Q : Int)], .int .i64 (p : Int)] w fun e w' => e = .returned (.bool (hsB N P Q p)) ∧ Kp w w' := by
  unfold hsB
  by_cases c1 : P ≤ p
  · have t1 : (P : Int) ≤ (p : Int) := by omega
    rw [decide_eq_true c1]
    by_cases c2 : p ≤ Q
    · have t2 : (p : Int) ≤ (Q : Int) := by omega
      rw [decide_eq_true c2]
      clear c1 c2
      cases N
      all_goals (
        go_enter Try.func62, Try.ntmps62
        go_wp2
        exact bodyPost_ret (v := .bool _) (by simp [results, Try.results62, go_sem]) rfl ⟨rfl, (by repeat (with_reducible (first | assumption | exact Kp.refl _ | apply Kp.drew | apply Kp.alloc | apply Kp.drewN | (refine Kp.setCell ?_ (by first | omega | (simp <;> omega)) _) | (refine Kp.trans ?_ (by assumption)))))⟩)
    · have t2 : ¬ (p : Int) ≤ (Q : Int) := by omega
      rw [decide_eq_false c2]
      clear c1 c2
      cases N
      all_goals (
        go_enter Try.func62, Try.ntmps62
        go_wp2
        exact bodyPost_ret (v := .bool false) (by simp [results, Try.results62, go_sem] <;> omega) rfl ⟨rfl, (by repeat (with_reducible (first | assumption | exact Kp.refl _ | apply Kp.drew | apply Kp.alloc | apply Kp.drewN | (refine Kp.setCell ?_ (by first | omega | (simp <;> omega)) _) | (refine Kp.trans ?_ (by assumption)))))⟩)
  · have t1 : ¬ (P : Int) ≤ (p : Int) := by omega
    rw [decide_eq_false c1]
    clear c1
    cases N
    all_goals (
      go_enter Try.func62, Try.ntmps62
      go_wp2
      exact bodyPost_ret (v := .bool false) (by simp [results, Try.results62, go_sem] <;> omega) rfl ⟨rfl, (by repeat (with_reducible (first | assumption | exact Kp.refl _ | apply Kp.drew | apply Kp.alloc | apply Kp.drewN | (refine Kp.setCell ?_ (by first | omega | (simp <;> omega)) _) | (refine Kp.trans ?_ (by assumption)))))⟩)
set_option maxRecDepth 20000 in
set_option maxHeartbeats 1000000 in
theorem asked0_ (a b : Nat) (w : World) : Calls Try.prog 63 #[.int .i64 0, .int .i64 (a : Int), .int .i64 (b : Int)] w fun e w' => e = .returned (.bool (decide (a = b))) ∧ w' = w := by
  by_cases c : a = b
  · have t : (a : Int) = (b : Int) := by omega
    have t' : ((a : Int) == (b : Int)) = decide (a = b) := by by_cases e : a = b <;> simp [e] <;> omega
    rw [decide_eq_true c]
    go_enter Try.func63, Try.ntmps63
    go_wp2
    exact bodyPost_ret (v := .bool true) (by simp [results, Try.results63, go_sem] <;> omega) rfl ⟨rfl, rfl⟩
  · have t : ¬ ((a : Int) = (b : Int)) := by omega
    have t' : ((a : Int) == (b : Int)) = decide (a = b) := by by_cases e : a = b <;> simp [e] <;> omega
    rw [decide_eq_false c]
    go_enter Try.func63, Try.ntmps63
    go_wp2
    exact bodyPost_ret (v := .bool false) (by simp [results, Try.results63, go_sem] <;> omega) rfl ⟨rfl, rfl⟩
set_option maxRecDepth 20000 in
set_option maxHeartbeats 1000000 in
theorem asked1_ (a b : Nat) (w : World) : Calls Try.prog 63 #[.int .i64 1, .int .i64 (a : Int), .int .i64 (b : Int)] w fun e w' => e = .returned (.bool (decide (a ≤ b))) ∧ w' = w := by
  by_cases c : a ≤ b
  · have t : (a : Int) ≤ (b : Int) := by omega
    have t' : ((a : Int) == (b : Int)) = decide (a = b) := by by_cases e : a = b <;> simp [e] <;> omega
    rw [decide_eq_true c]
    go_enter Try.func63, Try.ntmps63
    go_wp2
    exact bodyPost_ret (v := .bool true) (by simp [results, Try.results63, go_sem] <;> omega) rfl ⟨rfl, rfl⟩
  · have t : ¬ ((a : Int) ≤ (b : Int)) := by omega
    have t' : ((a : Int) == (b : Int)) = decide (a = b) := by by_cases e : a = b <;> simp [e] <;> omega
    rw [decide_eq_false c]
    go_enter Try.func63, Try.ntmps63
    go_wp2
    exact bodyPost_ret (v := .bool false) (by simp [results, Try.results63, go_sem] <;> omega) rfl ⟨rfl, rfl⟩
set_option maxRecDepth 20000 in
set_option maxHeartbeats 1000000 in
theorem asked2_ (a b : Nat) (w : World) : Calls Try.prog 63 #[.int .i64 2, .int .i64 (a : Int), .int .i64 (b : Int)] w fun e w' => e = .returned (.bool (decide (a < b))) ∧ w' = w := by
  by_cases c : a < b
  · have t : (a : Int) < (b : Int) := by omega
    have t' : ((a : Int) == (b : Int)) = decide (a = b) := by by_cases e : a = b <;> simp [e] <;> omega
    rw [decide_eq_true c]
    go_enter Try.func63, Try.ntmps63
    go_wp2
    exact bodyPost_ret (v := .bool true) (by simp [results, Try.results63, go_sem] <;> omega) rfl ⟨rfl, rfl⟩
  · have t : ¬ ((a : Int) < (b : Int)) := by omega
    have t' : ((a : Int) == (b : Int)) = decide (a = b) := by by_cases e : a = b <;> simp [e] <;> omega
    rw [decide_eq_false c]
    go_enter Try.func63, Try.ntmps63
    go_wp2
    exact bodyPost_ret (v := .bool false) (by simp [results, Try.results63, go_sem] <;> omega) rfl ⟨rfl, rfl⟩
set_option maxRecDepth 20000 in
set_option maxHeartbeats 1000000 in
theorem asked3_ (a b : Nat) (w : World) : Calls Try.prog 63 #[.int .i64 3, .int .i64 (a : Int), .int .i64 (b : Int)] w fun e w' => e = .returned (.bool (decide (b < a))) ∧ w' = w := by
  by_cases c : b < a
  · have t : (b : Int) < (a : Int) := by omega
    have t' : ((a : Int) == (b : Int)) = decide (a = b) := by by_cases e : a = b <;> simp [e] <;> omega
    rw [decide_eq_true c]
    go_enter Try.func63, Try.ntmps63
    go_wp2
    exact bodyPost_ret (v := .bool true) (by simp [results, Try.results63, go_sem] <;> omega) rfl ⟨rfl, rfl⟩
  · have t : ¬ ((b : Int) < (a : Int)) := by omega
    have t' : ((a : Int) == (b : Int)) = decide (a = b) := by by_cases e : a = b <;> simp [e] <;> omega
    rw [decide_eq_false c]
    go_enter Try.func63, Try.ntmps63
    go_wp2
    exact bodyPost_ret (v := .bool false) (by simp [results, Try.results63, go_sem] <;> omega) rfl ⟨rfl, rfl⟩
set_option maxRecDepth 20000 in
set_option maxHeartbeats 1000000 in
theorem asked4_ (a b : Nat) (w : World) : Calls Try.prog 63 #[.int .i64 4, .int .i64 (a : Int), .int .i64 (b : Int)] w fun e w' => e = .returned (.bool (decide (b ≤ a))) ∧ w' = w := by
  by_cases c : b ≤ a
  · have t : (b : Int) ≤ (a : Int) := by omega
    have t' : ((a : Int) == (b : Int)) = decide (a = b) := by by_cases e : a = b <;> simp [e] <;> omega
    rw [decide_eq_true c]
    go_enter Try.func63, Try.ntmps63
    go_wp2
    exact bodyPost_ret (v := .bool true) (by simp [results, Try.results63, go_sem] <;> omega) rfl ⟨rfl, rfl⟩
  · have t : ¬ ((b : Int) ≤ (a : Int)) := by omega
    have t' : ((a : Int) == (b : Int)) = decide (a = b) := by by_cases e : a = b <;> simp [e] <;> omega
    rw [decide_eq_false c]
    go_enter Try.func63, Try.ntmps63
    go_wp2
    exact bodyPost_ret (v := .bool false) (by simp [results, Try.results63, go_sem] <;> omega) rfl ⟨rfl, rfl⟩
set_option maxRecDepth 20000 in
set_option maxHeartbeats 1000000 in
theorem asked5_ (a b : Nat) (w : World) : Calls Try.prog 63 #[.int .i64 5, .int .i64 (a : Int), .int .i64 (b : Int)] w fun e w' => e = .returned (.bool (decide (a ≠ b))) ∧ w' = w := by
  by_cases c : a ≠ b
  · have t : (a : Int) ≠ (b : Int) := by omega
    have t' : ((a : Int) == (b : Int)) = decide (a = b) := by by_cases e : a = b <;> simp [e] <;> omega
    rw [decide_eq_true c]
    go_enter Try.func63, Try.ntmps63
    go_wp2
    exact bodyPost_ret (v := .bool true) (by simp [results, Try.results63, go_sem] <;> omega) rfl ⟨rfl, rfl⟩
  · have t : ¬ ((a : Int) ≠ (b : Int)) := by omega
    have t' : ((a : Int) == (b : Int)) = decide (a = b) := by by_cases e : a = b <;> simp [e] <;> omega
    rw [decide_eq_false c]
    go_enter Try.func63, Try.ntmps63
    go_wp2
    exact bodyPost_ret (v := .bool false) (by simp [results, Try.results63, go_sem] <;> omega) rfl ⟨rfl, rfl⟩
end Go.Proofs.Ythajkngngdnidaa
