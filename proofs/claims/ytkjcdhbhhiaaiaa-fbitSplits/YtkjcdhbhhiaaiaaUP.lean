import Derived.Test.YtkjcdhbhhiaaiaaProg
import Derived.Test.YtkjcdhbhhiaaiaaM
import Derived.Test.YtkjcdhbhhiaaiaaA
import Derived.Test.YtkjcdhbhhiaaiaaN
import Derived.WalkKit
import Derived.ProofKit
import Derived.RowKit3
import Derived.Deep.RegionHeld3
import Derived.WalkSpells
import Derived.StillTactics
import Derived.Laws.FloatArith
import Derived.Deep.QuietTactic
import Derived.BigQuiet
namespace Go.Proofs.Ytkjcdhbhhiaaiaa
open Go.RowKit
set_option maxRecDepth 20000 in
set_option maxHeartbeats 1000000 in
theorem told_ (wide : Bool) (v : Int) (a o : Bool) (s x : Int) (h : ∀ w : World, Calls Try.prog 22 #[.bool wide, .int .u64 v] w fun e w' => e = .returned (.tuple #[.bool a, .int .u64 s, .int .i64 x, .bool o]) ∧ Grown w w') (w : World) :
    Calls Try.prog 6 #[.bool wide, .int .u64 v] w fun e w' => e = .returned (.agg #[.bool a, .int .u64 s, .int .i64 x, .bool o]) ∧ Grown w w' := by
  go_enter Try.func6, Try.ntmps6
  go_wp2_with fail
  refine (h _).mono ?_; rintro e w1 ⟨rfl, g1⟩
  have k0 := gkeep g1 (b := w.heap.size) (o := 0) (v := .bool false) (by simp [go_sem])
  have z0 : w1.frozen? ⟨w.heap.size, 0, none⟩ = false := by rw [g1.2.1]; simp [go_sem]
  have k1 := gkeep g1 (b := w.heap.size) (o := 1) (v := .int .u64 0) (by simp [go_sem])
  have z1 : w1.frozen? ⟨w.heap.size, 1, none⟩ = false := by rw [g1.2.1]; simp [go_sem]
  have k2 := gkeep g1 (b := w.heap.size) (o := 2) (v := .int .i64 0) (by simp [go_sem])
  have z2 : w1.frozen? ⟨w.heap.size, 2, none⟩ = false := by rw [g1.2.1]; simp [go_sem]
  have k3 := gkeep g1 (b := w.heap.size) (o := 3) (v := .bool false) (by simp [go_sem])
  have z3 : w1.frozen? ⟨w.heap.size, 3, none⟩ = false := by rw [g1.2.1]; simp [go_sem]
  go_wp2
  exact bodyPost_ret (v := .agg #[.bool a, .int .u64 s, .int .i64 x, .bool o]) (by simp [results, Try.results6, go_sem] <;> simp [go_sem, *]) rfl ⟨rfl, (by repeat (with_reducible (first | assumption | exact Grown.refl _ | apply Grown.drew | apply Grown.alloc | apply gdrewN | (refine Grown.setCell ?_ (Nat.le_refl _) _) | (refine gtrans ?_ (by assumption)))))⟩

set_option maxRecDepth 20000 in
set_option maxHeartbeats 1000000 in
theorem split64_ (v : Nat) (a o : Bool) (s x : Int) (h : ∀ w : World, Calls Try.prog 23 #[.float .f64 v] w fun e w' => e = .returned (.tuple #[.bool a, .int .u64 s, .int .i64 x, .bool o]) ∧ Grown w w') (w : World) :
    Calls Try.prog 7 #[.int .u64 (v : Int)] w fun e w' => e = .returned (.agg #[.bool a, .int .u64 s, .int .i64 x, .bool o]) ∧ Grown w w' := by
  have hl := long_w v
  go_enter Try.func7, Try.ntmps7
  go_wp2_with fail
  refine (hl _).mono ?_; rintro e w' ⟨rfl, rfl⟩
  go_wp2_with fail
  refine (h _).mono ?_; rintro e w1 ⟨rfl, g1⟩
  have k0 := gkeep g1 (b := w.heap.size) (o := 0) (v := .bool false) (by simp [go_sem])
  have z0 : w1.frozen? ⟨w.heap.size, 0, none⟩ = false := by rw [g1.2.1]; simp [go_sem]
  have k1 := gkeep g1 (b := w.heap.size) (o := 1) (v := .int .u64 0) (by simp [go_sem])
  have z1 : w1.frozen? ⟨w.heap.size, 1, none⟩ = false := by rw [g1.2.1]; simp [go_sem]
  have k2 := gkeep g1 (b := w.heap.size) (o := 2) (v := .int .i64 0) (by simp [go_sem])
  have z2 : w1.frozen? ⟨w.heap.size, 2, none⟩ = false := by rw [g1.2.1]; simp [go_sem]
  have k3 := gkeep g1 (b := w.heap.size) (o := 3) (v := .bool false) (by simp [go_sem])
  have z3 : w1.frozen? ⟨w.heap.size, 3, none⟩ = false := by rw [g1.2.1]; simp [go_sem]
  go_wp2
  exact bodyPost_ret (v := .agg #[.bool a, .int .u64 s, .int .i64 x, .bool o]) (by simp [results, Try.results7, go_sem] <;> simp [go_sem, *]) rfl ⟨rfl, (by repeat (with_reducible (first | assumption | exact Grown.refl _ | apply Grown.drew | apply Grown.alloc | apply gdrewN | (refine Grown.setCell ?_ (Nat.le_refl _) _) | (refine gtrans ?_ (by assumption)))))⟩

set_option maxRecDepth 20000 in
set_option maxHeartbeats 1000000 in
theorem splitFar_ (v : Nat) (a o : Bool) (s x : Int) (h : ∀ w : World, Calls Try.prog 25 #[.float .f64 v] w fun e w' => e = .returned (.tuple #[.bool a, .int .u64 s, .int .i64 x, .bool o]) ∧ Grown w w') (w : World) :
    Calls Try.prog 8 #[.int .u64 (v : Int)] w fun e w' => e = .returned (.agg #[.bool a, .int .u64 s, .int .i64 x, .bool o]) ∧ Grown w w' := by
  have hl := long_w v
  go_enter Try.func8, Try.ntmps8
  go_wp2_with fail
  refine (hl _).mono ?_; rintro e w' ⟨rfl, rfl⟩
  go_wp2_with fail
  refine (h _).mono ?_; rintro e w1 ⟨rfl, g1⟩
  have k0 := gkeep g1 (b := w.heap.size) (o := 0) (v := .bool false) (by simp [go_sem])
  have z0 : w1.frozen? ⟨w.heap.size, 0, none⟩ = false := by rw [g1.2.1]; simp [go_sem]
  have k1 := gkeep g1 (b := w.heap.size) (o := 1) (v := .int .u64 0) (by simp [go_sem])
  have z1 : w1.frozen? ⟨w.heap.size, 1, none⟩ = false := by rw [g1.2.1]; simp [go_sem]
  have k2 := gkeep g1 (b := w.heap.size) (o := 2) (v := .int .i64 0) (by simp [go_sem])
  have z2 : w1.frozen? ⟨w.heap.size, 2, none⟩ = false := by rw [g1.2.1]; simp [go_sem]
  have k3 := gkeep g1 (b := w.heap.size) (o := 3) (v := .bool false) (by simp [go_sem])
  have z3 : w1.frozen? ⟨w.heap.size, 3, none⟩ = false := by rw [g1.2.1]; simp [go_sem]
  go_wp2
  exact bodyPost_ret (v := .agg #[.bool a, .int .u64 s, .int .i64 x, .bool o]) (by simp [results, Try.results8, go_sem] <;> simp [go_sem, *]) rfl ⟨rfl, (by repeat (with_reducible (first | assumption | exact Grown.refl _ | apply Grown.drew | apply Grown.alloc | apply gdrewN | (refine Grown.setCell ?_ (Nat.le_refl _) _) | (refine gtrans ?_ (by assumption)))))⟩

set_option maxRecDepth 20000 in
set_option maxHeartbeats 1000000 in
theorem split32_ (v : Nat) (a o : Bool) (s x : Int) (h : ∀ w : World, Calls Try.prog 26 #[.float .f32 v] w fun e w' => e = .returned (.tuple #[.bool a, .int .u64 s, .int .i64 x, .bool o]) ∧ Grown w w') (w : World) :
    Calls Try.prog 9 #[.int .u32 (v : Int)] w fun e w' => e = .returned (.agg #[.bool a, .int .u64 s, .int .i64 x, .bool o]) ∧ Grown w w' := by
  have hl := brief_w v
  go_enter Try.func9, Try.ntmps9
  go_wp2_with fail
  refine (hl _).mono ?_; rintro e w' ⟨rfl, rfl⟩
  go_wp2_with fail
  refine (h _).mono ?_; rintro e w1 ⟨rfl, g1⟩
  have k0 := gkeep g1 (b := w.heap.size) (o := 0) (v := .bool false) (by simp [go_sem])
  have z0 : w1.frozen? ⟨w.heap.size, 0, none⟩ = false := by rw [g1.2.1]; simp [go_sem]
  have k1 := gkeep g1 (b := w.heap.size) (o := 1) (v := .int .u64 0) (by simp [go_sem])
  have z1 : w1.frozen? ⟨w.heap.size, 1, none⟩ = false := by rw [g1.2.1]; simp [go_sem]
  have k2 := gkeep g1 (b := w.heap.size) (o := 2) (v := .int .i64 0) (by simp [go_sem])
  have z2 : w1.frozen? ⟨w.heap.size, 2, none⟩ = false := by rw [g1.2.1]; simp [go_sem]
  have k3 := gkeep g1 (b := w.heap.size) (o := 3) (v := .bool false) (by simp [go_sem])
  have z3 : w1.frozen? ⟨w.heap.size, 3, none⟩ = false := by rw [g1.2.1]; simp [go_sem]
  go_wp2
  exact bodyPost_ret (v := .agg #[.bool a, .int .u64 s, .int .i64 x, .bool o]) (by simp [results, Try.results9, go_sem] <;> simp [go_sem, *]) rfl ⟨rfl, (by repeat (with_reducible (first | assumption | exact Grown.refl _ | apply Grown.drew | apply Grown.alloc | apply gdrewN | (refine Grown.setCell ?_ (Nat.le_refl _) _) | (refine gtrans ?_ (by assumption)))))⟩

set_option maxRecDepth 20000 in
set_option maxHeartbeats 1000000 in
theorem splitNear_ (v : Nat) (a o : Bool) (s x : Int) (h : ∀ w : World, Calls Try.prog 28 #[.float .f32 v] w fun e w' => e = .returned (.tuple #[.bool a, .int .u64 s, .int .i64 x, .bool o]) ∧ Grown w w') (w : World) :
    Calls Try.prog 10 #[.int .u32 (v : Int)] w fun e w' => e = .returned (.agg #[.bool a, .int .u64 s, .int .i64 x, .bool o]) ∧ Grown w w' := by
  have hl := brief_w v
  go_enter Try.func10, Try.ntmps10
  go_wp2_with fail
  refine (hl _).mono ?_; rintro e w' ⟨rfl, rfl⟩
  go_wp2_with fail
  refine (h _).mono ?_; rintro e w1 ⟨rfl, g1⟩
  have k0 := gkeep g1 (b := w.heap.size) (o := 0) (v := .bool false) (by simp [go_sem])
  have z0 : w1.frozen? ⟨w.heap.size, 0, none⟩ = false := by rw [g1.2.1]; simp [go_sem]
  have k1 := gkeep g1 (b := w.heap.size) (o := 1) (v := .int .u64 0) (by simp [go_sem])
  have z1 : w1.frozen? ⟨w.heap.size, 1, none⟩ = false := by rw [g1.2.1]; simp [go_sem]
  have k2 := gkeep g1 (b := w.heap.size) (o := 2) (v := .int .i64 0) (by simp [go_sem])
  have z2 : w1.frozen? ⟨w.heap.size, 2, none⟩ = false := by rw [g1.2.1]; simp [go_sem]
  have k3 := gkeep g1 (b := w.heap.size) (o := 3) (v := .bool false) (by simp [go_sem])
  have z3 : w1.frozen? ⟨w.heap.size, 3, none⟩ = false := by rw [g1.2.1]; simp [go_sem]
  go_wp2
  exact bodyPost_ret (v := .agg #[.bool a, .int .u64 s, .int .i64 x, .bool o]) (by simp [results, Try.results10, go_sem] <;> simp [go_sem, *]) rfl ⟨rfl, (by repeat (with_reducible (first | assumption | exact Grown.refl _ | apply Grown.drew | apply Grown.alloc | apply gdrewN | (refine Grown.setCell ?_ (Nat.le_refl _) _) | (refine gtrans ?_ (by assumption)))))⟩

end Go.Proofs.Ytkjcdhbhhiaaiaa
