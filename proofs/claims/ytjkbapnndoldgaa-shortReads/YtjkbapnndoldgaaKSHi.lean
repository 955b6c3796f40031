import Derived.Test.YtjkbapnndoldgaaKNRb
import Derived.Test.YtjkbapnndoldgaaKSHm
namespace Go.Proofs.Ytjkbapnndoldgaa
open Go.RowKit
set_option linter.unusedVariables false
theorem fb32_ (x : Nat) (w : World) : (callFunc 30 #[.float .f32 x]).run Try.prog w = .ok (.value (.int .u32 (x : Int))) w := by kernel_rfl
theorem ff32_ (x : Nat) (w : World) : (callFunc 32 #[.int .u32 (x : Int)]).run Try.prog w = .ok (.value (.float .f32 x)) w := by kernel_rfl
set_option maxRecDepth 20000 in
set_option maxHeartbeats 1000000 in
theorem inS_ (a b : Nat) (w : World) : Calls Try.prog 9 #[.agg #[.int .u32 ((a : Nat) : Int), .int .u32 ((b : Nat) : Int)]] w fun e w' => e = .returned (.agg #[.float .f32 a, .float .f32 b]) ∧ Kp w w' := by
  have h1 := ff32_ a
  have h2 := ff32_ b
  generalize (a : Int) = X at h1 ⊢
  generalize (b : Int) = Y at h2 ⊢
  go_enter Try.func9, Try.ntmps9
  go_wp2
  go_region_held3 (fun w' => w'.cell? ⟨w.heap.size, 0, none⟩ = some (.int .u32 X) ∧ w'.cell? ⟨w.heap.size, 1, none⟩ = some (.int .u32 Y)) (simp [go_sem]) (fail)
  go_wp2
  exact bodyPost_ret (v := .agg #[.float .f32 a, .float .f32 b]) (by simp [results, Try.results9, go_sem]) rfl ⟨rfl, (by repeat (with_reducible (first | assumption | exact Kp.refl _ | apply Kp.drew | apply Kp.alloc | apply Kp.drewN | (refine Kp.setCell ?_ (by first | omega | (simp <;> omega)) _) | (refine Kp.trans ?_ (by assumption)))))⟩
set_option maxRecDepth 20000 in
set_option maxHeartbeats 1000000 in
theorem outS_ (a b : Nat) (w : World) : Calls Try.prog 7 #[.agg #[.float .f32 a, .float .f32 b]] w fun e w' => e = .returned (.agg #[.int .u32 ((a : Nat) : Int), .int .u32 ((b : Nat) : Int)]) ∧ Kp w w' := by
  have h1 := fb32_ a
  have h2 := fb32_ b
  generalize (a : Int) = X at h1 ⊢
  generalize (b : Int) = Y at h2 ⊢
  go_enter Try.func7, Try.ntmps7
  go_wp2
  go_region_held3 (fun w' => w'.cell? ⟨w.heap.size, 0, none⟩ = some (.float .f32 a) ∧ w'.cell? ⟨w.heap.size, 1, none⟩ = some (.float .f32 b)) (simp [go_sem, World.cell?_alloc_past]) (fail)
  go_wp2
  exact bodyPost_ret (v := .agg #[.int .u32 X, .int .u32 Y]) (by simp [results, Try.results7, go_sem]) rfl ⟨rfl, (by repeat (with_reducible (first | assumption | exact Kp.refl _ | apply Kp.drew | apply Kp.alloc | apply Kp.drewN | (refine Kp.setCell ?_ (by first | omega | (simp <;> omega)) _) | (refine Kp.trans ?_ (by assumption)))))⟩
end Go.Proofs.Ytjkbapnndoldgaa
