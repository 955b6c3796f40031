import Derived.Test.YtbcjhmdkpkmieaaKDCb
import Derived.Test.YtbcjhmdkpkmieaaKPKb
import Derived.Test.YtbcjhmdkpkmieaaKPKd
import Derived.Test.YtbcjhmdkpkmieaaKPKi
namespace Go.Proofs.Ytbcjhmdkpkmieaa
open Go.RowKit
set_option maxRecDepth 20000 in
set_option maxHeartbeats 1000000 in
theorem out9_ (a b : Nat) (w : World) : Calls Try.prog 25 #[.agg #[.float .f64 a, .float .f64 b]] w fun e w' => e = .returned (.agg #[.int .u64 ((a : Nat) : Int), .int .u64 ((b : Nat) : Int)]) ∧ Kp w w' := by
  have h1 := Fq.fb64 a
  have h2 := Fq.fb64 b
  generalize (a : Int) = X at h1 ⊢
  generalize (b : Int) = Y at h2 ⊢
  go_enter Try.func25, Try.ntmps25
  go_wp2
  go_region_held3 (fun w' => w'.cell? ⟨w.heap.size, 0, none⟩ = some (.float .f64 a) ∧ w'.cell? ⟨w.heap.size, 1, none⟩ = some (.float .f64 b)) (simp [go_sem, World.cell?_alloc_past]) (fail)
  go_wp2
  exact bodyPost_ret (v := .agg #[.int .u64 X, .int .u64 Y]) (by simp [results, Try.results25, go_sem]) rfl ⟨rfl, (by repeat (with_reducible (first | assumption | exact Kp.refl _ | apply Kp.drew | apply Kp.alloc | apply Kp.drewN | (refine Kp.setCell ?_ (by first | omega | (simp <;> omega)) _) | (refine Kp.trans ?_ (by assumption)))))⟩
set_option maxRecDepth 20000 in
set_option maxHeartbeats 1000000 in
theorem doutA_ (X1 X2 D : Int) (A1 A2 : Nat) (hin : ∀ w : World, Calls Try.prog 25 #[.agg #[.float .f64 A1, .float .f64 A2]] w fun e w' => e = .returned (.agg #[.int .u64 X1, .int .u64 X2]) ∧ Kp w w') (w : World) : Calls Try.prog 28 #[.agg #[.float .f64 A1, .float .f64 A2, .int .i64 D]] w fun e w' => e = .returned (.agg #[.int .u64 X1, .int .u64 X2, .int .i64 D]) ∧ Kp w w' := by
  go_enter Try.func28, Try.ntmps28
  go_wp2
  go_region_held3 (fun w' => w'.cell? ⟨w.heap.size, 0, none⟩ = some (.float .f64 A1) ∧ w'.cell? ⟨w.heap.size, 1, none⟩ = some (.float .f64 A2) ∧ w'.cell? ⟨w.heap.size, 2, none⟩ = some (.int .i64 D)) (first | (with_reducible exact ⟨x0, x1, x2⟩) | (simp [go_sem, x0, x1, x2]; done) | (simp [go_sem])) (first | (go_at_call 25; refine (hin _).mono ?_; rintro e w1 ⟨rfl, g1⟩; have k1 : Kp w w1 := Kp.trans ((((Kp.refl w).alloc _).alloc _).drew) g1; obtain ⟨x0, x1, x2, x3, x4, x5⟩ := H3c.keep (H3c.keep (H3c.keep (H3c.new w (.float .f64 A1) (.float .f64 A2) (.int .i64 D) 31) ((Kp.refl _).alloc (.cells #[.int .u64 0, .int .u64 0, .int .i64 0] 47))) (Kp.drew (Kp.refl _))) g1; obtain ⟨r0, r1, r2, r3, r4, r5⟩ := H3c.keep (H3c.keep (H3c.two w #[.float .f64 A1, .float .f64 A2, .int .i64 D] (.int .u64 0) (.int .u64 0) (.int .i64 0) 31 47) (Kp.drew (Kp.refl _))) g1))
  go_wp2
  exact bodyPost_ret (v := .agg #[.int .u64 X1, .int .u64 X2, .int .i64 D]) (by simp [results, Try.results28, go_sem, r0, r1, r2]) rfl ⟨rfl, (((k1.setCell (by simp) _).setCell (by simp) _).setCell (by simp) _)⟩
theorem dout_ (a b : Nat) (D : Int) (w : World) : Calls Try.prog 28 #[.agg #[.float .f64 a, .float .f64 b, .int .i64 D]] w fun e w' => e = .returned (.agg #[.int .u64 ((a : Nat) : Int), .int .u64 ((b : Nat) : Int), .int .i64 D]) ∧ Kp w w' := doutA_ _ _ D a b (out9_ a b) w
end Go.Proofs.Ytbcjhmdkpkmieaa
