import Derived.Test.YtjkbapnndoldgaaKSHr
namespace Go.Proofs.Ytjkbapnndoldgaa
open Go.RowKit

def pI (x : Int) : Int := ((pw x : Nat) : Int)
theorem rread9_ (a b : Nat) (L H : Int) (h : Rd a b L H) (w : World) : Calls Try.prog 34 #[.agg #[.int .u64 ((a : Nat) : Int), .int .u64 ((b : Nat) : Int)]] w fun e w' => e = .returned (.agg #[.int .u64 (pI L), .int .u64 (pI H)]) ∧ Kp w w' := by
  have e1 := h.2.2.2.1
  have e2 := h.2.2.2.2
  unfold pI
  rw [← e1, ← e2]
  obtain ⟨n, m, hm, rfl⟩ := Fq.exD a h.1
  obtain ⟨n', m', hm', rfl⟩ := Fq.exD b h.2.1
  exact Fq.rread_ n n' m m' hm hm' w
theorem rempty9_ (w : World) : Calls Try.prog 43 #[] w fun e w' => e = .returned (.agg #[.int .u64 9218868437227405312, .int .u64 18442240474082181120]) ∧ Kp w w' := by
  refine (Fq.rempty_ w).mono ?_
  rintro e w' ⟨rfl, rfl⟩
  exact ⟨rfl, (Kp.refl w).alloc _⟩
set_option linter.unusedVariables false
set_option maxRecDepth 20000 in
set_option maxHeartbeats 1000000 in
theorem inL_ (a b : Nat) (w : World) : Calls Try.prog 14 #[.agg #[.int .u64 ((a : Nat) : Int), .int .u64 ((b : Nat) : Int)]] w fun e w' => e = .returned (.agg #[.float .f64 a, .float .f64 b]) ∧ Kp w w' := by
  have h1 := Fq.ff64 a
  have h2 := Fq.ff64 b
  generalize (a : Int) = X at h1 ⊢
  generalize (b : Int) = Y at h2 ⊢
  go_enter Try.func14, Try.ntmps14
  go_wp2
  go_region_held3 (fun w' => w'.cell? ⟨w.heap.size, 0, none⟩ = some (.int .u64 X) ∧ w'.cell? ⟨w.heap.size, 1, none⟩ = some (.int .u64 Y)) (simp [go_sem]) (fail)
  go_wp2
  exact bodyPost_ret (v := .agg #[.float .f64 a, .float .f64 b]) (by simp [results, Try.results14, go_sem]) rfl ⟨rfl, (by repeat (with_reducible (first | assumption | exact Kp.refl _ | apply Kp.drew | apply Kp.alloc | apply Kp.drewN | (refine Kp.setCell ?_ (by first | omega | (simp <;> omega)) _) | (refine Kp.trans ?_ (by assumption)))))⟩
theorem fb32_ (x : Nat) (w : World) : (callFunc 30 #[.float .f32 x]).run Try.prog w = .ok (.value (.int .u32 (x : Int))) w := by kernel_rfl
set_option maxRecDepth 20000 in
set_option maxHeartbeats 1000000 in
theorem outS_ (a b : Nat) (w : World) : Calls Try.prog 7 #[.agg #[.float .f32 a, .float .f32 b]] w fun e w' => e = .returned (.agg #[.int .u32 ((a : Nat) : Int), .int .u32 ((b : Nat) : Int)]) ∧ Kp w w' := by
  have h1 := fb32_ a
  have h2 := fb32_ b
  generalize (a : Int) = X at h1 ⊢
  generalize (b : Int) = Y at h2 ⊢
  go_enter Try.func7, Try.ntmps7
  go_wp2
  go_region_held3 (fun w' => w'.cell? ⟨w.heap.size, 0, none⟩ = some (.float .f32 a) ∧ w'.cell? ⟨w.heap.size, 1, none⟩ = some (.float .f32 b)) (simp [go_sem, World.cell?_alloc_past]) (fail)
  go_wp2
  exact bodyPost_ret (v := .agg #[.int .u32 X, .int .u32 Y]) (by simp [results, Try.results7, go_sem]) rfl ⟨rfl, (by repeat (with_reducible (first | assumption | exact Kp.refl _ | apply Kp.drew | apply Kp.alloc | apply Kp.drewN | (refine Kp.setCell ?_ (by first | omega | (simp <;> omega)) _) | (refine Kp.trans ?_ (by assumption)))))⟩

set_option linter.unusedVariables false
theorem cnvP_ (z : Int) (h : Sg.BdZ z) (w : World) : (convert 26 38 (.float .f32 (Sg.pw z))).run Try.prog w = .ok (.float .f64 (pw (wz z))) w := by
  have g := cnvW_ (decide (z < 0)) z.natAbs (Sg.abs_pw z h) w
  rw [wd_pw _ _ (Sg.abs_pw z h) (fun c => by have := of_decide_eq_true c; omega), Sg.plz_pw] at g
  exact g
end Go.Proofs.Ytjkbapnndoldgaa
