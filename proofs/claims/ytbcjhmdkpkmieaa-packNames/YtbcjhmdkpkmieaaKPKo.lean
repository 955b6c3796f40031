import Derived.Test.YtbcjhmdkpkmieaaKPKl
namespace Go.Proofs.Ytbcjhmdkpkmieaa
open Go.RowKit
open Go
namespace B8
set_option maxRecDepth 20000 in
set_option maxHeartbeats 1000000 in
theorem rnai13_ (w : World) : Calls Try.prog 63 #[] w fun e w' => e = .returned (.agg #[.int .u64 9218868437227405312, .int .u64 18442240474082181120, .int .i64 0]) ∧ Kp w w' := by
  go_enter Try.func63, Try.ntmps63
  go_wp2_with (first | (go_at_call 60; refine (Fq.rempty_ _).mono ?_; rintro e w1 ⟨rfl, rfl⟩))
  exact bodyPost_ret (v := .agg #[.int .u64 9218868437227405312, .int .u64 18442240474082181120, .int .i64 0]) (by simp [results, Try.results63, go_sem]) rfl ⟨rfl, (by repeat (with_reducible (first | assumption | exact Kp.refl _ | apply Kp.drew | apply Kp.alloc | apply Kp.drewN | (refine Kp.setCell ?_ (by first | omega | (simp <;> omega)) _) | (refine Kp.trans ?_ (by assumption)))))⟩
end B8
end Go.Proofs.Ytbcjhmdkpkmieaa
