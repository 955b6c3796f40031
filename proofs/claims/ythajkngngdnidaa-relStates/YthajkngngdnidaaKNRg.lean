import Derived.Test.YthajkngngdnidaaProg
import Derived.Test.YthajkngngdnidaaKXA0
import Derived.Test.YthajkngngdnidaaKQM
import Derived.Test.YthajkngngdnidaaKQA
import Derived.Test.YthajkngngdnidaaKXQU
import Derived.Test.YthajkngngdnidaaKEM
import Derived.Test.YthajkngngdnidaaKEN
import Derived.Test.YthajkngngdnidaaKEA
import Derived.Test.YthajkngngdnidaaKEB
import Derived.Test.YthajkngngdnidaaKEH
import Derived.Test.YthajkngngdnidaaKEK
import Derived.Test.YthajkngngdnidaaKEO
import Derived.Test.YthajkngngdnidaaKER
import Derived.Test.YthajkngngdnidaaKES
import Derived.Test.YthajkngngdnidaaKNRv
import Derived.Test.YthajkngngdnidaaKNRm
import Derived.Test.YthajkngngdnidaaKNRa
import Derived.Test.YthajkngngdnidaaKNRb
import Derived.WalkKit
import Derived.ProofKit
import Derived.RowKit3
import Derived.WalkSpells
import Derived.StillTactics
import Derived.Deep.QuietTactic
import Derived.BigQuiet
import Derived.Below
import Derived.Deep.OwnRows
import Derived.OwnWalk
import Derived.Laws.BitsAllLaws
import Derived.Laws.Slices
import Derived.Laws.Bits64b
import Derived.Laws.FloatArith
import Derived.Deep.RegionHeld3
import Derived.Deep.CutRange
import Derived.Deep.DeepCutAuto
namespace Go.Proofs.Ythajkngngdnidaa
open Go.RowKit
set_option maxRecDepth 20000 in
set_option maxHeartbeats 4000000 in
theorem aboveA_ (L1 H1 L2 H2 : Nat) (V1 B1 B2 : Bool) (hv1 : ∀ w : World, Calls Try.prog 44 #[.agg #[.float .f64 L2, .float .f64 H2]] w fun e w' => e = .returned (.bool V1) ∧ Kp w w') (t1 : (FloatKind.f64.format.order H1 H2 == some Ordering.gt) = B1) (t2 : (FloatKind.f64.format.order H1 9218868437227405312 == some Ordering.eq) = B2) (w : World) : Calls Try.prog 52 #[.agg #[.float .f64 L1, .float .f64 H1], .agg #[.float .f64 L2, .float .f64 H2]] w fun e w' => e = .returned (.bool (V1 || (B1 || B2))) ∧ Kp w w' := by
  cases V1 <;> cases B1 <;> cases B2
  all_goals (
    go_enter Try.func52, Try.ntmps52
    go_wp2
    refine Fq.wp_region_grow (by kernel_rfl) (by kernel_rfl) (fun ι _ G hG hall => ?_)
    have cc0 : ∀ n, (G n).cell? ⟨w.heap.size, 0, none⟩ = some (.float .f64 L1) := fun n => Fq.gkeep (hG n) (by simp [go_sem])
    have cc1 : ∀ n, (G n).cell? ⟨w.heap.size, 1, none⟩ = some (.float .f64 H1) := fun n => Fq.gkeep (hG n) (by simp [go_sem])
    have cc2 : ∀ n, (G n).cell? ⟨w.heap.size + 1, 0, none⟩ = some (.float .f64 L2) := fun n => Fq.gkeep (hG n) (by simp [go_sem])
    have cc3 : ∀ n, (G n).cell? ⟨w.heap.size + 1, 1, none⟩ = some (.float .f64 H2) := fun n => Fq.gkeep (hG n) (by simp [go_sem])
    have kG : ∀ n, Kp w (G n) := fun n => Kp.trans (((Kp.refl w).alloc _).alloc _) (hG n)
    repeat (go_big_quiet_step (first | (go_at_call 44; exact (hv1 _).mono (fun e w' h => ⟨h.1, hall _ (Fq.gtrans (hG _) h.2)⟩)) | (go_at_call 57; exact (Fq.inf1_ _).mono (fun e w' h => ⟨h.1, hall _ (by rw [h.2]; exact hG _)⟩))))
    refine wpQuiet_nil ?_
    rintro _ ⟨nq, rfl⟩
    have gq := kG nq
    clear cc0 cc1 cc2 cc3 hall hG kG
    go_wp2
    exact bodyPost_ret (v := .bool _) (by simp [results, Try.results52, go_sem]) rfl ⟨rfl, gq⟩)
theorem above9_ (L1 H1 L2 H2 : Int) (h1 : VdZ L1 H1) (h2 : VdZ L2 H2) (w : World) : Calls Try.prog 52 #[.agg #[.float .f64 (pw L1), .float .f64 (pw H1)], .agg #[.float .f64 (pw L2), .float .f64 (pw H2)]] w fun e w' => e = .returned (.bool (decide (L2 = 9218868437227405312 ∨ H2 < H1 ∨ H1 = 9218868437227405312))) ∧ Kp w w' := by
  have h := aboveA_ (pw L1) (pw H1) (pw L2) (pw H2) _ _ _ (void9_ L2 H2 h2) rfl rfl w
  have e := peq9 H1 9218868437227405312 h1.hi (by unfold BdZ; omega)
  rw [pw_I] at e
  rw [pgt9 H1 H2 h1.hi h2.hi, e] at h
  rw [show decide (L2 = 9218868437227405312 ∨ H2 < H1 ∨ H1 = 9218868437227405312) = (decide (L2 = 9218868437227405312) || (decide (H2 < H1) || decide (H1 = 9218868437227405312))) from by simp]
  exact h
end Go.Proofs.Ythajkngngdnidaa
