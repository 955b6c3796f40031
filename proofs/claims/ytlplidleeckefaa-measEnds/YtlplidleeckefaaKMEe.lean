import Derived.Test.YtlplidleeckefaaProg
import Derived.Test.YtlplidleeckefaaKXA0
import Derived.Test.YtlplidleeckefaaKXM
import Derived.Test.YtlplidleeckefaaKXY
import Derived.Test.YtlplidleeckefaaKXQF
import Derived.Test.YtlplidleeckefaaKQA
import Derived.Test.YtlplidleeckefaaKXQU
import Derived.Test.YtlplidleeckefaaKXEA
import Derived.Test.YtlplidleeckefaaKXEE
import Derived.Test.YtlplidleeckefaaKMR7Q
import Derived.Test.YtlplidleeckefaaKXMR
import Derived.Test.YtlplidleeckefaaKXM3
import Derived.Test.YtlplidleeckefaaKXO
import Derived.Test.YtlplidleeckefaaKXO3
import Derived.Test.YtlplidleeckefaaKMEa
import Derived.Test.YtlplidleeckefaaKMEi
import Derived.WalkKit
import Derived.ProofKit
import Derived.RowKit3
import Derived.WalkSpells
import Derived.StillTactics
import Derived.Deep.QuietTactic
import Derived.BigQuiet
import Derived.Below
import Derived.Deep.OwnRows
import Derived.OwnWalk
import Derived.Laws.BitsAllLaws
import Derived.Laws.Slices
import Derived.Laws.Bits64b
import Derived.Laws.FloatArith
import Derived.Deep.RegionHeld3
namespace Go.Proofs.Ytlplidleeckefaa
open Go.RowKit
set_option maxRecDepth 20000 in
set_option maxHeartbeats 4000000 in
theorem mends_ (a b : Nat) (ha : a < 18446744073709551616) (hb : b < 18446744073709551616) (w : World) : Calls Try.prog 3 #[.agg #[.int .u64 ((a : Nat) : Int), .int .u64 ((b : Nat) : Int)]] w fun e w' => e = .returned (.bool true) ∧ Kp w w' := by
  have h1 := in8_ a b
  have hP := meinf_ a b ha hb
  have hR := rinf8_ a b ha hb
  have hP2 := mesup_ a b ha hb
  have hR2 := rsup8_ a b ha hb
  have hI : ∀ w : World, Calls Try.prog 5 #[.float .f64 (Fq.rlo a b), .int .u64 ((Fq.rlo a b : Nat) : Int)] w fun e w' => e = .returned (.bool true) ∧ Kp w w' := by
    obtain ⟨n, m, l1, e1⟩ := rlo_w a b ha hb
    rw [e1]
    exact fun w => (is8_ n m l1 w).mono (fun e w' h => ⟨h.1, by rw [h.2]; exact Kp.refl _⟩)
  have hJ : ∀ w : World, Calls Try.prog 5 #[.float .f64 (Fq.rhi a b), .int .u64 ((Fq.rhi a b : Nat) : Int)] w fun e w' => e = .returned (.bool true) ∧ Kp w w' := by
    obtain ⟨n, m, l1, e1⟩ := rhi_w a b ha hb
    rw [e1]
    exact fun w => (is8_ n m l1 w).mono (fun e w' h => ⟨h.1, by rw [h.2]; exact Kp.refl _⟩)
  clear ha hb
  generalize Fq.rlo a b = LO at hP hR hI
  generalize Fq.rhi a b = HI at hP2 hR2 hJ
  generalize (LO : Int) = LI at hR hI
  generalize (HI : Int) = HJ at hR2 hJ
  generalize (a : Int) = X at h1 hR hR2 ⊢
  generalize (b : Int) = Y at h1 hR hR2 ⊢
  go_enter Try.func3, Try.ntmps3
  go_wp2
  refine Fq.wp_region_grow (by kernel_rfl) (by kernel_rfl) (fun ι _ G hG hall => ?_)
  have cc0 : ∀ n, (G n).cell? ⟨w.heap.size, 0, none⟩ = some (.int .u64 X) := fun n => Fq.gkeep (hG n) (by simp [go_sem])
  have cc1 : ∀ n, (G n).cell? ⟨w.heap.size, 1, none⟩ = some (.int .u64 Y) := fun n => Fq.gkeep (hG n) (by simp [go_sem])
  repeat (go_big_quiet_step (first | (go_at_call 7; exact (h1 _).mono (fun e w' h => ⟨h.1, hall _ (Fq.gtrans (hG _) h.2)⟩)) | (go_at_call 6; exact (hP _).mono (fun e w' h => ⟨h.1, hall _ (Fq.gtrans (hG _) h.2)⟩)) | (go_at_call 8; exact (hR _).mono (fun e w' h => ⟨h.1, hall _ (Fq.gtrans (hG _) h.2)⟩)) | (go_at_call 9; exact (hP2 _).mono (fun e w' h => ⟨h.1, hall _ (Fq.gtrans (hG _) h.2)⟩)) | (go_at_call 10; exact (hR2 _).mono (fun e w' h => ⟨h.1, hall _ (Fq.gtrans (hG _) h.2)⟩)) | (go_at_call_of 5 (Value.float .f64 LO); exact (hI _).mono (fun e w' h => ⟨h.1, hall _ (Fq.gtrans (hG _) h.2)⟩)) | (go_at_call_of 5 (Value.float .f64 HI); exact (hJ _).mono (fun e w' h => ⟨h.1, hall _ (Fq.gtrans (hG _) h.2)⟩))))
  refine wpQuiet_nil ?_
  rintro _ ⟨nq, rfl⟩
  have gq : Kp w (G nq) := Kp.trans ((Kp.refl w).alloc _) (hG nq)
  clear cc0 cc1 hall hG
  go_wp2
  exact bodyPost_ret (v := .bool true) (by simp [results, Try.results3, go_sem]) rfl ⟨rfl, gq⟩
end Go.Proofs.Ytlplidleeckefaa
