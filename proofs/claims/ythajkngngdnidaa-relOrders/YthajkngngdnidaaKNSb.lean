import Derived.Test.YthajkngngdnidaaProg
import Derived.Test.YthajkngngdnidaaKXA0
import Derived.Test.YthajkngngdnidaaKQM
import Derived.Test.YthajkngngdnidaaKQA
import Derived.Test.YthajkngngdnidaaKXQU
import Derived.Test.YthajkngngdnidaaKEM
import Derived.Test.YthajkngngdnidaaKEN
import Derived.Test.YthajkngngdnidaaKEA
import Derived.Test.YthajkngngdnidaaKEB
import Derived.Test.YthajkngngdnidaaKEH
import Derived.Test.YthajkngngdnidaaKEK
import Derived.Test.YthajkngngdnidaaKEO
import Derived.Test.YthajkngngdnidaaKER
import Derived.Test.YthajkngngdnidaaKES
import Derived.Test.YthajkngngdnidaaKNRv
import Derived.Test.YthajkngngdnidaaKNRm
import Derived.Test.YthajkngngdnidaaKNRa
import Derived.Test.YthajkngngdnidaaKNRb
import Derived.Test.YthajkngngdnidaaKNRc
import Derived.Test.YthajkngngdnidaaKNRd
import Derived.Test.YthajkngngdnidaaKNRe
import Derived.Test.YthajkngngdnidaaKNRf
import Derived.Test.YthajkngngdnidaaKNRg
import Derived.Test.YthajkngngdnidaaKNRh
import Derived.Test.YthajkngngdnidaaKNRi
import Derived.Test.YthajkngngdnidaaKNRj
import Derived.Test.YthajkngngdnidaaKNCo
import Derived.Test.YthajkngngdnidaaKNCm
import Derived.Test.YthajkngngdnidaaKNCa
import Derived.Test.YthajkngngdnidaaKNCb
import Derived.Test.YthajkngngdnidaaKNCc
import Derived.Test.YthajkngngdnidaaKNCd
import Derived.Test.YthajkngngdnidaaKNCe
import Derived.Test.YthajkngngdnidaaKNCf
import Derived.Test.YthajkngngdnidaaKNCg
import Derived.Test.YthajkngngdnidaaKNCh
import Derived.Test.YthajkngngdnidaaKNCi
import Derived.Test.YthajkngngdnidaaKNCj
import Derived.WalkKit
import Derived.ProofKit
import Derived.RowKit3
import Derived.WalkSpells
import Derived.StillTactics
import Derived.Deep.QuietTactic
import Derived.BigQuiet
import Derived.Below
import Derived.Deep.OwnRows
import Derived.OwnWalk
import Derived.Laws.BitsAllLaws
import Derived.Laws.Slices
import Derived.Laws.Bits64b
import Derived.Laws.FloatArith
import Derived.Deep.RegionHeld3
import Derived.Deep.CutRange
import Derived.Deep.DeepCutAuto
namespace Go.Proofs.Ythajkngngdnidaa
open Go.RowKit
set_option maxRecDepth 20000 in
set_option maxHeartbeats 4000000 in
theorem rordsA_ (X1 X2 Y1 Y2 : Int) (A1 A2 B1 B2 : Nat) (V0 : Bool) (p0 : ∀ w : World, Calls Try.prog 30 #[.agg #[.float .f64 A1, .float .f64 A2], .agg #[.float .f64 B1, .float .f64 B2]] w fun e w' => e = .returned (.bool V0) ∧ Kp w w') (r0 : ∀ w : World, Calls Try.prog 31 #[.agg #[.int .u64 X1, .int .u64 X2], .agg #[.int .u64 Y1, .int .u64 Y2]] w fun e w' => e = .returned (.bool V0) ∧ Kp w w') (V1 : Bool) (p1 : ∀ w : World, Calls Try.prog 32 #[.agg #[.float .f64 A1, .float .f64 A2], .agg #[.float .f64 B1, .float .f64 B2]] w fun e w' => e = .returned (.bool V1) ∧ Kp w w') (r1 : ∀ w : World, Calls Try.prog 33 #[.agg #[.int .u64 X1, .int .u64 X2], .agg #[.int .u64 Y1, .int .u64 Y2]] w fun e w' => e = .returned (.bool V1) ∧ Kp w w') (V2 : Bool) (p2 : ∀ w : World, Calls Try.prog 34 #[.agg #[.float .f64 A1, .float .f64 A2], .agg #[.float .f64 B1, .float .f64 B2]] w fun e w' => e = .returned (.bool V2) ∧ Kp w w') (r2 : ∀ w : World, Calls Try.prog 35 #[.agg #[.int .u64 X1, .int .u64 X2], .agg #[.int .u64 Y1, .int .u64 Y2]] w fun e w' => e = .returned (.bool V2) ∧ Kp w w') (V3 : Bool) (p3 : ∀ w : World, Calls Try.prog 36 #[.agg #[.float .f64 A1, .float .f64 A2], .agg #[.float .f64 B1, .float .f64 B2]] w fun e w' => e = .returned (.bool V3) ∧ Kp w w') (r3 : ∀ w : World, Calls Try.prog 37 #[.agg #[.int .u64 X1, .int .u64 X2], .agg #[.int .u64 Y1, .int .u64 Y2]] w fun e w' => e = .returned (.bool V3) ∧ Kp w w') (hin1 : ∀ w : World, Calls Try.prog 11 #[.agg #[.int .u64 X1, .int .u64 X2]] w fun e w' => e = .returned (.agg #[.float .f64 A1, .float .f64 A2]) ∧ Kp w w') (hin2 : ∀ w : World, Calls Try.prog 11 #[.agg #[.int .u64 Y1, .int .u64 Y2]] w fun e w' => e = .returned (.agg #[.float .f64 B1, .float .f64 B2]) ∧ Kp w w') (w : World) : Calls Try.prog 7 #[.agg #[.int .u64 X1, .int .u64 X2], .agg #[.int .u64 Y1, .int .u64 Y2]] w fun e w' => e = .returned (.bool true) ∧ Kp w w' := by
  go_enter Try.func7, Try.ntmps7
  go_upto_region 3 with (first | (go_at_call_of 11 (Value.agg #[.int .u64 X1, .int .u64 X2]); refine (hin1 _).mono ?_; rintro e w2 ⟨rfl, g2⟩; have k2 : Kp w w2 := Kp.trans (((Kp.refl w).alloc _).alloc _) g2; have s2 := H48.keep (H48.new w (.int .u64 X1) (.int .u64 X2) (.int .u64 Y1) (.int .u64 Y2) 26 26) g2; have y00 := fun o => (H48.keep s2 ((Kp.refl w2).alloc o)).2.1; have y01 := fun o => (H48.keep s2 ((Kp.refl w2).alloc o)).2.2.1) | (go_at_call_of 11 (Value.agg #[.int .u64 Y1, .int .u64 Y2]); refine (hin2 _).mono ?_; rintro e w3 ⟨rfl, g3⟩; have k3 := Kp.trans (k2.alloc _) g3; have s3 := H48.keep (H48.keep s2 ((Kp.refl w2).alloc _)) g3; have q03 := Fq.H2.keep (Fq.H2.new w2 (.float .f64 A1) (.float .f64 A2) 30) g3))
  have qa := Fq.H2.past q03 #[.float .f64 B1, .float .f64 B2] 30
  have qb := Fq.H2.new w3 (.float .f64 B1) (.float .f64 B2) 30
  have sx := H48.keep s3 ((Kp.refl w3).alloc (.cells #[.float .f64 B1, .float .f64 B2] 30))
  have kW := k3.alloc (.cells #[.float .f64 B1, .float .f64 B2] 30)
  generalize hW : w3.alloc (.cells #[.float .f64 B1, .float .f64 B2] 30) = W at qa qb sx kW ⊢
  generalize w2.heap.size = ba at qa ⊢
  generalize w3.heap.size = bb at qb ⊢
  clear hW k2 k3 s2 s3 g2 g3 y00 y01 q03 hin1 hin2
  refine Fq.wp_region_grow (by kernel_rfl) (by kernel_rfl) (fun ι _ G hG hall => ?_)
  have cc0 : ∀ n, (G n).cell? ⟨ba, 0, none⟩ = some (.float .f64 A1) := fun n => Fq.gkeep (hG n) qa.1
  have cc1 : ∀ n, (G n).cell? ⟨ba, 1, none⟩ = some (.float .f64 A2) := fun n => Fq.gkeep (hG n) qa.2.1
  have cc2 : ∀ n, (G n).cell? ⟨bb, 0, none⟩ = some (.float .f64 B1) := fun n => Fq.gkeep (hG n) qb.1
  have cc3 : ∀ n, (G n).cell? ⟨bb, 1, none⟩ = some (.float .f64 B2) := fun n => Fq.gkeep (hG n) qb.2.1
  have cc4 : ∀ n, (G n).cell? ⟨w.heap.size, 0, none⟩ = some (.int .u64 X1) := fun n => Fq.gkeep (hG n) sx.1.1
  have cc5 : ∀ n, (G n).cell? ⟨w.heap.size, 1, none⟩ = some (.int .u64 X2) := fun n => Fq.gkeep (hG n) sx.1.2.1
  have cc6 : ∀ n, (G n).cell? ⟨w.heap.size + 1, 0, none⟩ = some (.int .u64 Y1) := fun n => Fq.gkeep (hG n) sx.2.1
  have cc7 : ∀ n, (G n).cell? ⟨w.heap.size + 1, 1, none⟩ = some (.int .u64 Y2) := fun n => Fq.gkeep (hG n) sx.2.2.1
  repeat (go_big_quiet_step (first | (go_at_call 30; exact (p0 _).mono (fun e w' h => ⟨h.1, hall _ (Fq.gtrans (hG _) h.2)⟩)) | (go_at_call 31; exact (r0 _).mono (fun e w' h => ⟨h.1, hall _ (Fq.gtrans (hG _) h.2)⟩)) | (go_at_call 32; exact (p1 _).mono (fun e w' h => ⟨h.1, hall _ (Fq.gtrans (hG _) h.2)⟩)) | (go_at_call 33; exact (r1 _).mono (fun e w' h => ⟨h.1, hall _ (Fq.gtrans (hG _) h.2)⟩)) | (go_at_call 34; exact (p2 _).mono (fun e w' h => ⟨h.1, hall _ (Fq.gtrans (hG _) h.2)⟩)) | (go_at_call 35; exact (r2 _).mono (fun e w' h => ⟨h.1, hall _ (Fq.gtrans (hG _) h.2)⟩)) | (go_at_call 36; exact (p3 _).mono (fun e w' h => ⟨h.1, hall _ (Fq.gtrans (hG _) h.2)⟩)) | (go_at_call 37; exact (r3 _).mono (fun e w' h => ⟨h.1, hall _ (Fq.gtrans (hG _) h.2)⟩))))
  refine wpQuiet_nil ?_
  rintro _ ⟨nq, rfl⟩
  have gq : Kp W (G nq) := hG nq
  clear cc0 cc1 cc2 cc3 cc4 cc5 cc6 cc7 hall hG
  go_wp2
  exact bodyPost_ret (v := .bool true) (by simp [results, Try.results7, go_sem]) rfl ⟨rfl, (Kp.trans kW gq)⟩
theorem rords_ (a b c d : Nat) (ha : a < 18446744073709551616) (hb : b < 18446744073709551616) (hc : c < 18446744073709551616) (hd : d < 18446744073709551616) (w : World) : Calls Try.prog 7 #[.agg #[.int .u64 ((a : Nat) : Int), .int .u64 ((b : Nat) : Int)], .agg #[.int .u64 ((c : Nat) : Int), .int .u64 ((d : Nat) : Int)]] w fun e w' => e = .returned (.bool true) ∧ Kp w w' := by
  obtain ⟨L1, H1, r1⟩ := Rd.ex a b ha hb
  obtain ⟨L2, H2, r2⟩ := Rd.ex c d hc hd
  have hx := rread9_ a b L1 H1 r1
  have hy := rread9_ c d L2 H2 r2
  exact rordsA_ _ _ _ _ a b c d _ (less9_ a b c d L1 H1 L2 H2 r1 r2) (rless9_ _ _ _ _ L1 H1 L2 H2 r1.vd r2.vd hx hy) _ (strictless9_ a b c d L1 H1 L2 H2 r1 r2) (rsless9_ _ _ _ _ L1 H1 L2 H2 r1.vd r2.vd hx hy) _ (precedes9_ a b c d L1 H1 L2 H2 r1 r2) (rprec9_ _ _ _ _ L1 H1 L2 H2 r1.vd r2.vd hx hy) _ (sprec9_ a b c d L1 H1 L2 H2 r1 r2) (rsprec9_ _ _ _ _ L1 H1 L2 H2 r1.vd r2.vd hx hy) (in9_ a b) (in9_ c d) w
end Go.Proofs.Ythajkngngdnidaa
