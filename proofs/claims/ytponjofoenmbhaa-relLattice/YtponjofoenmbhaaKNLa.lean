import Derived.Test.YtponjofoenmbhaaProg
import Derived.Test.YtponjofoenmbhaaKXA0
import Derived.Test.YtponjofoenmbhaaKQM
import Derived.Test.YtponjofoenmbhaaKQA
import Derived.Test.YtponjofoenmbhaaKXQU
import Derived.Test.YtponjofoenmbhaaKEM
import Derived.Test.YtponjofoenmbhaaKEN
import Derived.Test.YtponjofoenmbhaaKEA
import Derived.Test.YtponjofoenmbhaaKEB
import Derived.Test.YtponjofoenmbhaaKEH
import Derived.Test.YtponjofoenmbhaaKEK
import Derived.Test.YtponjofoenmbhaaKEO
import Derived.Test.YtponjofoenmbhaaKER
import Derived.Test.YtponjofoenmbhaaKES
import Derived.Test.YtponjofoenmbhaaKNRv
import Derived.Test.YtponjofoenmbhaaKNRm
import Derived.Test.YtponjofoenmbhaaKNRa
import Derived.Test.YtponjofoenmbhaaKNRb
import Derived.Test.YtponjofoenmbhaaKNRc
import Derived.Test.YtponjofoenmbhaaKNRd
import Derived.Test.YtponjofoenmbhaaKNRe
import Derived.Test.YtponjofoenmbhaaKNRf
import Derived.Test.YtponjofoenmbhaaKNRg
import Derived.Test.YtponjofoenmbhaaKNRh
import Derived.Test.YtponjofoenmbhaaKNRi
import Derived.WalkKit
import Derived.ProofKit
import Derived.RowKit3
import Derived.WalkSpells
import Derived.StillTactics
import Derived.Deep.QuietTactic
import Derived.BigQuiet
import Derived.Below
import Derived.Deep.OwnRows
import Derived.OwnWalk
import Derived.Laws.BitsAllLaws
import Derived.Laws.Slices
import Derived.Laws.Bits64b
import Derived.Laws.FloatArith
import Derived.Deep.RegionHeld3
import Derived.Deep.CutRange
import Derived.Deep.DeepCutAuto
namespace Go.Proofs.Ytponjofoenmbhaa
open Go.RowKit
set_option maxRecDepth 20000 in
set_option maxHeartbeats 8000000 in
theorem latticeA_ (X1 X2 Y1 Y2 Z1 Z2 : Int) (A1 A2 B1 B2 C1 C2 I1 I2 H1 H2 J1 J2 K1 K2 S1 S2 O1 O2 M1 M2 G1 G2 : Nat) (PB : Nat → Nat → Nat → Nat → Nat → Bool → Prop) (PI : Nat → Nat → Nat → Nat → Nat → Nat → Nat → Prop) (hB : ∀ f x1 x2 y1 y2 V, PB f x1 x2 y1 y2 V → ∀ w : World, Calls Try.prog f #[.agg #[.float .f64 x1, .float .f64 x2], .agg #[.float .f64 y1, .float .f64 y2]] w fun e w' => e = .returned (.bool V) ∧ Kp w w') (hI : ∀ f x1 x2 y1 y2 z1 z2, PI f x1 x2 y1 y2 z1 z2 → ∀ w : World, Calls Try.prog f #[.agg #[.float .f64 x1, .float .f64 x2], .agg #[.float .f64 y1, .float .f64 y2]] w fun e w' => e = .returned (.agg #[.float .f64 z1, .float .f64 z2]) ∧ Kp w w') (vS vT vU vE vD b1 b2 b3 b4 b5 b6 : Bool) (hE : ∀ w : World, Calls Try.prog 16 #[.agg #[.float .f64 I1, .float .f64 I2]] w fun e w' => e = .returned (.bool vD) ∧ Kp w w') (f0 : PI 8 A1 A2 B1 B2 I1 I2) (f1 : PI 8 B1 B2 A1 A2 I1 I2) (f2 : PI 12 A1 A2 B1 B2 H1 H2) (f3 : PI 12 B1 B2 A1 A2 H1 H2) (f4 : PI 8 I1 I2 C1 C2 M1 M2) (f5 : PI 8 B1 B2 C1 C2 J1 J2) (f6 : PI 8 A1 A2 J1 J2 M1 M2) (f7 : PI 12 H1 H2 C1 C2 G1 G2) (f8 : PI 12 B1 B2 C1 C2 K1 K2) (f9 : PI 12 A1 A2 K1 K2 G1 G2) (f10 : PI 8 A1 A2 A1 A2 S1 S2) (f11 : PI 12 B1 B2 B1 B2 O1 O2) (f12 : PI 12 A1 A2 A1 A2 S1 S2) (f13 : PI 8 A1 A2 H1 H2 S1 S2) (f14 : PI 12 A1 A2 I1 I2 S1 S2) (g0 : PB 13 A1 A2 B1 B2 vS) (g1 : PB 13 B1 B2 C1 C2 vT) (g2 : PB 13 A1 A2 C1 C2 vU) (g3 : PB 14 A1 A2 B1 B2 vE) (g4 : PB 15 A1 A2 B1 B2 vD) (ei1 : (∀ w : World, (Op.equalIn 9999 26 (.float .f64 I1) (.float .f64 I1)).run Try.prog w = .ok true w)) (ei2 : (∀ w : World, (Op.equalIn 9999 26 (.float .f64 I2) (.float .f64 I2)).run Try.prog w = .ok true w)) (eh1 : (∀ w : World, (Op.equalIn 9999 26 (.float .f64 H1) (.float .f64 H1)).run Try.prog w = .ok true w)) (eh2 : (∀ w : World, (Op.equalIn 9999 26 (.float .f64 H2) (.float .f64 H2)).run Try.prog w = .ok true w)) (em1 : (∀ w : World, (Op.equalIn 9999 26 (.float .f64 M1) (.float .f64 M1)).run Try.prog w = .ok true w)) (em2 : (∀ w : World, (Op.equalIn 9999 26 (.float .f64 M2) (.float .f64 M2)).run Try.prog w = .ok true w)) (eg1 : (∀ w : World, (Op.equalIn 9999 26 (.float .f64 G1) (.float .f64 G1)).run Try.prog w = .ok true w)) (eg2 : (∀ w : World, (Op.equalIn 9999 26 (.float .f64 G2) (.float .f64 G2)).run Try.prog w = .ok true w)) (es1 : (∀ w : World, (Op.equalIn 9999 26 (.float .f64 S1) (.float .f64 S1)).run Try.prog w = .ok true w)) (es2 : (∀ w : World, (Op.equalIn 9999 26 (.float .f64 S2) (.float .f64 S2)).run Try.prog w = .ok true w)) (ei1s1 : (∀ w : World, (Op.equalIn 9999 26 (.float .f64 I1) (.float .f64 S1)).run Try.prog w = .ok b1 w)) (ei2s2 : (∀ w : World, (Op.equalIn 9999 26 (.float .f64 I2) (.float .f64 S2)).run Try.prog w = .ok b2 w)) (eh1o1 : (∀ w : World, (Op.equalIn 9999 26 (.float .f64 H1) (.float .f64 O1)).run Try.prog w = .ok b3 w)) (eh2o2 : (∀ w : World, (Op.equalIn 9999 26 (.float .f64 H2) (.float .f64 O2)).run Try.prog w = .ok b4 w)) (es1o1 : (∀ w : World, (Op.equalIn 9999 26 (.float .f64 S1) (.float .f64 O1)).run Try.prog w = .ok b5 w)) (es2o2 : (∀ w : World, (Op.equalIn 9999 26 (.float .f64 S2) (.float .f64 O2)).run Try.prog w = .ok b6 w)) (hS : vS = (b1 && b2)) (hS2 : vS = (b3 && b4)) (hE2 : vE = (b5 && b6)) (hST : vS = false ∨ (vS = true ∧ vT = false) ∨ (vS = true ∧ vT = true ∧ vU = true)) (hin1 : ∀ w : World, Calls Try.prog 9 #[.agg #[.int .u64 X1, .int .u64 X2]] w fun e w' => e = .returned (.agg #[.float .f64 A1, .float .f64 A2]) ∧ Kp w w') (hin2 : ∀ w : World, Calls Try.prog 9 #[.agg #[.int .u64 Y1, .int .u64 Y2]] w fun e w' => e = .returned (.agg #[.float .f64 B1, .float .f64 B2]) ∧ Kp w w') (hin3 : ∀ w : World, Calls Try.prog 9 #[.agg #[.int .u64 Z1, .int .u64 Z2]] w fun e w' => e = .returned (.agg #[.float .f64 C1, .float .f64 C2]) ∧ Kp w w') (w : World) : Calls Try.prog 4 #[.agg #[.int .u64 X1, .int .u64 X2], .agg #[.int .u64 Y1, .int .u64 Y2], .agg #[.int .u64 Z1, .int .u64 Z2]] w fun e w' => e = .returned (.bool true) ∧ Kp w w' := by
  go_enter Try.func4, Try.ntmps4
  go_upto_region 6 with (first | (go_at_call 11; refine (awake9_ _).mono ?_; rintro e w1 ⟨rfl, g1⟩; have k1 : Kp w w1 := Kp.trans ((((Kp.refl w).alloc _).alloc _).alloc _) g1; have s1 := H6.keep (H6.new w (.int .u64 X1) (.int .u64 X2) (.int .u64 Y1) (.int .u64 Y2) (.int .u64 Z1) (.int .u64 Z2) 24 24 24) g1; have z0 := s1.1.1; have z1 := s1.1.2.1) | (go_at_call_of 9 (Value.agg #[.int .u64 X1, .int .u64 X2]); refine (hin1 _).mono ?_; rintro e w2 ⟨rfl, g2⟩; have k2 := Kp.trans k1 g2; have s2 := H6.keep s1 g2; have y00 := fun o => (H6.keep s2 ((Kp.refl w2).alloc o)).2.1.1; have y01 := fun o => (H6.keep s2 ((Kp.refl w2).alloc o)).2.1.2.1) | (go_at_call_of 9 (Value.agg #[.int .u64 Y1, .int .u64 Y2]); refine (hin2 _).mono ?_; rintro e w3 ⟨rfl, g3⟩; have k3 := Kp.trans (k2.alloc _) g3; have s3 := H6.keep (H6.keep s2 ((Kp.refl w2).alloc _)) g3; have q0_3 := Fq.H2.keep (Fq.H2.new w2 (.float .f64 A1) (.float .f64 A2) 28) g3; have y10 := fun o => (H6.keep s3 ((Kp.refl w3).alloc o)).2.2.1; have y11 := fun o => (H6.keep s3 ((Kp.refl w3).alloc o)).2.2.2.1) | (go_at_call_of 9 (Value.agg #[.int .u64 Z1, .int .u64 Z2]); refine (hin3 _).mono ?_; rintro e w4 ⟨rfl, g4⟩; have k4 := Kp.trans (k3.alloc _) g4; have s4 := H6.keep (H6.keep s3 ((Kp.refl w3).alloc _)) g4; have q1_4 := Fq.H2.keep (Fq.H2.new w3 (.float .f64 B1) (.float .f64 B2) 28) g4; have q0_4 := Fq.H2.keep (Fq.H2.past q0_3 #[.float .f64 B1, .float .f64 B2] 28) g4))
  have qa := Fq.H2.past q0_4 #[.float .f64 C1, .float .f64 C2] 28
  have qb := Fq.H2.past q1_4 #[.float .f64 C1, .float .f64 C2] 28
  have qc := Fq.H2.new w4 (.float .f64 C1) (.float .f64 C2) 28
  have kW := k4.alloc (.cells #[.float .f64 C1, .float .f64 C2] 28)
  generalize hW : w4.alloc (.cells #[.float .f64 C1, .float .f64 C2] 28) = W at qa qb qc kW ⊢
  generalize w2.heap.size = ba at qa ⊢
  generalize w3.heap.size = bb at qb ⊢
  generalize w4.heap.size = bc at qc ⊢
  clear hW k1 s1 g1 k2 s2 g2 k3 s3 g3 k4 s4 g4 z0 z1 y00 y01 y10 y11 q0_3 q0_4 q1_4 hin1 hin2 hin3
  obtain ⟨a0, a1, a2, a3⟩ := id qa
  obtain ⟨b0, b1, b2, b3⟩ := id qb
  obtain ⟨c0, c1, c2, c3⟩ := id qc
  go_upto_region 7 with (first | (go_at_call 8; refine (hI 8 _ _ _ _ _ _ (by with_reducible first | exact f0 | exact f1 | exact f2 | exact f3 | exact f4 | exact f5 | exact f6 | exact f7 | exact f8 | exact f9 | exact f10 | exact f11 | exact f12 | exact f13 | exact f14) _).mono ?_; rintro e wx ⟨rfl, gx⟩))
  replace qa := Fq.H2.past (Fq.H2.keep qa gx) #[.float .f64 I1, .float .f64 I2] 28
  replace qb := Fq.H2.past (Fq.H2.keep qb gx) #[.float .f64 I1, .float .f64 I2] 28
  replace qc := Fq.H2.past (Fq.H2.keep qc gx) #[.float .f64 I1, .float .f64 I2] 28
  have qi := Fq.H2.new wx (.float .f64 I1) (.float .f64 I2) 28
  replace kW := (Kp.trans kW gx).alloc (.cells #[.float .f64 I1, .float .f64 I2] 28)
  generalize hW : wx.alloc (.cells #[.float .f64 I1, .float .f64 I2] 28) = W at qa qb qc qi kW ⊢
  generalize wx.heap.size = bi at qi ⊢
  clear hW gx a0 a1 a2 a3 b0 b1 b2 b3 c0 c1 c2 c3
  obtain ⟨a0, a1, a2, a3⟩ := id qa
  obtain ⟨b0, b1, b2, b3⟩ := id qb
  obtain ⟨c0, c1, c2, c3⟩ := id qc
  obtain ⟨i0, i1, i2, i3⟩ := id qi
  go_upto_region 8 with (first | (go_at_call 12; refine (hI 12 _ _ _ _ _ _ (by with_reducible first | exact f0 | exact f1 | exact f2 | exact f3 | exact f4 | exact f5 | exact f6 | exact f7 | exact f8 | exact f9 | exact f10 | exact f11 | exact f12 | exact f13 | exact f14) _).mono ?_; rintro e wx ⟨rfl, gx⟩))
  replace qa := Fq.H2.past (Fq.H2.keep qa gx) #[.float .f64 H1, .float .f64 H2] 28
  replace qb := Fq.H2.past (Fq.H2.keep qb gx) #[.float .f64 H1, .float .f64 H2] 28
  replace qc := Fq.H2.past (Fq.H2.keep qc gx) #[.float .f64 H1, .float .f64 H2] 28
  replace qi := Fq.H2.past (Fq.H2.keep qi gx) #[.float .f64 H1, .float .f64 H2] 28
  have qh := Fq.H2.new wx (.float .f64 H1) (.float .f64 H2) 28
  replace kW := (Kp.trans kW gx).alloc (.cells #[.float .f64 H1, .float .f64 H2] 28)
  generalize hW : wx.alloc (.cells #[.float .f64 H1, .float .f64 H2] 28) = W at qa qb qc qi qh kW ⊢
  generalize wx.heap.size = bh at qh ⊢
  clear hW gx a0 a1 a2 a3 b0 b1 b2 b3 c0 c1 c2 c3 i0 i1 i2 i3
  go_upto_region 8 with fail
  go_cut [61] (fun s61 wx => s61 = .bool false ∧ Kp W wx)
  case first =>
    (
      refine Fq.wp_region_grow (by kernel_rfl) (by kernel_rfl) (fun ι _ G hG hall => ?_)
      have cc0 : ∀ n, (G n).cell? ⟨ba, 0, none⟩ = some (.float .f64 A1) := fun n => Fq.gkeep (hG n) qa.1
      have cc1 : ∀ n, (G n).cell? ⟨ba, 1, none⟩ = some (.float .f64 A2) := fun n => Fq.gkeep (hG n) qa.2.1
      have cc2 : ∀ n, (G n).cell? ⟨bb, 0, none⟩ = some (.float .f64 B1) := fun n => Fq.gkeep (hG n) qb.1
      have cc3 : ∀ n, (G n).cell? ⟨bb, 1, none⟩ = some (.float .f64 B2) := fun n => Fq.gkeep (hG n) qb.2.1
      have cc4 : ∀ n, (G n).cell? ⟨bc, 0, none⟩ = some (.float .f64 C1) := fun n => Fq.gkeep (hG n) qc.1
      have cc5 : ∀ n, (G n).cell? ⟨bc, 1, none⟩ = some (.float .f64 C2) := fun n => Fq.gkeep (hG n) qc.2.1
      have cc6 : ∀ n, (G n).cell? ⟨bi, 0, none⟩ = some (.float .f64 I1) := fun n => Fq.gkeep (hG n) qi.1
      have cc7 : ∀ n, (G n).cell? ⟨bi, 1, none⟩ = some (.float .f64 I2) := fun n => Fq.gkeep (hG n) qi.2.1
      have cc8 : ∀ n, (G n).cell? ⟨bh, 0, none⟩ = some (.float .f64 H1) := fun n => Fq.gkeep (hG n) qh.1
      have cc9 : ∀ n, (G n).cell? ⟨bh, 1, none⟩ = some (.float .f64 H2) := fun n => Fq.gkeep (hG n) qh.2.1
      repeat (go_big_quiet_step (first | (go_at_call 8; exact (hI 8 _ _ _ _ _ _ (by with_reducible first | exact f0 | exact f1 | exact f2 | exact f3 | exact f4 | exact f5 | exact f6 | exact f7 | exact f8 | exact f9 | exact f10 | exact f11 | exact f12 | exact f13 | exact f14) _).mono (fun e w' h => ⟨h.1, hall _ (Fq.gtrans (hG _) h.2)⟩)) | (go_at_call 12; exact (hI 12 _ _ _ _ _ _ (by with_reducible first | exact f0 | exact f1 | exact f2 | exact f3 | exact f4 | exact f5 | exact f6 | exact f7 | exact f8 | exact f9 | exact f10 | exact f11 | exact f12 | exact f13 | exact f14) _).mono (fun e w' h => ⟨h.1, hall _ (Fq.gtrans (hG _) h.2)⟩)) | (go_at_call 13; exact (hB 13 _ _ _ _ _ (by with_reducible first | exact g0 | exact g1 | exact g2 | exact g3 | exact g4) _).mono (fun e w' h => ⟨h.1, hall _ (Fq.gtrans (hG _) h.2)⟩)) | (go_at_call 14; exact (hB 14 _ _ _ _ _ (by with_reducible first | exact g0 | exact g1 | exact g2 | exact g3 | exact g4) _).mono (fun e w' h => ⟨h.1, hall _ (Fq.gtrans (hG _) h.2)⟩)) | (go_at_call 15; exact (hB 15 _ _ _ _ _ (by with_reducible first | exact g0 | exact g1 | exact g2 | exact g3 | exact g4) _).mono (fun e w' h => ⟨h.1, hall _ (Fq.gtrans (hG _) h.2)⟩)) | (go_at_call 16; exact (hE _).mono (fun e w' h => ⟨h.1, hall _ (Fq.gtrans (hG _) h.2)⟩))))
      refine wpQuiet_nil ?_
      rintro _ ⟨nq, rfl⟩
      have gq : Kp W (G nq) := hG nq
      clear cc0 cc1 cc2 cc3 cc4 cc5 cc6 cc7 cc8 cc9 hall hG
      go_wp2_with fail
      go_meet
      exact ⟨rfl, gq⟩)
  case rest =>
  obtain ⟨rfl, gw⟩ := hcut
  replace qa := Fq.H2.keep qa gw
  replace qb := Fq.H2.keep qb gw
  replace qc := Fq.H2.keep qc gw
  replace qi := Fq.H2.keep qi gw
  replace qh := Fq.H2.keep qh gw
  replace kW := Kp.trans kW gw
  clear gw
  generalize wc = W at qa qb qc qi qh kW ⊢
  obtain ⟨a0, a1, a2, a3⟩ := id qa
  obtain ⟨b0, b1, b2, b3⟩ := id qb
  obtain ⟨c0, c1, c2, c3⟩ := id qc
  obtain ⟨i0, i1, i2, i3⟩ := id qi
  obtain ⟨h0, h1, h2, h3⟩ := id qh
  go_upto_region 11 with (first | (go_at_call 8; refine (hI 8 _ _ _ _ _ _ (by with_reducible first | exact f0 | exact f1 | exact f2 | exact f3 | exact f4 | exact f5 | exact f6 | exact f7 | exact f8 | exact f9 | exact f10 | exact f11 | exact f12 | exact f13 | exact f14) _).mono ?_; rintro e wx ⟨rfl, gx⟩))
  replace qa := Fq.H2.past (Fq.H2.keep qa gx) #[.float .f64 S1, .float .f64 S2] 28
  replace qb := Fq.H2.past (Fq.H2.keep qb gx) #[.float .f64 S1, .float .f64 S2] 28
  replace qc := Fq.H2.past (Fq.H2.keep qc gx) #[.float .f64 S1, .float .f64 S2] 28
  replace qi := Fq.H2.past (Fq.H2.keep qi gx) #[.float .f64 S1, .float .f64 S2] 28
  replace qh := Fq.H2.past (Fq.H2.keep qh gx) #[.float .f64 S1, .float .f64 S2] 28
  have qs := Fq.H2.new wx (.float .f64 S1) (.float .f64 S2) 28
  replace kW := (Kp.trans kW gx).alloc (.cells #[.float .f64 S1, .float .f64 S2] 28)
  generalize hW : wx.alloc (.cells #[.float .f64 S1, .float .f64 S2] 28) = W at qa qb qc qi qh qs kW ⊢
  generalize wx.heap.size = bs at qs ⊢
  clear hW gx a0 a1 a2 a3 b0 b1 b2 b3 c0 c1 c2 c3 i0 i1 i2 i3 h0 h1 h2 h3
  obtain ⟨a0, a1, a2, a3⟩ := id qa
  obtain ⟨b0, b1, b2, b3⟩ := id qb
  obtain ⟨c0, c1, c2, c3⟩ := id qc
  obtain ⟨i0, i1, i2, i3⟩ := id qi
  obtain ⟨h0, h1, h2, h3⟩ := id qh
  obtain ⟨s0, s1, s2, s3⟩ := id qs
  go_upto_region 12 with (first | (go_at_call 12; refine (hI 12 _ _ _ _ _ _ (by with_reducible first | exact f0 | exact f1 | exact f2 | exact f3 | exact f4 | exact f5 | exact f6 | exact f7 | exact f8 | exact f9 | exact f10 | exact f11 | exact f12 | exact f13 | exact f14) _).mono ?_; rintro e wx ⟨rfl, gx⟩))
  replace qa := Fq.H2.past (Fq.H2.keep qa gx) #[.float .f64 O1, .float .f64 O2] 28
  replace qb := Fq.H2.past (Fq.H2.keep qb gx) #[.float .f64 O1, .float .f64 O2] 28
  replace qc := Fq.H2.past (Fq.H2.keep qc gx) #[.float .f64 O1, .float .f64 O2] 28
  replace qi := Fq.H2.past (Fq.H2.keep qi gx) #[.float .f64 O1, .float .f64 O2] 28
  replace qh := Fq.H2.past (Fq.H2.keep qh gx) #[.float .f64 O1, .float .f64 O2] 28
  replace qs := Fq.H2.past (Fq.H2.keep qs gx) #[.float .f64 O1, .float .f64 O2] 28
  have qo := Fq.H2.new wx (.float .f64 O1) (.float .f64 O2) 28
  replace kW := (Kp.trans kW gx).alloc (.cells #[.float .f64 O1, .float .f64 O2] 28)
  generalize hW : wx.alloc (.cells #[.float .f64 O1, .float .f64 O2] 28) = W at qa qb qc qi qh qs qo kW ⊢
  generalize wx.heap.size = bo at qo ⊢
  clear hW gx a0 a1 a2 a3 b0 b1 b2 b3 c0 c1 c2 c3 i0 i1 i2 i3 h0 h1 h2 h3 s0 s1 s2 s3
  go_upto_region 12 with fail
  go_cut [86] (fun s86 wx => s86 = .bool false ∧ Kp W wx)
  case first =>
    (
      refine Fq.wp_region_grow (by kernel_rfl) (by kernel_rfl) (fun ι _ G hG hall => ?_)
      have cc0 : ∀ n, (G n).cell? ⟨ba, 0, none⟩ = some (.float .f64 A1) := fun n => Fq.gkeep (hG n) qa.1
      have cc1 : ∀ n, (G n).cell? ⟨ba, 1, none⟩ = some (.float .f64 A2) := fun n => Fq.gkeep (hG n) qa.2.1
      have cc2 : ∀ n, (G n).cell? ⟨bb, 0, none⟩ = some (.float .f64 B1) := fun n => Fq.gkeep (hG n) qb.1
      have cc3 : ∀ n, (G n).cell? ⟨bb, 1, none⟩ = some (.float .f64 B2) := fun n => Fq.gkeep (hG n) qb.2.1
      have cc4 : ∀ n, (G n).cell? ⟨bc, 0, none⟩ = some (.float .f64 C1) := fun n => Fq.gkeep (hG n) qc.1
      have cc5 : ∀ n, (G n).cell? ⟨bc, 1, none⟩ = some (.float .f64 C2) := fun n => Fq.gkeep (hG n) qc.2.1
      have cc6 : ∀ n, (G n).cell? ⟨bi, 0, none⟩ = some (.float .f64 I1) := fun n => Fq.gkeep (hG n) qi.1
      have cc7 : ∀ n, (G n).cell? ⟨bi, 1, none⟩ = some (.float .f64 I2) := fun n => Fq.gkeep (hG n) qi.2.1
      have cc8 : ∀ n, (G n).cell? ⟨bh, 0, none⟩ = some (.float .f64 H1) := fun n => Fq.gkeep (hG n) qh.1
      have cc9 : ∀ n, (G n).cell? ⟨bh, 1, none⟩ = some (.float .f64 H2) := fun n => Fq.gkeep (hG n) qh.2.1
      have cc10 : ∀ n, (G n).cell? ⟨bs, 0, none⟩ = some (.float .f64 S1) := fun n => Fq.gkeep (hG n) qs.1
      have cc11 : ∀ n, (G n).cell? ⟨bs, 1, none⟩ = some (.float .f64 S2) := fun n => Fq.gkeep (hG n) qs.2.1
      have cc12 : ∀ n, (G n).cell? ⟨bo, 0, none⟩ = some (.float .f64 O1) := fun n => Fq.gkeep (hG n) qo.1
      have cc13 : ∀ n, (G n).cell? ⟨bo, 1, none⟩ = some (.float .f64 O2) := fun n => Fq.gkeep (hG n) qo.2.1
      repeat (go_big_quiet_step (first | (go_at_call 8; exact (hI 8 _ _ _ _ _ _ (by with_reducible first | exact f0 | exact f1 | exact f2 | exact f3 | exact f4 | exact f5 | exact f6 | exact f7 | exact f8 | exact f9 | exact f10 | exact f11 | exact f12 | exact f13 | exact f14) _).mono (fun e w' h => ⟨h.1, hall _ (Fq.gtrans (hG _) h.2)⟩)) | (go_at_call 12; exact (hI 12 _ _ _ _ _ _ (by with_reducible first | exact f0 | exact f1 | exact f2 | exact f3 | exact f4 | exact f5 | exact f6 | exact f7 | exact f8 | exact f9 | exact f10 | exact f11 | exact f12 | exact f13 | exact f14) _).mono (fun e w' h => ⟨h.1, hall _ (Fq.gtrans (hG _) h.2)⟩)) | (go_at_call 13; exact (hB 13 _ _ _ _ _ (by with_reducible first | exact g0 | exact g1 | exact g2 | exact g3 | exact g4) _).mono (fun e w' h => ⟨h.1, hall _ (Fq.gtrans (hG _) h.2)⟩)) | (go_at_call 14; exact (hB 14 _ _ _ _ _ (by with_reducible first | exact g0 | exact g1 | exact g2 | exact g3 | exact g4) _).mono (fun e w' h => ⟨h.1, hall _ (Fq.gtrans (hG _) h.2)⟩)) | (go_at_call 15; exact (hB 15 _ _ _ _ _ (by with_reducible first | exact g0 | exact g1 | exact g2 | exact g3 | exact g4) _).mono (fun e w' h => ⟨h.1, hall _ (Fq.gtrans (hG _) h.2)⟩)) | (go_at_call 16; exact (hE _).mono (fun e w' h => ⟨h.1, hall _ (Fq.gtrans (hG _) h.2)⟩))))
      refine wpQuiet_nil ?_
      rintro _ ⟨nq, rfl⟩
      have gq : Kp W (G nq) := hG nq
      clear cc0 cc1 cc2 cc3 cc4 cc5 cc6 cc7 cc8 cc9 cc10 cc11 cc12 cc13 hall hG
      go_wp2_with fail
      go_meet
      exact ⟨rfl, gq⟩)
  case rest =>
  obtain ⟨rfl, gw⟩ := hcut
  replace qa := Fq.H2.keep qa gw
  replace qb := Fq.H2.keep qb gw
  replace qc := Fq.H2.keep qc gw
  replace qi := Fq.H2.keep qi gw
  replace qh := Fq.H2.keep qh gw
  replace qs := Fq.H2.keep qs gw
  replace qo := Fq.H2.keep qo gw
  replace kW := Kp.trans kW gw
  clear gw
  generalize wc = W at qa qb qc qi qh qs qo kW ⊢
  go_upto_region 14 with fail
  go_cut [119] (fun s119 wx => s119 = .bool false ∧ Kp W wx)
  case first =>
    cases b1 <;> cases b2 <;> cases b3 <;> cases b4 <;> cases b5 <;> cases b6 <;> simp only [Bool.and_self, Bool.and_true, Bool.and_false] at hS hS2 hE2 <;> (try subst hS) <;> (try subst hE2) <;> first | (cases hS2; done) | skip
    all_goals (
      refine Fq.wp_region_grow (by kernel_rfl) (by kernel_rfl) (fun ι _ G hG hall => ?_)
      have cc0 : ∀ n, (G n).cell? ⟨ba, 0, none⟩ = some (.float .f64 A1) := fun n => Fq.gkeep (hG n) qa.1
      have cc1 : ∀ n, (G n).cell? ⟨ba, 1, none⟩ = some (.float .f64 A2) := fun n => Fq.gkeep (hG n) qa.2.1
      have cc2 : ∀ n, (G n).cell? ⟨bb, 0, none⟩ = some (.float .f64 B1) := fun n => Fq.gkeep (hG n) qb.1
      have cc3 : ∀ n, (G n).cell? ⟨bb, 1, none⟩ = some (.float .f64 B2) := fun n => Fq.gkeep (hG n) qb.2.1
      have cc4 : ∀ n, (G n).cell? ⟨bc, 0, none⟩ = some (.float .f64 C1) := fun n => Fq.gkeep (hG n) qc.1
      have cc5 : ∀ n, (G n).cell? ⟨bc, 1, none⟩ = some (.float .f64 C2) := fun n => Fq.gkeep (hG n) qc.2.1
      have cc6 : ∀ n, (G n).cell? ⟨bi, 0, none⟩ = some (.float .f64 I1) := fun n => Fq.gkeep (hG n) qi.1
      have cc7 : ∀ n, (G n).cell? ⟨bi, 1, none⟩ = some (.float .f64 I2) := fun n => Fq.gkeep (hG n) qi.2.1
      have cc8 : ∀ n, (G n).cell? ⟨bh, 0, none⟩ = some (.float .f64 H1) := fun n => Fq.gkeep (hG n) qh.1
      have cc9 : ∀ n, (G n).cell? ⟨bh, 1, none⟩ = some (.float .f64 H2) := fun n => Fq.gkeep (hG n) qh.2.1
      have cc10 : ∀ n, (G n).cell? ⟨bs, 0, none⟩ = some (.float .f64 S1) := fun n => Fq.gkeep (hG n) qs.1
      have cc11 : ∀ n, (G n).cell? ⟨bs, 1, none⟩ = some (.float .f64 S2) := fun n => Fq.gkeep (hG n) qs.2.1
      have cc12 : ∀ n, (G n).cell? ⟨bo, 0, none⟩ = some (.float .f64 O1) := fun n => Fq.gkeep (hG n) qo.1
      have cc13 : ∀ n, (G n).cell? ⟨bo, 1, none⟩ = some (.float .f64 O2) := fun n => Fq.gkeep (hG n) qo.2.1
      repeat (go_big_quiet_step (first | (go_at_call 8; exact (hI 8 _ _ _ _ _ _ (by with_reducible first | exact f0 | exact f1 | exact f2 | exact f3 | exact f4 | exact f5 | exact f6 | exact f7 | exact f8 | exact f9 | exact f10 | exact f11 | exact f12 | exact f13 | exact f14) _).mono (fun e w' h => ⟨h.1, hall _ (Fq.gtrans (hG _) h.2)⟩)) | (go_at_call 12; exact (hI 12 _ _ _ _ _ _ (by with_reducible first | exact f0 | exact f1 | exact f2 | exact f3 | exact f4 | exact f5 | exact f6 | exact f7 | exact f8 | exact f9 | exact f10 | exact f11 | exact f12 | exact f13 | exact f14) _).mono (fun e w' h => ⟨h.1, hall _ (Fq.gtrans (hG _) h.2)⟩)) | (go_at_call 13; exact (hB 13 _ _ _ _ _ (by with_reducible first | exact g0 | exact g1 | exact g2 | exact g3 | exact g4) _).mono (fun e w' h => ⟨h.1, hall _ (Fq.gtrans (hG _) h.2)⟩)) | (go_at_call 14; exact (hB 14 _ _ _ _ _ (by with_reducible first | exact g0 | exact g1 | exact g2 | exact g3 | exact g4) _).mono (fun e w' h => ⟨h.1, hall _ (Fq.gtrans (hG _) h.2)⟩)) | (go_at_call 15; exact (hB 15 _ _ _ _ _ (by with_reducible first | exact g0 | exact g1 | exact g2 | exact g3 | exact g4) _).mono (fun e w' h => ⟨h.1, hall _ (Fq.gtrans (hG _) h.2)⟩)) | (go_at_call 16; exact (hE _).mono (fun e w' h => ⟨h.1, hall _ (Fq.gtrans (hG _) h.2)⟩))))
      refine wpQuiet_nil ?_
      rintro _ ⟨nq, rfl⟩
      have gq : Kp W (G nq) := hG nq
      clear cc0 cc1 cc2 cc3 cc4 cc5 cc6 cc7 cc8 cc9 cc10 cc11 cc12 cc13 hall hG
      go_wp2_with fail
      go_meet
      exact ⟨rfl, gq⟩)
  case rest =>
  obtain ⟨rfl, gw⟩ := hcut
  replace qa := Fq.H2.keep qa gw
  replace qb := Fq.H2.keep qb gw
  replace qc := Fq.H2.keep qc gw
  replace qi := Fq.H2.keep qi gw
  replace qh := Fq.H2.keep qh gw
  replace qs := Fq.H2.keep qs gw
  replace qo := Fq.H2.keep qo gw
  replace kW := Kp.trans kW gw
  clear gw
  generalize wc = W at qa qb qc qi qh qs qo kW ⊢
  go_upto_region 16 with fail
  clear hS hS2 hE2
  rcases hST with rfl | ⟨rfl, rfl⟩ | ⟨rfl, rfl, rfl⟩
  all_goals (
    have gq : Kp W W := Kp.refl W
    obtain ⟨a0, a1, a2, a3⟩ := id qa
    obtain ⟨b0, b1, b2, b3⟩ := id qb
    obtain ⟨c0, c1, c2, c3⟩ := id qc
    go_wp2_with (first | (go_at_call 8; refine (hI 8 _ _ _ _ _ _ (by with_reducible first | exact f0 | exact f1 | exact f2 | exact f3 | exact f4 | exact f5 | exact f6 | exact f7 | exact f8 | exact f9 | exact f10 | exact f11 | exact f12 | exact f13 | exact f14) _).mono ?_; rintro e wx ⟨rfl, gx⟩; replace gq := Kp.trans gq gx; replace qa := Fq.H2.keep qa gx; replace qb := Fq.H2.keep qb gx; replace qc := Fq.H2.keep qc gx; clear gx; obtain ⟨a0, a1, a2, a3⟩ := id qa; obtain ⟨b0, b1, b2, b3⟩ := id qb; obtain ⟨c0, c1, c2, c3⟩ := id qc) | (go_at_call 12; refine (hI 12 _ _ _ _ _ _ (by with_reducible first | exact f0 | exact f1 | exact f2 | exact f3 | exact f4 | exact f5 | exact f6 | exact f7 | exact f8 | exact f9 | exact f10 | exact f11 | exact f12 | exact f13 | exact f14) _).mono ?_; rintro e wx ⟨rfl, gx⟩; replace gq := Kp.trans gq gx; replace qa := Fq.H2.keep qa gx; replace qb := Fq.H2.keep qb gx; replace qc := Fq.H2.keep qc gx; clear gx; obtain ⟨a0, a1, a2, a3⟩ := id qa; obtain ⟨b0, b1, b2, b3⟩ := id qb; obtain ⟨c0, c1, c2, c3⟩ := id qc) | (go_at_call 13; refine (hB 13 _ _ _ _ _ (by with_reducible first | exact g0 | exact g1 | exact g2 | exact g3 | exact g4) _).mono ?_; rintro e wx ⟨rfl, gx⟩; replace gq := Kp.trans gq gx; replace qa := Fq.H2.keep qa gx; replace qb := Fq.H2.keep qb gx; replace qc := Fq.H2.keep qc gx; clear gx; obtain ⟨a0, a1, a2, a3⟩ := id qa; obtain ⟨b0, b1, b2, b3⟩ := id qb; obtain ⟨c0, c1, c2, c3⟩ := id qc) | (go_at_call 14; refine (hB 14 _ _ _ _ _ (by with_reducible first | exact g0 | exact g1 | exact g2 | exact g3 | exact g4) _).mono ?_; rintro e wx ⟨rfl, gx⟩; replace gq := Kp.trans gq gx; replace qa := Fq.H2.keep qa gx; replace qb := Fq.H2.keep qb gx; replace qc := Fq.H2.keep qc gx; clear gx; obtain ⟨a0, a1, a2, a3⟩ := id qa; obtain ⟨b0, b1, b2, b3⟩ := id qb; obtain ⟨c0, c1, c2, c3⟩ := id qc) | (go_at_call 15; refine (hB 15 _ _ _ _ _ (by with_reducible first | exact g0 | exact g1 | exact g2 | exact g3 | exact g4) _).mono ?_; rintro e wx ⟨rfl, gx⟩; replace gq := Kp.trans gq gx; replace qa := Fq.H2.keep qa gx; replace qb := Fq.H2.keep qb gx; replace qc := Fq.H2.keep qc gx; clear gx; obtain ⟨a0, a1, a2, a3⟩ := id qa; obtain ⟨b0, b1, b2, b3⟩ := id qb; obtain ⟨c0, c1, c2, c3⟩ := id qc))
    exact bodyPost_ret (v := .bool true) (by simp [results, Try.results4, go_sem]) rfl ⟨rfl, (Kp.trans kW gq)⟩)
end Go.Proofs.Ytponjofoenmbhaa
