import Derived.Test.YtkheefoabcibkaaGreatDoorKIZn
namespace Go.Proofs.YtkheefoabcibkaaGreatDoor
open Go.RowKit
set_option linter.unusedVariables false
set_option maxRecDepth 20000 in
set_option maxHeartbeats 8000000 in
theorem ivalturnsA_ (X1 X2 Y1 Y2 Z1 Z2 : Int) (A1 A2 B1 B2 C1 C2 S1 S2 M1 M2 D1 D2 P1 P2 Q1 Q2 N1 N2 V1 V2 E1 E2 K1 K2 R1 R2 T1 T2 : Nat) (PI : Nat → Nat → Nat → Nat → Nat → Nat → Nat → Prop) (PU : Nat → Nat → Nat → Nat → Nat → Prop) (PF : Nat → Nat → Nat → Nat → Nat → Nat → Nat → Nat → Prop) (U : Nat → Int) (hI : ∀ f x1 x2 y1 y2 z1 z2, PI f x1 x2 y1 y2 z1 z2 → ∀ w : World, TT w → Calls Tryz.prog f #[.agg #[.float .f64 x1, .float .f64 x2], .agg #[.float .f64 y1, .float .f64 y2]] w fun e w' => e = .returned (.agg #[.float .f64 z1, .float .f64 z2]) ∧ Kp w w') (hU : ∀ f x1 x2 z1 z2, PU f x1 x2 z1 z2 → ∀ w : World, TT w → Calls Tryz.prog f #[.agg #[.float .f64 x1, .float .f64 x2]] w fun e w' => e = .returned (.agg #[.float .f64 z1, .float .f64 z2]) ∧ Kp w w') (hF : ∀ x1 x2 y1 y2 z1 z2 r1 r2, PF x1 x2 y1 y2 z1 z2 r1 r2 → ∀ w : World, TT w → Calls Tryz.prog 18 #[.agg #[.float .f64 x1, .float .f64 x2], .agg #[.float .f64 y1, .float .f64 y2], .agg #[.float .f64 z1, .float .f64 z2]] w fun e w' => e = .returned (.agg #[.float .f64 r1, .float .f64 r2]) ∧ Kp w w') (hO : ∀ x1 x2, ∀ w : World, Calls Tryz.prog 22 #[.agg #[.float .f64 x1, .float .f64 x2]] w fun e w' => e = .returned (.agg #[.int .u64 (U x1), .int .u64 (U x2)]) ∧ Kp w w') (hR0 : ∀ w : World, Calls Tryz.prog 26 #[.agg #[.int .u64 X1, .int .u64 X2]] w fun e w' => e = .returned (.agg #[.int .u64 (U R1), .int .u64 (U R2)]) ∧ Kp w w') (fi0 : PI 12 A1 A2 B1 B2 S1 S2) (fi1 : PI 12 B1 B2 A1 A2 S1 S2) (fi2 : PI 13 A1 A2 B1 B2 M1 M2) (fi3 : PI 13 B1 B2 A1 A2 M1 M2) (fi4 : PI 25 A1 A2 B1 B2 D1 D2) (fi5 : PI 12 A1 A2 P1 P2 D1 D2) (fi6 : PI 14 4607182418800017408 4607182418800017408 B1 B2 Q1 Q2) (fi7 : PI 13 N1 N2 B1 B2 V1 V2) (fi8 : PI 14 N1 N2 B1 B2 E1 E2) (fi9 : PI 14 A1 A2 B1 B2 K1 K2) (fu0 : PU 24 A1 A2 N1 N2) (fu1 : PU 24 N1 N2 R1 R2) (fu2 : PU 24 B1 B2 P1 P2) (fu3 : PU 15 B1 B2 Q1 Q2) (fu4 : PU 24 M1 M2 V1 V2) (fu5 : PU 24 K1 K2 E1 E2) (ff0 : PF A1 A2 B1 B2 C1 C2 T1 T2) (ff1 : PF B1 B2 A1 A2 C1 C2 T1 T2) (hin1 : ∀ w : World, Calls Tryz.prog 19 #[.agg #[.int .u64 X1, .int .u64 X2]] w fun e w' => e = .returned (.agg #[.float .f64 A1, .float .f64 A2]) ∧ Kp w w') (hin2 : ∀ w : World, Calls Tryz.prog 19 #[.agg #[.int .u64 Y1, .int .u64 Y2]] w fun e w' => e = .returned (.agg #[.float .f64 B1, .float .f64 B2]) ∧ Kp w w') (hin3 : ∀ w : World, Calls Tryz.prog 19 #[.agg #[.int .u64 Z1, .int .u64 Z2]] w fun e w' => e = .returned (.agg #[.float .f64 C1, .float .f64 C2]) ∧ Kp w w') (hawk : ∀ w : World, TT w → Calls Tryz.prog 8 #[] w fun e w' => e = .returned (.bool true) ∧ Kp w w') (w : World) (hT : TT w) : Calls Tryz.prog 5 #[.agg #[.int .u64 X1, .int .u64 X2], .agg #[.int .u64 Y1, .int .u64 Y2], .agg #[.int .u64 Z1, .int .u64 Z2]] w fun e w' => e = .returned (.bool true) ∧ Kp w w' := by
  go_enter Tryz.func5, Tryz.ntmps5
  go_upto_region 6 with (first | (go_at_call 8; refine (hawk _ (hT.kp ((((Kp.refl w).alloc _).alloc _).alloc _))).mono ?_; rintro e w1 ⟨rfl, g1⟩; have k1 : Kp w w1 := Kp.trans ((((Kp.refl w).alloc _).alloc _).alloc _) g1; have s1 := H6.keep (H6.new w (.int .u64 X1) (.int .u64 X2) (.int .u64 Y1) (.int .u64 Y2) (.int .u64 Z1) (.int .u64 Z2) 36 36 36) g1; have z0 := s1.1.1; have z1 := s1.1.2.1) | (go_at_call_of 19 (Value.agg #[.int .u64 X1, .int .u64 X2]); refine (hin1 _).mono ?_; rintro e w2 ⟨rfl, g2⟩; have k2 := Kp.trans k1 g2; have s2 := H6.keep s1 g2; have y00 := fun o => (H6.keep s2 ((Kp.refl w2).alloc o)).2.1.1; have y01 := fun o => (H6.keep s2 ((Kp.refl w2).alloc o)).2.1.2.1) | (go_at_call_of 19 (Value.agg #[.int .u64 Y1, .int .u64 Y2]); refine (hin2 _).mono ?_; rintro e w3 ⟨rfl, g3⟩; have k3 := Kp.trans (k2.alloc _) g3; have s3 := H6.keep (H6.keep s2 ((Kp.refl w2).alloc _)) g3; have q0_3 := Fq.H2.keep (Fq.H2.new w2 (.float .f64 A1) (.float .f64 A2) 25) g3; have y10 := fun o => (H6.keep s3 ((Kp.refl w3).alloc o)).2.2.1; have y11 := fun o => (H6.keep s3 ((Kp.refl w3).alloc o)).2.2.2.1) | (go_at_call_of 19 (Value.agg #[.int .u64 Z1, .int .u64 Z2]); refine (hin3 _).mono ?_; rintro e w4 ⟨rfl, g4⟩; have k4 := Kp.trans (k3.alloc _) g4; have s4 := H6.keep (H6.keep s3 ((Kp.refl w3).alloc _)) g4; have q1_4 := Fq.H2.keep (Fq.H2.new w3 (.float .f64 B1) (.float .f64 B2) 25) g4; have q0_4 := Fq.H2.keep (Fq.H2.past q0_3 #[.float .f64 B1, .float .f64 B2] 25) g4))
  have qa := Fq.H2.past q0_4 #[.float .f64 C1, .float .f64 C2] 25
  have qb := Fq.H2.past q1_4 #[.float .f64 C1, .float .f64 C2] 25
  have qc := Fq.H2.new w4 (.float .f64 C1) (.float .f64 C2) 25
  have kW := k4.alloc (.cells #[.float .f64 C1, .float .f64 C2] 25)
  have qX := H6.keep s4 ((Kp.refl w4).alloc (.cells #[.float .f64 C1, .float .f64 C2] 25))
  have hTW : TT (w4.alloc (.cells #[.float .f64 C1, .float .f64 C2] 25)) := hT.kp kW
  generalize hW : w4.alloc (.cells #[.float .f64 C1, .float .f64 C2] 25) = W at qa qb qc kW qX hTW ⊢
  generalize w2.heap.size = ba at qa ⊢
  generalize w3.heap.size = bb at qb ⊢
  generalize w4.heap.size = bc at qc ⊢
  clear hW k1 s1 g1 k2 s2 g2 k3 s3 g3 k4 s4 g4 z0 z1 y00 y01 y10 y11 q0_3 q0_4 q1_4 hin1 hin2 hin3
  go_upto_region 6 with fail
  go_cut [50] (fun s50 wx => s50 = .bool false ∧ Kp W wx)
  case first =>
    (
      refine Fq.wp_region_grow (by kernel_rfl) (by kernel_rfl) (fun ι _ G hG hall => ?_)
      have tG : ∀ n, TT (G n) := fun n => hTW.kp (hG n)
      have cc0 : ∀ n, (G n).cell? ⟨ba, 0, none⟩ = some (.float .f64 A1) := fun n => Fq.gkeep (hG n) qa.1
      have cc1 : ∀ n, (G n).cell? ⟨ba, 1, none⟩ = some (.float .f64 A2) := fun n => Fq.gkeep (hG n) qa.2.1
      have cc2 : ∀ n, (G n).cell? ⟨bb, 0, none⟩ = some (.float .f64 B1) := fun n => Fq.gkeep (hG n) qb.1
      have cc3 : ∀ n, (G n).cell? ⟨bb, 1, none⟩ = some (.float .f64 B2) := fun n => Fq.gkeep (hG n) qb.2.1
      have cc4 : ∀ n, (G n).cell? ⟨bc, 0, none⟩ = some (.float .f64 C1) := fun n => Fq.gkeep (hG n) qc.1
      have cc5 : ∀ n, (G n).cell? ⟨bc, 1, none⟩ = some (.float .f64 C2) := fun n => Fq.gkeep (hG n) qc.2.1
      have cc6 : ∀ n, (G n).cell? ⟨w.heap.size, 0, none⟩ = some (.int .u64 X1) := fun n => Fq.gkeep (hG n) qX.1.1
      have cc7 : ∀ n, (G n).cell? ⟨w.heap.size, 1, none⟩ = some (.int .u64 X2) := fun n => Fq.gkeep (hG n) qX.1.2.1
      have cc8 : ∀ n, (G n).cell? ⟨w.heap.size + 1, 0, none⟩ = some (.int .u64 Y1) := fun n => Fq.gkeep (hG n) qX.2.1.1
      have cc9 : ∀ n, (G n).cell? ⟨w.heap.size + 1, 1, none⟩ = some (.int .u64 Y2) := fun n => Fq.gkeep (hG n) qX.2.1.2.1
      have cc10 : ∀ n, (G n).cell? ⟨w.heap.size + 2, 0, none⟩ = some (.int .u64 Z1) := fun n => Fq.gkeep (hG n) qX.2.2.1
      have cc11 : ∀ n, (G n).cell? ⟨w.heap.size + 2, 1, none⟩ = some (.int .u64 Z2) := fun n => Fq.gkeep (hG n) qX.2.2.2.1
      repeat (go_big_quiet_step (first | (go_at_call 12; exact (hI 12 _ _ _ _ _ _ (by with_reducible first | exact fi0 | exact fi1 | exact fi2 | exact fi3 | exact fi4 | exact fi5 | exact fi6 | exact fi7 | exact fi8 | exact fi9) _ (tG _)).mono (fun e w' h => ⟨h.1, hall _ (Fq.gtrans (hG _) h.2)⟩)) | (go_at_call 13; exact (hI 13 _ _ _ _ _ _ (by with_reducible first | exact fi0 | exact fi1 | exact fi2 | exact fi3 | exact fi4 | exact fi5 | exact fi6 | exact fi7 | exact fi8 | exact fi9) _ (tG _)).mono (fun e w' h => ⟨h.1, hall _ (Fq.gtrans (hG _) h.2)⟩)) | (go_at_call 14; exact (hI 14 _ _ _ _ _ _ (by with_reducible first | exact fi0 | exact fi1 | exact fi2 | exact fi3 | exact fi4 | exact fi5 | exact fi6 | exact fi7 | exact fi8 | exact fi9) _ (tG _)).mono (fun e w' h => ⟨h.1, hall _ (Fq.gtrans (hG _) h.2)⟩)) | (go_at_call 25; exact (hI 25 _ _ _ _ _ _ (by with_reducible first | exact fi0 | exact fi1 | exact fi2 | exact fi3 | exact fi4 | exact fi5 | exact fi6 | exact fi7 | exact fi8 | exact fi9) _ (tG _)).mono (fun e w' h => ⟨h.1, hall _ (Fq.gtrans (hG _) h.2)⟩)) | (go_at_call 15; exact (hU 15 _ _ _ _ (by with_reducible first | exact fu0 | exact fu1 | exact fu2 | exact fu3 | exact fu4 | exact fu5) _ (tG _)).mono (fun e w' h => ⟨h.1, hall _ (Fq.gtrans (hG _) h.2)⟩)) | (go_at_call 24; exact (hU 24 _ _ _ _ (by with_reducible first | exact fu0 | exact fu1 | exact fu2 | exact fu3 | exact fu4 | exact fu5) _ (tG _)).mono (fun e w' h => ⟨h.1, hall _ (Fq.gtrans (hG _) h.2)⟩)) | (go_at_call 18; exact (hF _ _ _ _ _ _ _ _ (by with_reducible first | exact ff0 | exact ff1) _ (tG _)).mono (fun e w' h => ⟨h.1, hall _ (Fq.gtrans (hG _) h.2)⟩)) | (go_at_call 22; exact (hO _ _ _).mono (fun e w' h => ⟨h.1, hall _ (Fq.gtrans (hG _) h.2)⟩)) | (go_at_call_of 26 (Value.agg #[.int .u64 X1, .int .u64 X2]); exact (hR0 _).mono (fun e w' h => ⟨h.1, hall _ (Fq.gtrans (hG _) h.2)⟩))))
      refine wpQuiet_nil ?_
      rintro _ ⟨nq, rfl⟩
      have gq : Kp W (G nq) := hG nq
      clear cc0 cc1 cc2 cc3 cc4 cc5 cc6 cc7 cc8 cc9 cc10 cc11 hall hG tG
      go_wp2_with fail
      go_meet
      exact ⟨rfl, gq⟩)
  case rest =>
  obtain ⟨rfl, gw⟩ := hcut
  replace qa := Fq.H2.keep qa gw
  replace qb := Fq.H2.keep qb gw
  replace qc := Fq.H2.keep qc gw
  replace qX := H6.keep qX gw
  replace hTW := hTW.kp gw
  replace kW := Kp.trans kW gw
  clear gw
  generalize wc = W at qa qb qc qX hTW kW ⊢
  go_upto_region 8 with fail
  go_cut [69] (fun s69 wx => s69 = .bool false ∧ Kp W wx)
  case first =>
    (
      refine Fq.wp_region_grow (by kernel_rfl) (by kernel_rfl) (fun ι _ G hG hall => ?_)
      have tG : ∀ n, TT (G n) := fun n => hTW.kp (hG n)
      have cc0 : ∀ n, (G n).cell? ⟨ba, 0, none⟩ = some (.float .f64 A1) := fun n => Fq.gkeep (hG n) qa.1
      have cc1 : ∀ n, (G n).cell? ⟨ba, 1, none⟩ = some (.float .f64 A2) := fun n => Fq.gkeep (hG n) qa.2.1
      have cc2 : ∀ n, (G n).cell? ⟨bb, 0, none⟩ = some (.float .f64 B1) := fun n => Fq.gkeep (hG n) qb.1
      have cc3 : ∀ n, (G n).cell? ⟨bb, 1, none⟩ = some (.float .f64 B2) := fun n => Fq.gkeep (hG n) qb.2.1
      have cc4 : ∀ n, (G n).cell? ⟨bc, 0, none⟩ = some (.float .f64 C1) := fun n => Fq.gkeep (hG n) qc.1
      have cc5 : ∀ n, (G n).cell? ⟨bc, 1, none⟩ = some (.float .f64 C2) := fun n => Fq.gkeep (hG n) qc.2.1
      have cc6 : ∀ n, (G n).cell? ⟨w.heap.size, 0, none⟩ = some (.int .u64 X1) := fun n => Fq.gkeep (hG n) qX.1.1
      have cc7 : ∀ n, (G n).cell? ⟨w.heap.size, 1, none⟩ = some (.int .u64 X2) := fun n => Fq.gkeep (hG n) qX.1.2.1
      have cc8 : ∀ n, (G n).cell? ⟨w.heap.size + 1, 0, none⟩ = some (.int .u64 Y1) := fun n => Fq.gkeep (hG n) qX.2.1.1
      have cc9 : ∀ n, (G n).cell? ⟨w.heap.size + 1, 1, none⟩ = some (.int .u64 Y2) := fun n => Fq.gkeep (hG n) qX.2.1.2.1
      have cc10 : ∀ n, (G n).cell? ⟨w.heap.size + 2, 0, none⟩ = some (.int .u64 Z1) := fun n => Fq.gkeep (hG n) qX.2.2.1
      have cc11 : ∀ n, (G n).cell? ⟨w.heap.size + 2, 1, none⟩ = some (.int .u64 Z2) := fun n => Fq.gkeep (hG n) qX.2.2.2.1
      repeat (go_big_quiet_step (first | (go_at_call 12; exact (hI 12 _ _ _ _ _ _ (by with_reducible first | exact fi0 | exact fi1 | exact fi2 | exact fi3 | exact fi4 | exact fi5 | exact fi6 | exact fi7 | exact fi8 | exact fi9) _ (tG _)).mono (fun e w' h => ⟨h.1, hall _ (Fq.gtrans (hG _) h.2)⟩)) | (go_at_call 13; exact (hI 13 _ _ _ _ _ _ (by with_reducible first | exact fi0 | exact fi1 | exact fi2 | exact fi3 | exact fi4 | exact fi5 | exact fi6 | exact fi7 | exact fi8 | exact fi9) _ (tG _)).mono (fun e w' h => ⟨h.1, hall _ (Fq.gtrans (hG _) h.2)⟩)) | (go_at_call 14; exact (hI 14 _ _ _ _ _ _ (by with_reducible first | exact fi0 | exact fi1 | exact fi2 | exact fi3 | exact fi4 | exact fi5 | exact fi6 | exact fi7 | exact fi8 | exact fi9) _ (tG _)).mono (fun e w' h => ⟨h.1, hall _ (Fq.gtrans (hG _) h.2)⟩)) | (go_at_call 25; exact (hI 25 _ _ _ _ _ _ (by with_reducible first | exact fi0 | exact fi1 | exact fi2 | exact fi3 | exact fi4 | exact fi5 | exact fi6 | exact fi7 | exact fi8 | exact fi9) _ (tG _)).mono (fun e w' h => ⟨h.1, hall _ (Fq.gtrans (hG _) h.2)⟩)) | (go_at_call 15; exact (hU 15 _ _ _ _ (by with_reducible first | exact fu0 | exact fu1 | exact fu2 | exact fu3 | exact fu4 | exact fu5) _ (tG _)).mono (fun e w' h => ⟨h.1, hall _ (Fq.gtrans (hG _) h.2)⟩)) | (go_at_call 24; exact (hU 24 _ _ _ _ (by with_reducible first | exact fu0 | exact fu1 | exact fu2 | exact fu3 | exact fu4 | exact fu5) _ (tG _)).mono (fun e w' h => ⟨h.1, hall _ (Fq.gtrans (hG _) h.2)⟩)) | (go_at_call 18; exact (hF _ _ _ _ _ _ _ _ (by with_reducible first | exact ff0 | exact ff1) _ (tG _)).mono (fun e w' h => ⟨h.1, hall _ (Fq.gtrans (hG _) h.2)⟩)) | (go_at_call 22; exact (hO _ _ _).mono (fun e w' h => ⟨h.1, hall _ (Fq.gtrans (hG _) h.2)⟩)) | (go_at_call_of 26 (Value.agg #[.int .u64 X1, .int .u64 X2]); exact (hR0 _).mono (fun e w' h => ⟨h.1, hall _ (Fq.gtrans (hG _) h.2)⟩))))
      refine wpQuiet_nil ?_
      rintro _ ⟨nq, rfl⟩
      have gq : Kp W (G nq) := hG nq
      clear cc0 cc1 cc2 cc3 cc4 cc5 cc6 cc7 cc8 cc9 cc10 cc11 hall hG tG
      go_wp2_with fail
      go_meet
      exact ⟨rfl, gq⟩)
  case rest =>
  obtain ⟨rfl, gw⟩ := hcut
  replace qa := Fq.H2.keep qa gw
  replace qb := Fq.H2.keep qb gw
  replace qc := Fq.H2.keep qc gw
  replace qX := H6.keep qX gw
  replace hTW := hTW.kp gw
  replace kW := Kp.trans kW gw
  clear gw
  generalize wc = W at qa qb qc qX hTW kW ⊢
  go_upto_region 10 with fail
  go_cut [77] (fun s77 wx => s77 = .bool false ∧ Kp W wx)
  case first =>
    (
      refine Fq.wp_region_grow (by kernel_rfl) (by kernel_rfl) (fun ι _ G hG hall => ?_)
      have tG : ∀ n, TT (G n) := fun n => hTW.kp (hG n)
      have cc0 : ∀ n, (G n).cell? ⟨ba, 0, none⟩ = some (.float .f64 A1) := fun n => Fq.gkeep (hG n) qa.1
      have cc1 : ∀ n, (G n).cell? ⟨ba, 1, none⟩ = some (.float .f64 A2) := fun n => Fq.gkeep (hG n) qa.2.1
      have cc2 : ∀ n, (G n).cell? ⟨bb, 0, none⟩ = some (.float .f64 B1) := fun n => Fq.gkeep (hG n) qb.1
      have cc3 : ∀ n, (G n).cell? ⟨bb, 1, none⟩ = some (.float .f64 B2) := fun n => Fq.gkeep (hG n) qb.2.1
      have cc4 : ∀ n, (G n).cell? ⟨bc, 0, none⟩ = some (.float .f64 C1) := fun n => Fq.gkeep (hG n) qc.1
      have cc5 : ∀ n, (G n).cell? ⟨bc, 1, none⟩ = some (.float .f64 C2) := fun n => Fq.gkeep (hG n) qc.2.1
      have cc6 : ∀ n, (G n).cell? ⟨w.heap.size, 0, none⟩ = some (.int .u64 X1) := fun n => Fq.gkeep (hG n) qX.1.1
      have cc7 : ∀ n, (G n).cell? ⟨w.heap.size, 1, none⟩ = some (.int .u64 X2) := fun n => Fq.gkeep (hG n) qX.1.2.1
      have cc8 : ∀ n, (G n).cell? ⟨w.heap.size + 1, 0, none⟩ = some (.int .u64 Y1) := fun n => Fq.gkeep (hG n) qX.2.1.1
      have cc9 : ∀ n, (G n).cell? ⟨w.heap.size + 1, 1, none⟩ = some (.int .u64 Y2) := fun n => Fq.gkeep (hG n) qX.2.1.2.1
      have cc10 : ∀ n, (G n).cell? ⟨w.heap.size + 2, 0, none⟩ = some (.int .u64 Z1) := fun n => Fq.gkeep (hG n) qX.2.2.1
      have cc11 : ∀ n, (G n).cell? ⟨w.heap.size + 2, 1, none⟩ = some (.int .u64 Z2) := fun n => Fq.gkeep (hG n) qX.2.2.2.1
      repeat (go_big_quiet_step (first | (go_at_call 12; exact (hI 12 _ _ _ _ _ _ (by with_reducible first | exact fi0 | exact fi1 | exact fi2 | exact fi3 | exact fi4 | exact fi5 | exact fi6 | exact fi7 | exact fi8 | exact fi9) _ (tG _)).mono (fun e w' h => ⟨h.1, hall _ (Fq.gtrans (hG _) h.2)⟩)) | (go_at_call 13; exact (hI 13 _ _ _ _ _ _ (by with_reducible first | exact fi0 | exact fi1 | exact fi2 | exact fi3 | exact fi4 | exact fi5 | exact fi6 | exact fi7 | exact fi8 | exact fi9) _ (tG _)).mono (fun e w' h => ⟨h.1, hall _ (Fq.gtrans (hG _) h.2)⟩)) | (go_at_call 14; exact (hI 14 _ _ _ _ _ _ (by with_reducible first | exact fi0 | exact fi1 | exact fi2 | exact fi3 | exact fi4 | exact fi5 | exact fi6 | exact fi7 | exact fi8 | exact fi9) _ (tG _)).mono (fun e w' h => ⟨h.1, hall _ (Fq.gtrans (hG _) h.2)⟩)) | (go_at_call 25; exact (hI 25 _ _ _ _ _ _ (by with_reducible first | exact fi0 | exact fi1 | exact fi2 | exact fi3 | exact fi4 | exact fi5 | exact fi6 | exact fi7 | exact fi8 | exact fi9) _ (tG _)).mono (fun e w' h => ⟨h.1, hall _ (Fq.gtrans (hG _) h.2)⟩)) | (go_at_call 15; exact (hU 15 _ _ _ _ (by with_reducible first | exact fu0 | exact fu1 | exact fu2 | exact fu3 | exact fu4 | exact fu5) _ (tG _)).mono (fun e w' h => ⟨h.1, hall _ (Fq.gtrans (hG _) h.2)⟩)) | (go_at_call 24; exact (hU 24 _ _ _ _ (by with_reducible first | exact fu0 | exact fu1 | exact fu2 | exact fu3 | exact fu4 | exact fu5) _ (tG _)).mono (fun e w' h => ⟨h.1, hall _ (Fq.gtrans (hG _) h.2)⟩)) | (go_at_call 18; exact (hF _ _ _ _ _ _ _ _ (by with_reducible first | exact ff0 | exact ff1) _ (tG _)).mono (fun e w' h => ⟨h.1, hall _ (Fq.gtrans (hG _) h.2)⟩)) | (go_at_call 22; exact (hO _ _ _).mono (fun e w' h => ⟨h.1, hall _ (Fq.gtrans (hG _) h.2)⟩)) | (go_at_call_of 26 (Value.agg #[.int .u64 X1, .int .u64 X2]); exact (hR0 _).mono (fun e w' h => ⟨h.1, hall _ (Fq.gtrans (hG _) h.2)⟩))))
      refine wpQuiet_nil ?_
      rintro _ ⟨nq, rfl⟩
      have gq : Kp W (G nq) := hG nq
      clear cc0 cc1 cc2 cc3 cc4 cc5 cc6 cc7 cc8 cc9 cc10 cc11 hall hG tG
      go_wp2_with fail
      go_meet
      exact ⟨rfl, gq⟩)
  case rest =>
  obtain ⟨rfl, gw⟩ := hcut
  replace qa := Fq.H2.keep qa gw
  replace qb := Fq.H2.keep qb gw
  replace qc := Fq.H2.keep qc gw
  replace qX := H6.keep qX gw
  replace hTW := hTW.kp gw
  replace kW := Kp.trans kW gw
  clear gw
  generalize wc = W at qa qb qc qX hTW kW ⊢
  go_upto_region 12 with fail
  refine Fq.wp_region_grow (by kernel_rfl) (by kernel_rfl) (fun ι _ G hG hall => ?_)
  have tG : ∀ n, TT (G n) := fun n => hTW.kp (hG n)
  have cc0 : ∀ n, (G n).cell? ⟨ba, 0, none⟩ = some (.float .f64 A1) := fun n => Fq.gkeep (hG n) qa.1
  have cc1 : ∀ n, (G n).cell? ⟨ba, 1, none⟩ = some (.float .f64 A2) := fun n => Fq.gkeep (hG n) qa.2.1
  have cc2 : ∀ n, (G n).cell? ⟨bb, 0, none⟩ = some (.float .f64 B1) := fun n => Fq.gkeep (hG n) qb.1
  have cc3 : ∀ n, (G n).cell? ⟨bb, 1, none⟩ = some (.float .f64 B2) := fun n => Fq.gkeep (hG n) qb.2.1
  have cc4 : ∀ n, (G n).cell? ⟨bc, 0, none⟩ = some (.float .f64 C1) := fun n => Fq.gkeep (hG n) qc.1
  have cc5 : ∀ n, (G n).cell? ⟨bc, 1, none⟩ = some (.float .f64 C2) := fun n => Fq.gkeep (hG n) qc.2.1
  have cc6 : ∀ n, (G n).cell? ⟨w.heap.size, 0, none⟩ = some (.int .u64 X1) := fun n => Fq.gkeep (hG n) qX.1.1
  have cc7 : ∀ n, (G n).cell? ⟨w.heap.size, 1, none⟩ = some (.int .u64 X2) := fun n => Fq.gkeep (hG n) qX.1.2.1
  have cc8 : ∀ n, (G n).cell? ⟨w.heap.size + 1, 0, none⟩ = some (.int .u64 Y1) := fun n => Fq.gkeep (hG n) qX.2.1.1
  have cc9 : ∀ n, (G n).cell? ⟨w.heap.size + 1, 1, none⟩ = some (.int .u64 Y2) := fun n => Fq.gkeep (hG n) qX.2.1.2.1
  have cc10 : ∀ n, (G n).cell? ⟨w.heap.size + 2, 0, none⟩ = some (.int .u64 Z1) := fun n => Fq.gkeep (hG n) qX.2.2.1
  have cc11 : ∀ n, (G n).cell? ⟨w.heap.size + 2, 1, none⟩ = some (.int .u64 Z2) := fun n => Fq.gkeep (hG n) qX.2.2.2.1
  repeat (go_big_quiet_step (first | (go_at_call 12; exact (hI 12 _ _ _ _ _ _ (by with_reducible first | exact fi0 | exact fi1 | exact fi2 | exact fi3 | exact fi4 | exact fi5 | exact fi6 | exact fi7 | exact fi8 | exact fi9) _ (tG _)).mono (fun e w' h => ⟨h.1, hall _ (Fq.gtrans (hG _) h.2)⟩)) | (go_at_call 13; exact (hI 13 _ _ _ _ _ _ (by with_reducible first | exact fi0 | exact fi1 | exact fi2 | exact fi3 | exact fi4 | exact fi5 | exact fi6 | exact fi7 | exact fi8 | exact fi9) _ (tG _)).mono (fun e w' h => ⟨h.1, hall _ (Fq.gtrans (hG _) h.2)⟩)) | (go_at_call 14; exact (hI 14 _ _ _ _ _ _ (by with_reducible first | exact fi0 | exact fi1 | exact fi2 | exact fi3 | exact fi4 | exact fi5 | exact fi6 | exact fi7 | exact fi8 | exact fi9) _ (tG _)).mono (fun e w' h => ⟨h.1, hall _ (Fq.gtrans (hG _) h.2)⟩)) | (go_at_call 25; exact (hI 25 _ _ _ _ _ _ (by with_reducible first | exact fi0 | exact fi1 | exact fi2 | exact fi3 | exact fi4 | exact fi5 | exact fi6 | exact fi7 | exact fi8 | exact fi9) _ (tG _)).mono (fun e w' h => ⟨h.1, hall _ (Fq.gtrans (hG _) h.2)⟩)) | (go_at_call 15; exact (hU 15 _ _ _ _ (by with_reducible first | exact fu0 | exact fu1 | exact fu2 | exact fu3 | exact fu4 | exact fu5) _ (tG _)).mono (fun e w' h => ⟨h.1, hall _ (Fq.gtrans (hG _) h.2)⟩)) | (go_at_call 24; exact (hU 24 _ _ _ _ (by with_reducible first | exact fu0 | exact fu1 | exact fu2 | exact fu3 | exact fu4 | exact fu5) _ (tG _)).mono (fun e w' h => ⟨h.1, hall _ (Fq.gtrans (hG _) h.2)⟩)) | (go_at_call 18; exact (hF _ _ _ _ _ _ _ _ (by with_reducible first | exact ff0 | exact ff1) _ (tG _)).mono (fun e w' h => ⟨h.1, hall _ (Fq.gtrans (hG _) h.2)⟩)) | (go_at_call 22; exact (hO _ _ _).mono (fun e w' h => ⟨h.1, hall _ (Fq.gtrans (hG _) h.2)⟩)) | (go_at_call_of 26 (Value.agg #[.int .u64 X1, .int .u64 X2]); exact (hR0 _).mono (fun e w' h => ⟨h.1, hall _ (Fq.gtrans (hG _) h.2)⟩))))
  refine wpQuiet_nil ?_
  rintro _ ⟨nq, rfl⟩
  have gq : Kp W (G nq) := hG nq
  clear cc0 cc1 cc2 cc3 cc4 cc5 cc6 cc7 cc8 cc9 cc10 cc11 hall hG tG
  go_wp2
  exact bodyPost_ret (v := .bool true) (by simp [results, Tryz.results5, go_sem]) rfl ⟨rfl, (Kp.trans kW gq)⟩

def pI (x : Int) : Int := ((pw x : Nat) : Int)
theorem rread9_ (a b : Nat) (L H : Int) (h : Rd a b L H) (w : World) : Calls Tryz.prog 26 #[.agg #[.int .u64 ((a : Nat) : Int), .int .u64 ((b : Nat) : Int)]] w fun e w' => e = .returned (.agg #[.int .u64 (pI L), .int .u64 (pI H)]) ∧ Kp w w' := by
  have e1 := h.2.2.2.1
  have e2 := h.2.2.2.2
  unfold pI
  rw [← e1, ← e2]
  obtain ⟨n, m, hm, rfl⟩ := Fq.exD a h.1
  obtain ⟨n', m', hm', rfl⟩ := Fq.exD b h.2.1
  exact Fq.rread_ n n' m m' hm hm' w
set_option linter.unusedVariables false

theorem turns_ (a b c d e5 f5 : Nat) (ha : a < 18446744073709551616) (hb : b < 18446744073709551616) (hc : c < 18446744073709551616) (hd : d < 18446744073709551616) (he : e5 < 18446744073709551616) (hf : f5 < 18446744073709551616) (w : World) (hT : Tab w) (hQ : Fq.Tab w) : Calls Tryz.prog 5 #[.agg #[.int .u64 ((a : Nat) : Int), .int .u64 ((b : Nat) : Int)], .agg #[.int .u64 ((c : Nat) : Int), .int .u64 ((d : Nat) : Int)], .agg #[.int .u64 ((e5 : Nat) : Int), .int .u64 ((f5 : Nat) : Int)]] w fun e w' => e = .returned (.bool true) ∧ Kp w w' := by
  obtain ⟨K, hK⟩ : ∃ K : Nat, K = 1074 := ⟨_, rfl⟩
  obtain ⟨L1, H1, r1⟩ := Rd.ex a b ha hb
  obtain ⟨L2, H2, r2⟩ := Rd.ex c d hc hd
  obtain ⟨L3, H3, r3⟩ := Rd.ex e5 f5 he hf
  have d1 := r1.vd
  have d2 := r2.vd
  have d3 := r3.vd
  have rn := Rd.of (vd_neg _ _ d1)
  have rm := Rd.of (vd_mul K _ _ _ _ d1 d2)
  have rk := Rd.of (vd_div K _ _ _ _ d1 d2)
  have i1 := add9_ a b c d L1 H1 L2 H2 r1 r2
  have i2 := add9_ c d a b L2 H2 L1 H1 r2 r1
  rw [(a_sym L1 H1 L2 H2).1, (a_sym L1 H1 L2 H2).2] at i2
  have i3 := mul9_ K hK a b c d L1 H1 L2 H2 r1 r2
  have i4 := mul9_ K hK c d a b L2 H2 L1 H1 r2 r1
  rw [(m_sym K L1 H1 L2 H2 d1 d2).1, (m_sym K L1 H1 L2 H2 d1 d2).2] at i4
  have i5 := sub9_ a b c d L1 H1 L2 H2 r1 r2
  have i6 := add9_ a b _ _ L1 H1 (-H2) (-L2) r1 (Rd.of (vd_neg _ _ d2))
  have i7 := div9_ K hK 4607182418800017408 4607182418800017408 c d ((4607182418800017408 : Nat) : Int) ((4607182418800017408 : Nat) : Int) L2 H2 (Rd.num 4607182418800017408 4607182418800017408 (by decide) (by decide) (by decide)) r2
  have i8 := mul9_ K hK _ _ c d _ _ L2 H2 rn r2
  rw [(m_neg K L1 H1 L2 H2 d1 d2).1, (m_neg K L1 H1 L2 H2 d1 d2).2] at i8
  have i9 := div9_ K hK _ _ c d _ _ L2 H2 rn r2
  rw [(d_neg K L1 H1 L2 H2 d1 d2).1, (d_neg K L1 H1 L2 H2 d1 d2).2] at i9
  have i10 := div9_ K hK a b c d L1 H1 L2 H2 r1 r2
  have u1 := neg9_ a b L1 H1 r1
  have u2 := neg9_ _ _ _ _ rn
  rw [Int.neg_neg, Int.neg_neg] at u2
  have u3 := neg9_ c d L2 H2 r2
  have u4 := recip9_ K hK c d L2 H2 r2
  have u5 := neg9_ _ _ _ _ rm
  have u6 := neg9_ _ _ _ _ rk
  have g1 := fma9_ K hK a b c d e5 f5 L1 H1 L2 H2 L3 H3 r1 r2 r3
  have g2 := fma9_ K hK c d a b e5 f5 L2 H2 L1 H1 L3 H3 r2 r1 r3
  rw [(f_sym K L1 H1 L2 H2 L3 H3 d1 d2).1, (f_sym K L1 H1 L2 H2 L3 H3 d1 d2).2] at g2
  have hr := rread9_ a b L1 H1 r1
  exact ivalturnsA_ _ _ _ _ _ _ a b c d e5 f5 (pw (aLo L1 H1 L2 H2)) (pw (aHi L1 H1 L2 H2)) (pw (mLo K L1 H1 L2 H2)) (pw (mHi K L1 H1 L2 H2)) (pw (aLo L1 H1 (-H2) (-L2))) (pw (aHi L1 H1 (-H2) (-L2))) (pw (-H2)) (pw (-L2)) (pw (dLo K 4607182418800017408 4607182418800017408 L2 H2)) (pw (dHi K 4607182418800017408 4607182418800017408 L2 H2)) (pw (-H1)) (pw (-L1)) (pw (-(mHi K L1 H1 L2 H2))) (pw (-(mLo K L1 H1 L2 H2))) (pw (-(dHi K L1 H1 L2 H2))) (pw (-(dLo K L1 H1 L2 H2))) (pw (dLo K L1 H1 L2 H2)) (pw (dHi K L1 H1 L2 H2)) (pw L1) (pw H1) (pw (fLo K L1 H1 L2 H2 L3 H3)) (pw (fHi K L1 H1 L2 H2 L3 H3)) (fun f x1 x2 y1 y2 z1 z2 => ∀ w : World, TT w → Calls Tryz.prog f #[.agg #[.float .f64 x1, .float .f64 x2], .agg #[.float .f64 y1, .float .f64 y2]] w fun e w' => e = .returned (.agg #[.float .f64 z1, .float .f64 z2]) ∧ Kp w w') (fun f x1 x2 z1 z2 => ∀ w : World, TT w → Calls Tryz.prog f #[.agg #[.float .f64 x1, .float .f64 x2]] w fun e w' => e = .returned (.agg #[.float .f64 z1, .float .f64 z2]) ∧ Kp w w') (fun x1 x2 y1 y2 z1 z2 r1 r2 => ∀ w : World, TT w → Calls Tryz.prog 18 #[.agg #[.float .f64 x1, .float .f64 x2], .agg #[.float .f64 y1, .float .f64 y2], .agg #[.float .f64 z1, .float .f64 z2]] w fun e w' => e = .returned (.agg #[.float .f64 r1, .float .f64 r2]) ∧ Kp w w') (fun x => (x : Int)) (fun _ _ _ _ _ _ _ h => h) (fun _ _ _ _ _ h => h) (fun _ _ _ _ _ _ _ _ h => h) (fun x1 x2 w => out9_ x1 x2 w) hr i1 i2 i3 i4 i5 i6 i7 i8 i9 i10 (fun w _ => u1 w) (fun w _ => u2 w) (fun w _ => u3 w) u4 (fun w _ => u5 w) (fun w _ => u6 w) g1 g2 (in9_ a b) (in9_ c d) (in9_ e5 f5) awake6_ w ⟨hT, hQ⟩
end Go.Proofs.YtkheefoabcibkaaGreatDoor
