import Derived.Test.YthdnajcgdngmcaaGreatDoorKWUm
namespace Go.Proofs.YthdnajcgdngmcaaGreatDoor
open Go.RowKit
set_option linter.unusedVariables false
set_option maxRecDepth 20000 in
set_option maxHeartbeats 8000000 in
theorem known7A_ (PP : Nat → Nat → Int → Nat → Nat → Prop) (PI : Nat → Nat → Nat → Nat → Nat → Nat → Nat → Prop) (PU : Nat → Nat → Nat → Nat → Nat → Prop) (hP : ∀ x1 x2 N z1 z2, PP x1 x2 N z1 z2 → ∀ w : World, TU7 w → Calls Tryz.prog 11 #[.agg #[.float .f64 x1, .float .f64 x2], .int .i64 N] w fun e w' => e = .returned (.agg #[.float .f64 z1, .float .f64 z2]) ∧ Kp w w') (hI : ∀ f x1 x2 y1 y2 z1 z2, PI f x1 x2 y1 y2 z1 z2 → ∀ w : World, TU7 w → Calls Tryz.prog f #[.agg #[.float .f64 x1, .float .f64 x2], .agg #[.float .f64 y1, .float .f64 y2]] w fun e w' => e = .returned (.agg #[.float .f64 z1, .float .f64 z2]) ∧ Kp w w') (hU : ∀ f x1 x2 z1 z2, PU f x1 x2 z1 z2 → ∀ w : World, TU7 w → Calls Tryz.prog f #[.agg #[.float .f64 x1, .float .f64 x2]] w fun e w' => e = .returned (.agg #[.float .f64 z1, .float .f64 z2]) ∧ Kp w w') (hof : ∀ (x y : Nat) (w : World), Calls Tryz.prog 9 #[.float .f64 x, .float .f64 y] w fun e w' => e = .returned (.agg #[.float .f64 x, .float .f64 y]) ∧ Kp w w') (hlv : ∀ w : World, TU7 w → Calls Tryz.prog 10 #[] w fun e w' => e = .returned (.bool true) ∧ Kp w w') (fp0 : PP 13835058055282163712 4613937818241073152 (2) 0 4621256167635550208) (fp1 : PP 18442240474082181120 9218868437227405312 (0) 4607182418800017408 4607182418800017408) (fp2 : PP 0 4616189618054758400 (-1) 4598175219545276416 9218868437227405312) (fp3 : PP 13835058055282163712 4616189618054758400 (-2) 4589168020290535424 9218868437227405312) (fp4 : PP 0 0 (-2) 9218868437227405312 18442240474082181120) (fp5 : PP 13839561654909534208 0 (-3) 18442240474082181120 13803532857890570240) (fp6 : PP 4611686018427387904 9218868437227405312 (-2) 0 4598175219545276416) (fp7 : PP 4621819117588971520 4621819117588971520 (400) 9218868437227405311 9218868437227405312) (fp8 : PP 9223372036854775809 1 (3) 9223372036854775809 1) (fp9 : PP 4591870180066957722 4591870180066957722 (2) 4576918229304087675 4576918229304087676) (fp10 : PP 4607182418800017408 4611686018427387904 (1025) 18442240474082181120 9218868437227405312) (fp11 : PP 9218868437227405312 18442240474082181120 (1025) 9218868437227405312 18442240474082181120) (fi0 : PI 16 4607182418800017408 4616189618054758400 4611686018427387904 4613937818241073152 4607182418800017408 4613937818241073152) (fu0 : PU 12 0 9218868437227405312 0 4607182418800017408) (fu1 : PU 13 13826050856027422720 4609434218613702656 13830554455654793216 4607182418800017408) (fu2 : PU 14 13826050856027422720 4609434218613702656 0 4611686018427387904) (fu3 : PU 15 13832806255468478464 4609434218613702656 13830554455654793216 4607182418800017408) (fu4 : PU 17 4602678819172646912 4612811918334230528 4607182418800017408 4613937818241073152) (fu5 : PU 17 4602678819172646911 4602678819172646911 0 0) (fu6 : PU 18 9218868437227405311 9218868437227405312 9218868437227405311 9218868437227405312) (w : World) (hT : TU7 w) : Calls Tryz.prog 3 #[] w fun e w' => e = .returned (.bool true) ∧ Kp w w' := by
  have hneg : ∀ w : World, (Op.unary .neg (.float .f64 9218868437227405312)).run Tryz.prog w = .ok (.float .f64 18442240474082181120) w := negW8 false 9218868437227405312 (by decide)
  have hneg2 : ∀ w : World, (Op.unary .neg (.float .f64 1)).run Tryz.prog w = .ok (.float .f64 9223372036854775809) w := negW8 false 1 (by decide)
  have e0 := eq7n 0 (by decide +kernel)
  have e1 := eq7n 1 (by decide +kernel)
  have e4576918229304087675 := eq7n 4576918229304087675 (by decide +kernel)
  have e4576918229304087676 := eq7n 4576918229304087676 (by decide +kernel)
  have e4589168020290535424 := eq7n 4589168020290535424 (by decide +kernel)
  have e4598175219545276416 := eq7n 4598175219545276416 (by decide +kernel)
  have e4607182418800017408 := eq7n 4607182418800017408 (by decide +kernel)
  have e4611686018427387904 := eq7n 4611686018427387904 (by decide +kernel)
  have e4613937818241073152 := eq7n 4613937818241073152 (by decide +kernel)
  have e4621256167635550208 := eq7n 4621256167635550208 (by decide +kernel)
  have e9218868437227405311 := eq7n 9218868437227405311 (by decide +kernel)
  have e9218868437227405312 := eq7n 9218868437227405312 (by decide +kernel)
  have e9223372036854775809 := eq7n 9223372036854775809 (by decide +kernel)
  have e13803532857890570240 := eq7n 13803532857890570240 (by decide +kernel)
  have e13830554455654793216 := eq7n 13830554455654793216 (by decide +kernel)
  have e18442240474082181120 := eq7n 18442240474082181120 (by decide +kernel)
  go_enter Tryz.func3, Tryz.ntmps3
  go_upto_region 6 with (first | (go_at_call 8; refine (Fq.inf1_ _).mono ?_; rintro e w' ⟨rfl, hw'⟩; obtain rfl := hw'.symm; clear hw') | (go_at_call 9; refine (hof _ _ _).mono ?_; first | (rintro e w2 ⟨rfl, g2⟩; have q9 := g1; have qv := Fq.H2.keep (Fq.H2.new w1 (.float .f64 9218868437227405312) (.float .f64 18442240474082181120) 25) g2) | (rintro e w1 ⟨rfl, g1⟩)))
  have kW : Kp w (w2.alloc (.cells #[.float .f64 18442240474082181120, .float .f64 9218868437227405312] 25)) := (Kp.trans (Kp.trans g1 ((Kp.refl _).alloc _)) g2).alloc _
  replace qv := Fq.H2.past qv #[.float .f64 18442240474082181120, .float .f64 9218868437227405312] 25
  have qa := Fq.H2.new w2 (.float .f64 18442240474082181120) (.float .f64 9218868437227405312) 25
  have hTW := hT.kp kW
  clear g1 g2 q9
  generalize w2.alloc (.cells #[.float .f64 18442240474082181120, .float .f64 9218868437227405312] 25) = W at kW qv qa hTW ⊢
  generalize w1.heap.size = bv at qv ⊢
  generalize w2.heap.size = ba at qa ⊢
  go_upto_region 6 with fail
  go_cut [45] (fun s45 wx => s45 = .bool false ∧ Kp W wx)
  case first =>
    (
      have gq := Kp.refl W
      obtain ⟨qv0, qv1, qv2, qv3⟩ := id qv
      obtain ⟨qa0, qa1, qa2, qa3⟩ := id qa
      go_wp2_with (first | (go_at_call 11; refine (hP _ _ _ _ _ (by first | exact fp0 | exact fp1 | exact fp2 | exact fp3 | exact fp4 | exact fp5 | exact fp6 | exact fp7 | exact fp8 | exact fp9 | exact fp10 | exact fp11) _ hTW).mono ?_; rintro e wx ⟨rfl, gx⟩; replace gq := Kp.trans gq gx; replace hTW := hTW.kp gx; replace qv := Fq.H2.keep qv gx; replace qa := Fq.H2.keep qa gx; clear gx; obtain ⟨qv0, qv1, qv2, qv3⟩ := id qv; obtain ⟨qa0, qa1, qa2, qa3⟩ := id qa) | (go_at_call 16; refine (hI 16 _ _ _ _ _ _ (by first | exact fi0) _ hTW).mono ?_; rintro e wx ⟨rfl, gx⟩; replace gq := Kp.trans gq gx; replace hTW := hTW.kp gx; replace qv := Fq.H2.keep qv gx; replace qa := Fq.H2.keep qa gx; clear gx; obtain ⟨qv0, qv1, qv2, qv3⟩ := id qv; obtain ⟨qa0, qa1, qa2, qa3⟩ := id qa) | (go_at_call 12; refine (hU 12 _ _ _ _ (by first | exact fu0 | exact fu1 | exact fu2 | exact fu3 | exact fu4 | exact fu5 | exact fu6) _ hTW).mono ?_; rintro e wx ⟨rfl, gx⟩; replace gq := Kp.trans gq gx; replace hTW := hTW.kp gx; replace qv := Fq.H2.keep qv gx; replace qa := Fq.H2.keep qa gx; clear gx; obtain ⟨qv0, qv1, qv2, qv3⟩ := id qv; obtain ⟨qa0, qa1, qa2, qa3⟩ := id qa) | (go_at_call 13; refine (hU 13 _ _ _ _ (by first | exact fu0 | exact fu1 | exact fu2 | exact fu3 | exact fu4 | exact fu5 | exact fu6) _ hTW).mono ?_; rintro e wx ⟨rfl, gx⟩; replace gq := Kp.trans gq gx; replace hTW := hTW.kp gx; replace qv := Fq.H2.keep qv gx; replace qa := Fq.H2.keep qa gx; clear gx; obtain ⟨qv0, qv1, qv2, qv3⟩ := id qv; obtain ⟨qa0, qa1, qa2, qa3⟩ := id qa) | (go_at_call 14; refine (hU 14 _ _ _ _ (by first | exact fu0 | exact fu1 | exact fu2 | exact fu3 | exact fu4 | exact fu5 | exact fu6) _ hTW).mono ?_; rintro e wx ⟨rfl, gx⟩; replace gq := Kp.trans gq gx; replace hTW := hTW.kp gx; replace qv := Fq.H2.keep qv gx; replace qa := Fq.H2.keep qa gx; clear gx; obtain ⟨qv0, qv1, qv2, qv3⟩ := id qv; obtain ⟨qa0, qa1, qa2, qa3⟩ := id qa) | (go_at_call 15; refine (hU 15 _ _ _ _ (by first | exact fu0 | exact fu1 | exact fu2 | exact fu3 | exact fu4 | exact fu5 | exact fu6) _ hTW).mono ?_; rintro e wx ⟨rfl, gx⟩; replace gq := Kp.trans gq gx; replace hTW := hTW.kp gx; replace qv := Fq.H2.keep qv gx; replace qa := Fq.H2.keep qa gx; clear gx; obtain ⟨qv0, qv1, qv2, qv3⟩ := id qv; obtain ⟨qa0, qa1, qa2, qa3⟩ := id qa) | (go_at_call 17; refine (hU 17 _ _ _ _ (by first | exact fu0 | exact fu1 | exact fu2 | exact fu3 | exact fu4 | exact fu5 | exact fu6) _ hTW).mono ?_; rintro e wx ⟨rfl, gx⟩; replace gq := Kp.trans gq gx; replace hTW := hTW.kp gx; replace qv := Fq.H2.keep qv gx; replace qa := Fq.H2.keep qa gx; clear gx; obtain ⟨qv0, qv1, qv2, qv3⟩ := id qv; obtain ⟨qa0, qa1, qa2, qa3⟩ := id qa) | (go_at_call 18; refine (hU 18 _ _ _ _ (by first | exact fu0 | exact fu1 | exact fu2 | exact fu3 | exact fu4 | exact fu5 | exact fu6) _ hTW).mono ?_; rintro e wx ⟨rfl, gx⟩; replace gq := Kp.trans gq gx; replace hTW := hTW.kp gx; replace qv := Fq.H2.keep qv gx; replace qa := Fq.H2.keep qa gx; clear gx; obtain ⟨qv0, qv1, qv2, qv3⟩ := id qv; obtain ⟨qa0, qa1, qa2, qa3⟩ := id qa) | (go_at_call 9; refine (hof _ _ _).mono ?_; rintro e wx ⟨rfl, gx⟩; replace gq := Kp.trans gq gx; replace hTW := hTW.kp gx; replace qv := Fq.H2.keep qv gx; replace qa := Fq.H2.keep qa gx; clear gx; obtain ⟨qv0, qv1, qv2, qv3⟩ := id qv; obtain ⟨qa0, qa1, qa2, qa3⟩ := id qa) | (go_at_call 10; refine (hlv _ hTW).mono ?_; rintro e wx ⟨rfl, gx⟩; replace gq := Kp.trans gq gx; replace hTW := hTW.kp gx; replace qv := Fq.H2.keep qv gx; replace qa := Fq.H2.keep qa gx; clear gx; obtain ⟨qv0, qv1, qv2, qv3⟩ := id qv; obtain ⟨qa0, qa1, qa2, qa3⟩ := id qa))
      go_meet
      exact ⟨rfl, gq⟩)
  case rest =>
  obtain ⟨rfl, gw⟩ := hcut
  replace qv := Fq.H2.keep qv gw
  replace qa := Fq.H2.keep qa gw
  replace hTW := hTW.kp gw
  replace kW := Kp.trans kW gw
  clear gw
  generalize wc = W at qv qa hTW kW ⊢
  go_upto_region 8 with fail
  go_cut [84] (fun s84 wx => s84 = .bool false ∧ Kp W wx)
  case first =>
    (
      refine Fq.wp_region_grow (by kernel_rfl) (by kernel_rfl) (fun ι _ G hG hall => ?_)
      have tG : ∀ n, TU7 (G n) := fun n => hTW.kp (hG n)
      have cc0 : ∀ n, (G n).cell? ⟨bv, 0, none⟩ = some (.float .f64 9218868437227405312) := fun n => Fq.gkeep (hG n) qv.1
      have cc1 : ∀ n, (G n).cell? ⟨bv, 1, none⟩ = some (.float .f64 18442240474082181120) := fun n => Fq.gkeep (hG n) qv.2.1
      have cc2 : ∀ n, (G n).cell? ⟨ba, 0, none⟩ = some (.float .f64 18442240474082181120) := fun n => Fq.gkeep (hG n) qa.1
      have cc3 : ∀ n, (G n).cell? ⟨ba, 1, none⟩ = some (.float .f64 9218868437227405312) := fun n => Fq.gkeep (hG n) qa.2.1
      repeat (go_big_quiet_step (first | (go_at_call 11; exact (hP _ _ _ _ _ (by first | exact fp0 | exact fp1 | exact fp2 | exact fp3 | exact fp4 | exact fp5 | exact fp6 | exact fp7 | exact fp8 | exact fp9 | exact fp10 | exact fp11) _ (tG _)).mono (fun e w' h => ⟨h.1, hall _ (Fq.gtrans (hG _) h.2)⟩)) | (go_at_call 16; exact (hI 16 _ _ _ _ _ _ (by first | exact fi0) _ (tG _)).mono (fun e w' h => ⟨h.1, hall _ (Fq.gtrans (hG _) h.2)⟩)) | (go_at_call 12; exact (hU 12 _ _ _ _ (by first | exact fu0 | exact fu1 | exact fu2 | exact fu3 | exact fu4 | exact fu5 | exact fu6) _ (tG _)).mono (fun e w' h => ⟨h.1, hall _ (Fq.gtrans (hG _) h.2)⟩)) | (go_at_call 13; exact (hU 13 _ _ _ _ (by first | exact fu0 | exact fu1 | exact fu2 | exact fu3 | exact fu4 | exact fu5 | exact fu6) _ (tG _)).mono (fun e w' h => ⟨h.1, hall _ (Fq.gtrans (hG _) h.2)⟩)) | (go_at_call 14; exact (hU 14 _ _ _ _ (by first | exact fu0 | exact fu1 | exact fu2 | exact fu3 | exact fu4 | exact fu5 | exact fu6) _ (tG _)).mono (fun e w' h => ⟨h.1, hall _ (Fq.gtrans (hG _) h.2)⟩)) | (go_at_call 15; exact (hU 15 _ _ _ _ (by first | exact fu0 | exact fu1 | exact fu2 | exact fu3 | exact fu4 | exact fu5 | exact fu6) _ (tG _)).mono (fun e w' h => ⟨h.1, hall _ (Fq.gtrans (hG _) h.2)⟩)) | (go_at_call 17; exact (hU 17 _ _ _ _ (by first | exact fu0 | exact fu1 | exact fu2 | exact fu3 | exact fu4 | exact fu5 | exact fu6) _ (tG _)).mono (fun e w' h => ⟨h.1, hall _ (Fq.gtrans (hG _) h.2)⟩)) | (go_at_call 18; exact (hU 18 _ _ _ _ (by first | exact fu0 | exact fu1 | exact fu2 | exact fu3 | exact fu4 | exact fu5 | exact fu6) _ (tG _)).mono (fun e w' h => ⟨h.1, hall _ (Fq.gtrans (hG _) h.2)⟩)) | (go_at_call 9; exact (hof _ _ _).mono (fun e w' h => ⟨h.1, hall _ (Fq.gtrans (hG _) h.2)⟩))))
      refine wpQuiet_nil ?_
      rintro _ ⟨nq, rfl⟩
      have gq : Kp W (G nq) := hG nq
      clear cc0 cc1 cc2 cc3 hall hG tG
      go_wp2_with fail
      go_meet
      exact ⟨rfl, gq⟩)
  case rest =>
  obtain ⟨rfl, gw⟩ := hcut
  replace qv := Fq.H2.keep qv gw
  replace qa := Fq.H2.keep qa gw
  replace hTW := hTW.kp gw
  replace kW := Kp.trans kW gw
  clear gw
  generalize wc = W at qv qa hTW kW ⊢
  go_upto_region 10 with fail
  go_cut [100] (fun s100 wx => s100 = .bool false ∧ Kp W wx)
  case first =>
    (
      refine Fq.wp_region_grow (by kernel_rfl) (by kernel_rfl) (fun ι _ G hG hall => ?_)
      have tG : ∀ n, TU7 (G n) := fun n => hTW.kp (hG n)
      have cc0 : ∀ n, (G n).cell? ⟨bv, 0, none⟩ = some (.float .f64 9218868437227405312) := fun n => Fq.gkeep (hG n) qv.1
      have cc1 : ∀ n, (G n).cell? ⟨bv, 1, none⟩ = some (.float .f64 18442240474082181120) := fun n => Fq.gkeep (hG n) qv.2.1
      have cc2 : ∀ n, (G n).cell? ⟨ba, 0, none⟩ = some (.float .f64 18442240474082181120) := fun n => Fq.gkeep (hG n) qa.1
      have cc3 : ∀ n, (G n).cell? ⟨ba, 1, none⟩ = some (.float .f64 9218868437227405312) := fun n => Fq.gkeep (hG n) qa.2.1
      repeat (go_big_quiet_step (first | (go_at_call 11; exact (hP _ _ _ _ _ (by first | exact fp0 | exact fp1 | exact fp2 | exact fp3 | exact fp4 | exact fp5 | exact fp6 | exact fp7 | exact fp8 | exact fp9 | exact fp10 | exact fp11) _ (tG _)).mono (fun e w' h => ⟨h.1, hall _ (Fq.gtrans (hG _) h.2)⟩)) | (go_at_call 16; exact (hI 16 _ _ _ _ _ _ (by first | exact fi0) _ (tG _)).mono (fun e w' h => ⟨h.1, hall _ (Fq.gtrans (hG _) h.2)⟩)) | (go_at_call 12; exact (hU 12 _ _ _ _ (by first | exact fu0 | exact fu1 | exact fu2 | exact fu3 | exact fu4 | exact fu5 | exact fu6) _ (tG _)).mono (fun e w' h => ⟨h.1, hall _ (Fq.gtrans (hG _) h.2)⟩)) | (go_at_call 13; exact (hU 13 _ _ _ _ (by first | exact fu0 | exact fu1 | exact fu2 | exact fu3 | exact fu4 | exact fu5 | exact fu6) _ (tG _)).mono (fun e w' h => ⟨h.1, hall _ (Fq.gtrans (hG _) h.2)⟩)) | (go_at_call 14; exact (hU 14 _ _ _ _ (by first | exact fu0 | exact fu1 | exact fu2 | exact fu3 | exact fu4 | exact fu5 | exact fu6) _ (tG _)).mono (fun e w' h => ⟨h.1, hall _ (Fq.gtrans (hG _) h.2)⟩)) | (go_at_call 15; exact (hU 15 _ _ _ _ (by first | exact fu0 | exact fu1 | exact fu2 | exact fu3 | exact fu4 | exact fu5 | exact fu6) _ (tG _)).mono (fun e w' h => ⟨h.1, hall _ (Fq.gtrans (hG _) h.2)⟩)) | (go_at_call 17; exact (hU 17 _ _ _ _ (by first | exact fu0 | exact fu1 | exact fu2 | exact fu3 | exact fu4 | exact fu5 | exact fu6) _ (tG _)).mono (fun e w' h => ⟨h.1, hall _ (Fq.gtrans (hG _) h.2)⟩)) | (go_at_call 18; exact (hU 18 _ _ _ _ (by first | exact fu0 | exact fu1 | exact fu2 | exact fu3 | exact fu4 | exact fu5 | exact fu6) _ (tG _)).mono (fun e w' h => ⟨h.1, hall _ (Fq.gtrans (hG _) h.2)⟩)) | (go_at_call 9; exact (hof _ _ _).mono (fun e w' h => ⟨h.1, hall _ (Fq.gtrans (hG _) h.2)⟩))))
      refine wpQuiet_nil ?_
      rintro _ ⟨nq, rfl⟩
      have gq : Kp W (G nq) := hG nq
      clear cc0 cc1 cc2 cc3 hall hG tG
      go_wp2_with fail
      go_meet
      exact ⟨rfl, gq⟩)
  case rest =>
  obtain ⟨rfl, gw⟩ := hcut
  replace qv := Fq.H2.keep qv gw
  replace qa := Fq.H2.keep qa gw
  replace hTW := hTW.kp gw
  replace kW := Kp.trans kW gw
  clear gw
  generalize wc = W at qv qa hTW kW ⊢
  go_upto_region 12 with fail
  go_cut [130] (fun s130 wx => s130 = .bool false ∧ Kp W wx)
  case first =>
    (
      have gq := Kp.refl W
      obtain ⟨qv0, qv1, qv2, qv3⟩ := id qv
      obtain ⟨qa0, qa1, qa2, qa3⟩ := id qa
      go_wp2_with (first | (go_at_call 11; refine (hP _ _ _ _ _ (by first | exact fp0 | exact fp1 | exact fp2 | exact fp3 | exact fp4 | exact fp5 | exact fp6 | exact fp7 | exact fp8 | exact fp9 | exact fp10 | exact fp11) _ hTW).mono ?_; rintro e wx ⟨rfl, gx⟩; replace gq := Kp.trans gq gx; replace hTW := hTW.kp gx; replace qv := Fq.H2.keep qv gx; replace qa := Fq.H2.keep qa gx; clear gx; obtain ⟨qv0, qv1, qv2, qv3⟩ := id qv; obtain ⟨qa0, qa1, qa2, qa3⟩ := id qa) | (go_at_call 16; refine (hI 16 _ _ _ _ _ _ (by first | exact fi0) _ hTW).mono ?_; rintro e wx ⟨rfl, gx⟩; replace gq := Kp.trans gq gx; replace hTW := hTW.kp gx; replace qv := Fq.H2.keep qv gx; replace qa := Fq.H2.keep qa gx; clear gx; obtain ⟨qv0, qv1, qv2, qv3⟩ := id qv; obtain ⟨qa0, qa1, qa2, qa3⟩ := id qa) | (go_at_call 12; refine (hU 12 _ _ _ _ (by first | exact fu0 | exact fu1 | exact fu2 | exact fu3 | exact fu4 | exact fu5 | exact fu6) _ hTW).mono ?_; rintro e wx ⟨rfl, gx⟩; replace gq := Kp.trans gq gx; replace hTW := hTW.kp gx; replace qv := Fq.H2.keep qv gx; replace qa := Fq.H2.keep qa gx; clear gx; obtain ⟨qv0, qv1, qv2, qv3⟩ := id qv; obtain ⟨qa0, qa1, qa2, qa3⟩ := id qa) | (go_at_call 13; refine (hU 13 _ _ _ _ (by first | exact fu0 | exact fu1 | exact fu2 | exact fu3 | exact fu4 | exact fu5 | exact fu6) _ hTW).mono ?_; rintro e wx ⟨rfl, gx⟩; replace gq := Kp.trans gq gx; replace hTW := hTW.kp gx; replace qv := Fq.H2.keep qv gx; replace qa := Fq.H2.keep qa gx; clear gx; obtain ⟨qv0, qv1, qv2, qv3⟩ := id qv; obtain ⟨qa0, qa1, qa2, qa3⟩ := id qa) | (go_at_call 14; refine (hU 14 _ _ _ _ (by first | exact fu0 | exact fu1 | exact fu2 | exact fu3 | exact fu4 | exact fu5 | exact fu6) _ hTW).mono ?_; rintro e wx ⟨rfl, gx⟩; replace gq := Kp.trans gq gx; replace hTW := hTW.kp gx; replace qv := Fq.H2.keep qv gx; replace qa := Fq.H2.keep qa gx; clear gx; obtain ⟨qv0, qv1, qv2, qv3⟩ := id qv; obtain ⟨qa0, qa1, qa2, qa3⟩ := id qa) | (go_at_call 15; refine (hU 15 _ _ _ _ (by first | exact fu0 | exact fu1 | exact fu2 | exact fu3 | exact fu4 | exact fu5 | exact fu6) _ hTW).mono ?_; rintro e wx ⟨rfl, gx⟩; replace gq := Kp.trans gq gx; replace hTW := hTW.kp gx; replace qv := Fq.H2.keep qv gx; replace qa := Fq.H2.keep qa gx; clear gx; obtain ⟨qv0, qv1, qv2, qv3⟩ := id qv; obtain ⟨qa0, qa1, qa2, qa3⟩ := id qa) | (go_at_call 17; refine (hU 17 _ _ _ _ (by first | exact fu0 | exact fu1 | exact fu2 | exact fu3 | exact fu4 | exact fu5 | exact fu6) _ hTW).mono ?_; rintro e wx ⟨rfl, gx⟩; replace gq := Kp.trans gq gx; replace hTW := hTW.kp gx; replace qv := Fq.H2.keep qv gx; replace qa := Fq.H2.keep qa gx; clear gx; obtain ⟨qv0, qv1, qv2, qv3⟩ := id qv; obtain ⟨qa0, qa1, qa2, qa3⟩ := id qa) | (go_at_call 18; refine (hU 18 _ _ _ _ (by first | exact fu0 | exact fu1 | exact fu2 | exact fu3 | exact fu4 | exact fu5 | exact fu6) _ hTW).mono ?_; rintro e wx ⟨rfl, gx⟩; replace gq := Kp.trans gq gx; replace hTW := hTW.kp gx; replace qv := Fq.H2.keep qv gx; replace qa := Fq.H2.keep qa gx; clear gx; obtain ⟨qv0, qv1, qv2, qv3⟩ := id qv; obtain ⟨qa0, qa1, qa2, qa3⟩ := id qa) | (go_at_call 9; refine (hof _ _ _).mono ?_; rintro e wx ⟨rfl, gx⟩; replace gq := Kp.trans gq gx; replace hTW := hTW.kp gx; replace qv := Fq.H2.keep qv gx; replace qa := Fq.H2.keep qa gx; clear gx; obtain ⟨qv0, qv1, qv2, qv3⟩ := id qv; obtain ⟨qa0, qa1, qa2, qa3⟩ := id qa) | (go_at_call 10; refine (hlv _ hTW).mono ?_; rintro e wx ⟨rfl, gx⟩; replace gq := Kp.trans gq gx; replace hTW := hTW.kp gx; replace qv := Fq.H2.keep qv gx; replace qa := Fq.H2.keep qa gx; clear gx; obtain ⟨qv0, qv1, qv2, qv3⟩ := id qv; obtain ⟨qa0, qa1, qa2, qa3⟩ := id qa))
      go_meet
      exact ⟨rfl, gq⟩)
  case rest =>
  obtain ⟨rfl, gw⟩ := hcut
  replace qv := Fq.H2.keep qv gw
  replace qa := Fq.H2.keep qa gw
  replace hTW := hTW.kp gw
  replace kW := Kp.trans kW gw
  clear gw
  generalize wc = W at qv qa hTW kW ⊢
  have gq := Kp.refl W
  obtain ⟨qv0, qv1, qv2, qv3⟩ := id qv
  obtain ⟨qa0, qa1, qa2, qa3⟩ := id qa
  go_wp2_with (first | (go_at_call 11; refine (hP _ _ _ _ _ (by first | exact fp0 | exact fp1 | exact fp2 | exact fp3 | exact fp4 | exact fp5 | exact fp6 | exact fp7 | exact fp8 | exact fp9 | exact fp10 | exact fp11) _ hTW).mono ?_; rintro e wx ⟨rfl, gx⟩; replace gq := Kp.trans gq gx; replace hTW := hTW.kp gx; replace qv := Fq.H2.keep qv gx; replace qa := Fq.H2.keep qa gx; clear gx; obtain ⟨qv0, qv1, qv2, qv3⟩ := id qv; obtain ⟨qa0, qa1, qa2, qa3⟩ := id qa) | (go_at_call 16; refine (hI 16 _ _ _ _ _ _ (by first | exact fi0) _ hTW).mono ?_; rintro e wx ⟨rfl, gx⟩; replace gq := Kp.trans gq gx; replace hTW := hTW.kp gx; replace qv := Fq.H2.keep qv gx; replace qa := Fq.H2.keep qa gx; clear gx; obtain ⟨qv0, qv1, qv2, qv3⟩ := id qv; obtain ⟨qa0, qa1, qa2, qa3⟩ := id qa) | (go_at_call 12; refine (hU 12 _ _ _ _ (by first | exact fu0 | exact fu1 | exact fu2 | exact fu3 | exact fu4 | exact fu5 | exact fu6) _ hTW).mono ?_; rintro e wx ⟨rfl, gx⟩; replace gq := Kp.trans gq gx; replace hTW := hTW.kp gx; replace qv := Fq.H2.keep qv gx; replace qa := Fq.H2.keep qa gx; clear gx; obtain ⟨qv0, qv1, qv2, qv3⟩ := id qv; obtain ⟨qa0, qa1, qa2, qa3⟩ := id qa) | (go_at_call 13; refine (hU 13 _ _ _ _ (by first | exact fu0 | exact fu1 | exact fu2 | exact fu3 | exact fu4 | exact fu5 | exact fu6) _ hTW).mono ?_; rintro e wx ⟨rfl, gx⟩; replace gq := Kp.trans gq gx; replace hTW := hTW.kp gx; replace qv := Fq.H2.keep qv gx; replace qa := Fq.H2.keep qa gx; clear gx; obtain ⟨qv0, qv1, qv2, qv3⟩ := id qv; obtain ⟨qa0, qa1, qa2, qa3⟩ := id qa) | (go_at_call 14; refine (hU 14 _ _ _ _ (by first | exact fu0 | exact fu1 | exact fu2 | exact fu3 | exact fu4 | exact fu5 | exact fu6) _ hTW).mono ?_; rintro e wx ⟨rfl, gx⟩; replace gq := Kp.trans gq gx; replace hTW := hTW.kp gx; replace qv := Fq.H2.keep qv gx; replace qa := Fq.H2.keep qa gx; clear gx; obtain ⟨qv0, qv1, qv2, qv3⟩ := id qv; obtain ⟨qa0, qa1, qa2, qa3⟩ := id qa) | (go_at_call 15; refine (hU 15 _ _ _ _ (by first | exact fu0 | exact fu1 | exact fu2 | exact fu3 | exact fu4 | exact fu5 | exact fu6) _ hTW).mono ?_; rintro e wx ⟨rfl, gx⟩; replace gq := Kp.trans gq gx; replace hTW := hTW.kp gx; replace qv := Fq.H2.keep qv gx; replace qa := Fq.H2.keep qa gx; clear gx; obtain ⟨qv0, qv1, qv2, qv3⟩ := id qv; obtain ⟨qa0, qa1, qa2, qa3⟩ := id qa) | (go_at_call 17; refine (hU 17 _ _ _ _ (by first | exact fu0 | exact fu1 | exact fu2 | exact fu3 | exact fu4 | exact fu5 | exact fu6) _ hTW).mono ?_; rintro e wx ⟨rfl, gx⟩; replace gq := Kp.trans gq gx; replace hTW := hTW.kp gx; replace qv := Fq.H2.keep qv gx; replace qa := Fq.H2.keep qa gx; clear gx; obtain ⟨qv0, qv1, qv2, qv3⟩ := id qv; obtain ⟨qa0, qa1, qa2, qa3⟩ := id qa) | (go_at_call 18; refine (hU 18 _ _ _ _ (by first | exact fu0 | exact fu1 | exact fu2 | exact fu3 | exact fu4 | exact fu5 | exact fu6) _ hTW).mono ?_; rintro e wx ⟨rfl, gx⟩; replace gq := Kp.trans gq gx; replace hTW := hTW.kp gx; replace qv := Fq.H2.keep qv gx; replace qa := Fq.H2.keep qa gx; clear gx; obtain ⟨qv0, qv1, qv2, qv3⟩ := id qv; obtain ⟨qa0, qa1, qa2, qa3⟩ := id qa) | (go_at_call 9; refine (hof _ _ _).mono ?_; rintro e wx ⟨rfl, gx⟩; replace gq := Kp.trans gq gx; replace hTW := hTW.kp gx; replace qv := Fq.H2.keep qv gx; replace qa := Fq.H2.keep qa gx; clear gx; obtain ⟨qv0, qv1, qv2, qv3⟩ := id qv; obtain ⟨qa0, qa1, qa2, qa3⟩ := id qa) | (go_at_call 10; refine (hlv _ hTW).mono ?_; rintro e wx ⟨rfl, gx⟩; replace gq := Kp.trans gq gx; replace hTW := hTW.kp gx; replace qv := Fq.H2.keep qv gx; replace qa := Fq.H2.keep qa gx; clear gx; obtain ⟨qv0, qv1, qv2, qv3⟩ := id qv; obtain ⟨qa0, qa1, qa2, qa3⟩ := id qa))
  exact bodyPost_ret (v := .bool true) (by simp [results, Tryz.results3, go_sem]) rfl ⟨rfl, (Kp.trans kW gq)⟩
end Go.Proofs.YthdnajcgdngmcaaGreatDoor
