import Derived.Test.YthmeefigiekneaaGreatDoorProg
import Derived.Test.YthmeefigiekneaaGreatDoorKXA0
import Derived.Test.YthmeefigiekneaaGreatDoorKXQF
import Derived.Test.YthmeefigiekneaaGreatDoorKQA
import Derived.Test.YthmeefigiekneaaGreatDoorKXQU
import Derived.Test.YthmeefigiekneaaGreatDoorKXEA
import Derived.Test.YthmeefigiekneaaGreatDoorKXNR
import Derived.Test.YthmeefigiekneaaGreatDoorKXM
import Derived.Test.YthmeefigiekneaaGreatDoorKXY
import Derived.Test.YthmeefigiekneaaGreatDoorKQP
import Derived.Test.YthmeefigiekneaaGreatDoorKQB
import Derived.Test.YthmeefigiekneaaGreatDoorKQBT
import Derived.Test.YthmeefigiekneaaGreatDoorKQJd
import Derived.Test.YthmeefigiekneaaGreatDoorKXED
import Derived.Test.YthmeefigiekneaaGreatDoorKMR7Q
import Derived.Test.YthmeefigiekneaaGreatDoorKXMR
import Derived.Test.YthmeefigiekneaaGreatDoorKXM3
import Derived.Test.YthmeefigiekneaaGreatDoorKXO
import Derived.Test.YthmeefigiekneaaGreatDoorKXO3
import Derived.Test.YthmeefigiekneaaGreatDoorKXT
import Derived.Test.YthmeefigiekneaaGreatDoorKXLX
import Derived.Test.YthmeefigiekneaaGreatDoorKRX
import Derived.Test.YthmeefigiekneaaGreatDoorKXRL
import Derived.Test.YthmeefigiekneaaGreatDoorKXCO
import Derived.Test.YthmeefigiekneaaGreatDoorKLN
import Derived.Test.YthmeefigiekneaaGreatDoorKXRN
import Derived.Test.YthmeefigiekneaaGreatDoorKXW4
import Derived.Test.YthmeefigiekneaaGreatDoorKXBY
import Derived.Test.YthmeefigiekneaaGreatDoorKXTZ
import Derived.Test.YthmeefigiekneaaGreatDoorKXG1
import Derived.Test.YthmeefigiekneaaGreatDoorKXH2Q
import Derived.Test.YthmeefigiekneaaGreatDoorKXG4
import Derived.Test.YthmeefigiekneaaGreatDoorKXS1
import Derived.Test.YthmeefigiekneaaGreatDoorKXS6
import Derived.Test.YthmeefigiekneaaGreatDoorKXN
import Derived.Test.YthmeefigiekneaaGreatDoorKXNS
import Derived.Test.YthmeefigiekneaaGreatDoorKXSL
import Derived.Test.YthmeefigiekneaaGreatDoorKXET
import Derived.Test.YthmeefigiekneaaGreatDoorKXEC
import Derived.Test.YthmeefigiekneaaGreatDoorKXMV
import Derived.WalkKit
import Derived.ProofKit
import Derived.RowKit3
import Derived.WalkSpells
import Derived.StillTactics
import Derived.Deep.QuietTactic
import Derived.BigQuiet
import Derived.Below
import Derived.Deep.OwnRows
import Derived.OwnWalk
import Derived.Laws.BitsAllLaws
import Derived.Laws.Slices
import Derived.Laws.Bits64b
import Derived.Laws.FloatArith
import Derived.Deep.RegionHeld3
import Derived.Deep.CutRange
import Derived.Deep.DeepCutAuto
namespace Go.Proofs.YthmeefigiekneaaGreatDoor
open Go.RowKit
set_option linter.unusedVariables false
set_option maxRecDepth 20000 in
set_option maxHeartbeats 1000000 in
theorem rnumA_ (X Y : Int) (E1 E2 : Bool) (i1 : ∀ w : World, Calls Tryz.prog 43 #[.int .u64 X] w fun e w' => e = .returned (.bool E1) ∧ w' = w) (i2 : ∀ w : World, Calls Tryz.prog 43 #[.int .u64 Y] w fun e w' => e = .returned (.bool E2) ∧ w' = w) (w : World) : Calls Tryz.prog 22 #[.agg #[.int .u64 X, .int .u64 Y]] w fun e w' => e = .returned (.bool (!E1 && !E2)) ∧ Kp w w' := by
  cases E1 <;> cases E2
  all_goals (
    go_enter Tryz.func22, Tryz.ntmps22
    go_wp2_with (first | (go_at_call_of 43 (Value.int .u64 X); refine (i1 _).mono ?_; rintro e w3 ⟨rfl, hw3⟩; obtain rfl := hw3.symm; clear hw3) | (go_at_call_of 43 (Value.int .u64 Y); refine (i2 _).mono ?_; rintro e w3 ⟨rfl, hw3⟩; obtain rfl := hw3.symm; clear hw3))
    exact bodyPost_ret (v := .bool _) (by simp [results, Tryz.results22, go_sem]) rfl ⟨rfl, (by repeat (with_reducible (first | assumption | exact Kp.refl _ | apply Kp.drew | apply Kp.alloc | apply Kp.drewN | (refine Kp.setCell ?_ (by first | omega | (simp <;> omega)) _) | (refine Kp.trans ?_ (by assumption)))))⟩)
set_option maxRecDepth 20000 in
set_option maxHeartbeats 2000000 in
theorem rcanE1_ (X1 X2 Y1 Y2 A1 A2 B1 B2 : Int) (hx : ∀ w : World, Calls Tryz.prog 20 #[.agg #[.int .u64 X1, .int .u64 X2]] w fun e w' => e = .returned (.agg #[.int .u64 A1, .int .u64 A2]) ∧ Kp w w') (hy : ∀ w : World, Calls Tryz.prog 20 #[.agg #[.int .u64 Y1, .int .u64 Y2]] w fun e w' => e = .returned (.agg #[.int .u64 B1, .int .u64 B2]) ∧ Kp w w') (hN : ∀ w : World, Calls Tryz.prog 23 #[] w fun e w' => e = .returned (.agg #[.int .u64 18442240474082181120, .int .u64 9218868437227405312]) ∧ Kp w w') (tA : (A1 == 9218868437227405312) = true) (tA' : (A2 == 18442240474082181120) = true) (tB : (B1 == 9218868437227405312) = true) (tB' : (B2 == 18442240474082181120) = true) (w : World) : Calls Tryz.prog 7 #[.agg #[.int .u64 X1, .int .u64 X2], .agg #[.int .u64 Y1, .int .u64 Y2]] w fun e w' => e = .returned (.agg #[.int .u64 9218868437227405312, .int .u64 18442240474082181120]) ∧ Kp w w' := by
  go_enter Tryz.func7, Tryz.ntmps7
  go_wp2_with (first | (go_at_call_of 20 (Value.agg #[.int .u64 X1, .int .u64 X2]); refine (hx _).mono ?_; rintro e w1 ⟨rfl, g1⟩; have k1 : Kp w w1 := Kp.trans ((((Kp.refl w).alloc _).alloc _).alloc _) g1; have s1 := H6.keep (H6.new w (.int .u64 X1) (.int .u64 X2) (.int .u64 Y1) (.int .u64 Y2) (.int .u64 0) (.int .u64 0) 24 24 24) g1; have y00 := fun o => (H6.keep s1 ((Kp.refl w1).alloc o)).2.1.1; have y01 := fun o => (H6.keep s1 ((Kp.refl w1).alloc o)).2.1.2.1) | (go_at_call_of 20 (Value.agg #[.int .u64 Y1, .int .u64 Y2]); refine (hy _).mono ?_; rintro e w2 ⟨rfl, g2⟩; have k2 := Kp.trans (k1.alloc _) g2; have s2 := H6.keep (H6.keep s1 ((Kp.refl w1).alloc _)) g2; have qa := Fq.H2.keep (Fq.H2.new w1 (.int .u64 A1) (.int .u64 A2) 24) g2))
  have sW := H6.keep s2 ((Kp.refl w2).alloc (.cells #[.int .u64 B1, .int .u64 B2] 24))
  have qA := Fq.H2.keep qa ((Kp.refl w2).alloc (.cells #[.int .u64 B1, .int .u64 B2] 24))
  have qB := Fq.H2.new w2 (.int .u64 B1) (.int .u64 B2) 24
  have kW : Kp w (w2.alloc (.cells #[.int .u64 B1, .int .u64 B2] 24)) := k2.alloc _
  have lA : w.heap.size + 2 < w1.heap.size := cell_lt s1.2.2.1
  have lB : w.heap.size + 2 < w2.heap.size := cell_lt s2.2.2.1
  generalize w2.alloc (.cells #[.int .u64 B1, .int .u64 B2] 24) = W at sW qA qB kW ⊢
  generalize w1.heap.size = bA at qA lA ⊢
  generalize w2.heap.size = bB at qB lB ⊢
  clear y00 y01 qa s1 s2 k1 k2 g1 g2
  refine Fq.wp_region_grow (by kernel_rfl) (by kernel_rfl) (fun ι _ G hG hall => ?_)
  have cc0 : ∀ n, (G n).cell? ⟨bA, 0, none⟩ = some (.int .u64 A1) := fun n => Fq.gkeep (hG n) qA.1
  have cc1 : ∀ n, (G n).cell? ⟨bA, 1, none⟩ = some (.int .u64 A2) := fun n => Fq.gkeep (hG n) qA.2.1
  have cc2 : ∀ n, (G n).cell? ⟨bB, 0, none⟩ = some (.int .u64 B1) := fun n => Fq.gkeep (hG n) qB.1
  have cc3 : ∀ n, (G n).cell? ⟨bB, 1, none⟩ = some (.int .u64 B2) := fun n => Fq.gkeep (hG n) qB.2.1
  repeat (go_big_quiet_step (first | (go_at_call 21; exact (rempty9_ _).mono (fun e w' h => ⟨h.1, hall _ (Fq.gtrans (hG _) h.2)⟩))))
  refine wpQuiet_nil ?_
  rintro _ ⟨nq, rfl⟩
  have gq : Kp W (G nq) := hG nq
  clear cc0 cc1 cc2 cc3 hall hG
  replace sW := H6.keep sW gq
  replace qA := Fq.H2.keep qA gq
  replace qB := Fq.H2.keep qB gq
  replace kW := Kp.trans kW gq
  clear gq
  generalize G nq = W at sW qA qB kW ⊢
  obtain ⟨a0, a1, a2, a3⟩ := id qA
  obtain ⟨b0, b1, b2, b3⟩ := id qB
  obtain ⟨_, _, z0, z1, z2, z3⟩ := id sW
  go_wp2_with (first | (go_at_call 21; refine (rempty9_ _).mono ?_; rintro e wv ⟨rfl, gv⟩; replace kW := Kp.trans kW gv; replace sW := H6.keep sW gv; replace qA := Fq.H2.keep qA gv; replace qB := Fq.H2.keep qB gv; clear gv a0 a1 a2 a3 b0 b1 b2 b3 z0 z1 z2 z3; obtain ⟨a0, a1, a2, a3⟩ := id qA; obtain ⟨b0, b1, b2, b3⟩ := id qB; obtain ⟨_, _, z0, z1, z2, z3⟩ := id sW))
  exact bodyPost_ret (v := .agg #[.int .u64 9218868437227405312, .int .u64 18442240474082181120]) (by simp [results, Tryz.results7, go_sem, z0, z1]) rfl ⟨rfl, (kW.setCell (by simp <;> omega) _).setCell (by simp <;> omega) _⟩
set_option maxRecDepth 20000 in
set_option maxHeartbeats 2000000 in
theorem rcanE2_ (X1 X2 Y1 Y2 A1 A2 B1 B2 : Int) (hx : ∀ w : World, Calls Tryz.prog 20 #[.agg #[.int .u64 X1, .int .u64 X2]] w fun e w' => e = .returned (.agg #[.int .u64 A1, .int .u64 A2]) ∧ Kp w w') (hy : ∀ w : World, Calls Tryz.prog 20 #[.agg #[.int .u64 Y1, .int .u64 Y2]] w fun e w' => e = .returned (.agg #[.int .u64 B1, .int .u64 B2]) ∧ Kp w w') (hN : ∀ w : World, Calls Tryz.prog 23 #[] w fun e w' => e = .returned (.agg #[.int .u64 18442240474082181120, .int .u64 9218868437227405312]) ∧ Kp w w') (tA : (A1 == 9218868437227405312) = true) (tA' : (A2 == 18442240474082181120) = true) (tB : (B1 == 9218868437227405312) = false) (hn2 : ∀ w : World, Calls Tryz.prog 22 #[.agg #[.int .u64 B1, .int .u64 B2]] w fun e w' => e = .returned (.bool true) ∧ Kp w w') (w : World) : Calls Tryz.prog 7 #[.agg #[.int .u64 X1, .int .u64 X2], .agg #[.int .u64 Y1, .int .u64 Y2]] w fun e w' => e = .returned (.agg #[.int .u64 9218868437227405312, .int .u64 18442240474082181120]) ∧ Kp w w' := by
  go_enter Tryz.func7, Tryz.ntmps7
  go_wp2_with (first | (go_at_call_of 20 (Value.agg #[.int .u64 X1, .int .u64 X2]); refine (hx _).mono ?_; rintro e w1 ⟨rfl, g1⟩; have k1 : Kp w w1 := Kp.trans ((((Kp.refl w).alloc _).alloc _).alloc _) g1; have s1 := H6.keep (H6.new w (.int .u64 X1) (.int .u64 X2) (.int .u64 Y1) (.int .u64 Y2) (.int .u64 0) (.int .u64 0) 24 24 24) g1; have y00 := fun o => (H6.keep s1 ((Kp.refl w1).alloc o)).2.1.1; have y01 := fun o => (H6.keep s1 ((Kp.refl w1).alloc o)).2.1.2.1) | (go_at_call_of 20 (Value.agg #[.int .u64 Y1, .int .u64 Y2]); refine (hy _).mono ?_; rintro e w2 ⟨rfl, g2⟩; have k2 := Kp.trans (k1.alloc _) g2; have s2 := H6.keep (H6.keep s1 ((Kp.refl w1).alloc _)) g2; have qa := Fq.H2.keep (Fq.H2.new w1 (.int .u64 A1) (.int .u64 A2) 24) g2))
  have sW := H6.keep s2 ((Kp.refl w2).alloc (.cells #[.int .u64 B1, .int .u64 B2] 24))
  have qA := Fq.H2.keep qa ((Kp.refl w2).alloc (.cells #[.int .u64 B1, .int .u64 B2] 24))
  have qB := Fq.H2.new w2 (.int .u64 B1) (.int .u64 B2) 24
  have kW : Kp w (w2.alloc (.cells #[.int .u64 B1, .int .u64 B2] 24)) := k2.alloc _
  have lA : w.heap.size + 2 < w1.heap.size := cell_lt s1.2.2.1
  have lB : w.heap.size + 2 < w2.heap.size := cell_lt s2.2.2.1
  generalize w2.alloc (.cells #[.int .u64 B1, .int .u64 B2] 24) = W at sW qA qB kW ⊢
  generalize w1.heap.size = bA at qA lA ⊢
  generalize w2.heap.size = bB at qB lB ⊢
  clear y00 y01 qa s1 s2 k1 k2 g1 g2
  refine Fq.wp_region_grow (by kernel_rfl) (by kernel_rfl) (fun ι _ G hG hall => ?_)
  have cc0 : ∀ n, (G n).cell? ⟨bA, 0, none⟩ = some (.int .u64 A1) := fun n => Fq.gkeep (hG n) qA.1
  have cc1 : ∀ n, (G n).cell? ⟨bA, 1, none⟩ = some (.int .u64 A2) := fun n => Fq.gkeep (hG n) qA.2.1
  have cc2 : ∀ n, (G n).cell? ⟨bB, 0, none⟩ = some (.int .u64 B1) := fun n => Fq.gkeep (hG n) qB.1
  have cc3 : ∀ n, (G n).cell? ⟨bB, 1, none⟩ = some (.int .u64 B2) := fun n => Fq.gkeep (hG n) qB.2.1
  repeat (go_big_quiet_step (first | (go_at_call 21; exact (rempty9_ _).mono (fun e w' h => ⟨h.1, hall _ (Fq.gtrans (hG _) h.2)⟩)) | (go_at_call_of 22 (Value.agg #[.int .u64 B1, .int .u64 B2]); exact (hn2 _).mono (fun e w' h => ⟨h.1, hall _ (Fq.gtrans (hG _) h.2)⟩))))
  refine wpQuiet_nil ?_
  rintro _ ⟨nq, rfl⟩
  have gq : Kp W (G nq) := hG nq
  clear cc0 cc1 cc2 cc3 hall hG
  replace sW := H6.keep sW gq
  replace qA := Fq.H2.keep qA gq
  replace qB := Fq.H2.keep qB gq
  replace kW := Kp.trans kW gq
  clear gq
  generalize G nq = W at sW qA qB kW ⊢
  obtain ⟨a0, a1, a2, a3⟩ := id qA
  obtain ⟨b0, b1, b2, b3⟩ := id qB
  obtain ⟨_, _, z0, z1, z2, z3⟩ := id sW
  go_wp2_with (first | (go_at_call 21; refine (rempty9_ _).mono ?_; rintro e wv ⟨rfl, gv⟩; replace kW := Kp.trans kW gv; replace sW := H6.keep sW gv; replace qA := Fq.H2.keep qA gv; replace qB := Fq.H2.keep qB gv; clear gv a0 a1 a2 a3 b0 b1 b2 b3 z0 z1 z2 z3; obtain ⟨a0, a1, a2, a3⟩ := id qA; obtain ⟨b0, b1, b2, b3⟩ := id qB; obtain ⟨_, _, z0, z1, z2, z3⟩ := id sW))
  exact bodyPost_ret (v := .agg #[.int .u64 9218868437227405312, .int .u64 18442240474082181120]) (by simp [results, Tryz.results7, go_sem, z0, z1]) rfl ⟨rfl, (kW.setCell (by simp <;> omega) _).setCell (by simp <;> omega) _⟩
set_option maxRecDepth 20000 in
set_option maxHeartbeats 2000000 in
theorem rcanN1_ (X1 X2 Y1 Y2 A1 A2 B1 B2 : Int) (hx : ∀ w : World, Calls Tryz.prog 20 #[.agg #[.int .u64 X1, .int .u64 X2]] w fun e w' => e = .returned (.agg #[.int .u64 A1, .int .u64 A2]) ∧ Kp w w') (hy : ∀ w : World, Calls Tryz.prog 20 #[.agg #[.int .u64 Y1, .int .u64 Y2]] w fun e w' => e = .returned (.agg #[.int .u64 B1, .int .u64 B2]) ∧ Kp w w') (hN : ∀ w : World, Calls Tryz.prog 23 #[] w fun e w' => e = .returned (.agg #[.int .u64 18442240474082181120, .int .u64 9218868437227405312]) ∧ Kp w w') (tA : (A1 == 9218868437227405312) = true) (tA' : (A2 == 18442240474082181120) = true) (tB : (B1 == 9218868437227405312) = false) (hn2 : ∀ w : World, Calls Tryz.prog 22 #[.agg #[.int .u64 B1, .int .u64 B2]] w fun e w' => e = .returned (.bool false) ∧ Kp w w') (hn1 : ∀ w : World, Calls Tryz.prog 22 #[.agg #[.int .u64 A1, .int .u64 A2]] w fun e w' => e = .returned (.bool false) ∧ Kp w w') (w : World) : Calls Tryz.prog 7 #[.agg #[.int .u64 X1, .int .u64 X2], .agg #[.int .u64 Y1, .int .u64 Y2]] w fun e w' => e = .returned (.agg #[.int .u64 18442240474082181120, .int .u64 9218868437227405312]) ∧ Kp w w' := by
  go_enter Tryz.func7, Tryz.ntmps7
  go_wp2_with (first | (go_at_call_of 20 (Value.agg #[.int .u64 X1, .int .u64 X2]); refine (hx _).mono ?_; rintro e w1 ⟨rfl, g1⟩; have k1 : Kp w w1 := Kp.trans ((((Kp.refl w).alloc _).alloc _).alloc _) g1; have s1 := H6.keep (H6.new w (.int .u64 X1) (.int .u64 X2) (.int .u64 Y1) (.int .u64 Y2) (.int .u64 0) (.int .u64 0) 24 24 24) g1; have y00 := fun o => (H6.keep s1 ((Kp.refl w1).alloc o)).2.1.1; have y01 := fun o => (H6.keep s1 ((Kp.refl w1).alloc o)).2.1.2.1) | (go_at_call_of 20 (Value.agg #[.int .u64 Y1, .int .u64 Y2]); refine (hy _).mono ?_; rintro e w2 ⟨rfl, g2⟩; have k2 := Kp.trans (k1.alloc _) g2; have s2 := H6.keep (H6.keep s1 ((Kp.refl w1).alloc _)) g2; have qa := Fq.H2.keep (Fq.H2.new w1 (.int .u64 A1) (.int .u64 A2) 24) g2))
  have sW := H6.keep s2 ((Kp.refl w2).alloc (.cells #[.int .u64 B1, .int .u64 B2] 24))
  have qA := Fq.H2.keep qa ((Kp.refl w2).alloc (.cells #[.int .u64 B1, .int .u64 B2] 24))
  have qB := Fq.H2.new w2 (.int .u64 B1) (.int .u64 B2) 24
  have kW : Kp w (w2.alloc (.cells #[.int .u64 B1, .int .u64 B2] 24)) := k2.alloc _
  have lA : w.heap.size + 2 < w1.heap.size := cell_lt s1.2.2.1
  have lB : w.heap.size + 2 < w2.heap.size := cell_lt s2.2.2.1
  generalize w2.alloc (.cells #[.int .u64 B1, .int .u64 B2] 24) = W at sW qA qB kW ⊢
  generalize w1.heap.size = bA at qA lA ⊢
  generalize w2.heap.size = bB at qB lB ⊢
  clear y00 y01 qa s1 s2 k1 k2 g1 g2
  refine Fq.wp_region_grow (by kernel_rfl) (by kernel_rfl) (fun ι _ G hG hall => ?_)
  have cc0 : ∀ n, (G n).cell? ⟨bA, 0, none⟩ = some (.int .u64 A1) := fun n => Fq.gkeep (hG n) qA.1
  have cc1 : ∀ n, (G n).cell? ⟨bA, 1, none⟩ = some (.int .u64 A2) := fun n => Fq.gkeep (hG n) qA.2.1
  have cc2 : ∀ n, (G n).cell? ⟨bB, 0, none⟩ = some (.int .u64 B1) := fun n => Fq.gkeep (hG n) qB.1
  have cc3 : ∀ n, (G n).cell? ⟨bB, 1, none⟩ = some (.int .u64 B2) := fun n => Fq.gkeep (hG n) qB.2.1
  repeat (go_big_quiet_step (first | (go_at_call 21; exact (rempty9_ _).mono (fun e w' h => ⟨h.1, hall _ (Fq.gtrans (hG _) h.2)⟩)) | (go_at_call_of 22 (Value.agg #[.int .u64 B1, .int .u64 B2]); exact (hn2 _).mono (fun e w' h => ⟨h.1, hall _ (Fq.gtrans (hG _) h.2)⟩))))
  refine wpQuiet_nil ?_
  rintro _ ⟨nq, rfl⟩
  have gq : Kp W (G nq) := hG nq
  clear cc0 cc1 cc2 cc3 hall hG
  replace sW := H6.keep sW gq
  replace qA := Fq.H2.keep qA gq
  replace qB := Fq.H2.keep qB gq
  replace kW := Kp.trans kW gq
  clear gq
  generalize G nq = W at sW qA qB kW ⊢
  obtain ⟨a0, a1, a2, a3⟩ := id qA
  obtain ⟨b0, b1, b2, b3⟩ := id qB
  obtain ⟨_, _, z0, z1, z2, z3⟩ := id sW
  go_wp2_with (first | (go_at_call_of 22 (Value.agg #[.int .u64 A1, .int .u64 A2]); refine (hn1 _).mono ?_; rintro e wv ⟨rfl, gv⟩; replace kW := Kp.trans kW gv; replace sW := H6.keep sW gv; replace qA := Fq.H2.keep qA gv; replace qB := Fq.H2.keep qB gv; clear gv a0 a1 a2 a3 b0 b1 b2 b3 z0 z1 z2 z3; obtain ⟨a0, a1, a2, a3⟩ := id qA; obtain ⟨b0, b1, b2, b3⟩ := id qB; obtain ⟨_, _, z0, z1, z2, z3⟩ := id sW) | (go_at_call 23; refine (hN _).mono ?_; rintro e wv ⟨rfl, gv⟩; replace kW := Kp.trans kW gv; replace sW := H6.keep sW gv; replace qA := Fq.H2.keep qA gv; replace qB := Fq.H2.keep qB gv; clear gv a0 a1 a2 a3 b0 b1 b2 b3 z0 z1 z2 z3; obtain ⟨a0, a1, a2, a3⟩ := id qA; obtain ⟨b0, b1, b2, b3⟩ := id qB; obtain ⟨_, _, z0, z1, z2, z3⟩ := id sW))
  exact bodyPost_ret (v := .agg #[.int .u64 18442240474082181120, .int .u64 9218868437227405312]) (by simp [results, Tryz.results7, go_sem, z0, z1]) rfl ⟨rfl, (kW.setCell (by simp <;> omega) _).setCell (by simp <;> omega) _⟩
set_option maxRecDepth 20000 in
set_option maxHeartbeats 2000000 in
theorem rcanN2_ (X1 X2 Y1 Y2 A1 A2 B1 B2 : Int) (hx : ∀ w : World, Calls Tryz.prog 20 #[.agg #[.int .u64 X1, .int .u64 X2]] w fun e w' => e = .returned (.agg #[.int .u64 A1, .int .u64 A2]) ∧ Kp w w') (hy : ∀ w : World, Calls Tryz.prog 20 #[.agg #[.int .u64 Y1, .int .u64 Y2]] w fun e w' => e = .returned (.agg #[.int .u64 B1, .int .u64 B2]) ∧ Kp w w') (hN : ∀ w : World, Calls Tryz.prog 23 #[] w fun e w' => e = .returned (.agg #[.int .u64 18442240474082181120, .int .u64 9218868437227405312]) ∧ Kp w w') (tA : (A1 == 9218868437227405312) = false) (hn1 : ∀ w : World, Calls Tryz.prog 22 #[.agg #[.int .u64 A1, .int .u64 A2]] w fun e w' => e = .returned (.bool false) ∧ Kp w w') (w : World) : Calls Tryz.prog 7 #[.agg #[.int .u64 X1, .int .u64 X2], .agg #[.int .u64 Y1, .int .u64 Y2]] w fun e w' => e = .returned (.agg #[.int .u64 18442240474082181120, .int .u64 9218868437227405312]) ∧ Kp w w' := by
  go_enter Tryz.func7, Tryz.ntmps7
  go_wp2_with (first | (go_at_call_of 20 (Value.agg #[.int .u64 X1, .int .u64 X2]); refine (hx _).mono ?_; rintro e w1 ⟨rfl, g1⟩; have k1 : Kp w w1 := Kp.trans ((((Kp.refl w).alloc _).alloc _).alloc _) g1; have s1 := H6.keep (H6.new w (.int .u64 X1) (.int .u64 X2) (.int .u64 Y1) (.int .u64 Y2) (.int .u64 0) (.int .u64 0) 24 24 24) g1; have y00 := fun o => (H6.keep s1 ((Kp.refl w1).alloc o)).2.1.1; have y01 := fun o => (H6.keep s1 ((Kp.refl w1).alloc o)).2.1.2.1) | (go_at_call_of 20 (Value.agg #[.int .u64 Y1, .int .u64 Y2]); refine (hy _).mono ?_; rintro e w2 ⟨rfl, g2⟩; have k2 := Kp.trans (k1.alloc _) g2; have s2 := H6.keep (H6.keep s1 ((Kp.refl w1).alloc _)) g2; have qa := Fq.H2.keep (Fq.H2.new w1 (.int .u64 A1) (.int .u64 A2) 24) g2))
  have sW := H6.keep s2 ((Kp.refl w2).alloc (.cells #[.int .u64 B1, .int .u64 B2] 24))
  have qA := Fq.H2.keep qa ((Kp.refl w2).alloc (.cells #[.int .u64 B1, .int .u64 B2] 24))
  have qB := Fq.H2.new w2 (.int .u64 B1) (.int .u64 B2) 24
  have kW : Kp w (w2.alloc (.cells #[.int .u64 B1, .int .u64 B2] 24)) := k2.alloc _
  have lA : w.heap.size + 2 < w1.heap.size := cell_lt s1.2.2.1
  have lB : w.heap.size + 2 < w2.heap.size := cell_lt s2.2.2.1
  generalize w2.alloc (.cells #[.int .u64 B1, .int .u64 B2] 24) = W at sW qA qB kW ⊢
  generalize w1.heap.size = bA at qA lA ⊢
  generalize w2.heap.size = bB at qB lB ⊢
  clear y00 y01 qa s1 s2 k1 k2 g1 g2
  refine Fq.wp_region_grow (by kernel_rfl) (by kernel_rfl) (fun ι _ G hG hall => ?_)
  have cc0 : ∀ n, (G n).cell? ⟨bA, 0, none⟩ = some (.int .u64 A1) := fun n => Fq.gkeep (hG n) qA.1
  have cc1 : ∀ n, (G n).cell? ⟨bA, 1, none⟩ = some (.int .u64 A2) := fun n => Fq.gkeep (hG n) qA.2.1
  have cc2 : ∀ n, (G n).cell? ⟨bB, 0, none⟩ = some (.int .u64 B1) := fun n => Fq.gkeep (hG n) qB.1
  have cc3 : ∀ n, (G n).cell? ⟨bB, 1, none⟩ = some (.int .u64 B2) := fun n => Fq.gkeep (hG n) qB.2.1
  repeat (go_big_quiet_step (first | (go_at_call 21; exact (rempty9_ _).mono (fun e w' h => ⟨h.1, hall _ (Fq.gtrans (hG _) h.2)⟩))))
  refine wpQuiet_nil ?_
  rintro _ ⟨nq, rfl⟩
  have gq : Kp W (G nq) := hG nq
  clear cc0 cc1 cc2 cc3 hall hG
  replace sW := H6.keep sW gq
  replace qA := Fq.H2.keep qA gq
  replace qB := Fq.H2.keep qB gq
  replace kW := Kp.trans kW gq
  clear gq
  generalize G nq = W at sW qA qB kW ⊢
  obtain ⟨a0, a1, a2, a3⟩ := id qA
  obtain ⟨b0, b1, b2, b3⟩ := id qB
  obtain ⟨_, _, z0, z1, z2, z3⟩ := id sW
  go_wp2_with (first | (go_at_call_of 22 (Value.agg #[.int .u64 A1, .int .u64 A2]); refine (hn1 _).mono ?_; rintro e wv ⟨rfl, gv⟩; replace kW := Kp.trans kW gv; replace sW := H6.keep sW gv; replace qA := Fq.H2.keep qA gv; replace qB := Fq.H2.keep qB gv; clear gv a0 a1 a2 a3 b0 b1 b2 b3 z0 z1 z2 z3; obtain ⟨a0, a1, a2, a3⟩ := id qA; obtain ⟨b0, b1, b2, b3⟩ := id qB; obtain ⟨_, _, z0, z1, z2, z3⟩ := id sW) | (go_at_call 23; refine (hN _).mono ?_; rintro e wv ⟨rfl, gv⟩; replace kW := Kp.trans kW gv; replace sW := H6.keep sW gv; replace qA := Fq.H2.keep qA gv; replace qB := Fq.H2.keep qB gv; clear gv a0 a1 a2 a3 b0 b1 b2 b3 z0 z1 z2 z3; obtain ⟨a0, a1, a2, a3⟩ := id qA; obtain ⟨b0, b1, b2, b3⟩ := id qB; obtain ⟨_, _, z0, z1, z2, z3⟩ := id sW))
  exact bodyPost_ret (v := .agg #[.int .u64 18442240474082181120, .int .u64 9218868437227405312]) (by simp [results, Tryz.results7, go_sem, z0, z1]) rfl ⟨rfl, (kW.setCell (by simp <;> omega) _).setCell (by simp <;> omega) _⟩
set_option maxRecDepth 20000 in
set_option maxHeartbeats 2000000 in
theorem rcanN3_ (X1 X2 Y1 Y2 A1 A2 B1 B2 : Int) (hx : ∀ w : World, Calls Tryz.prog 20 #[.agg #[.int .u64 X1, .int .u64 X2]] w fun e w' => e = .returned (.agg #[.int .u64 A1, .int .u64 A2]) ∧ Kp w w') (hy : ∀ w : World, Calls Tryz.prog 20 #[.agg #[.int .u64 Y1, .int .u64 Y2]] w fun e w' => e = .returned (.agg #[.int .u64 B1, .int .u64 B2]) ∧ Kp w w') (hN : ∀ w : World, Calls Tryz.prog 23 #[] w fun e w' => e = .returned (.agg #[.int .u64 18442240474082181120, .int .u64 9218868437227405312]) ∧ Kp w w') (tA : (A1 == 9218868437227405312) = false) (hn1 : ∀ w : World, Calls Tryz.prog 22 #[.agg #[.int .u64 A1, .int .u64 A2]] w fun e w' => e = .returned (.bool true) ∧ Kp w w') (hn2 : ∀ w : World, Calls Tryz.prog 22 #[.agg #[.int .u64 B1, .int .u64 B2]] w fun e w' => e = .returned (.bool false) ∧ Kp w w') (w : World) : Calls Tryz.prog 7 #[.agg #[.int .u64 X1, .int .u64 X2], .agg #[.int .u64 Y1, .int .u64 Y2]] w fun e w' => e = .returned (.agg #[.int .u64 18442240474082181120, .int .u64 9218868437227405312]) ∧ Kp w w' := by
  go_enter Tryz.func7, Tryz.ntmps7
  go_wp2_with (first | (go_at_call_of 20 (Value.agg #[.int .u64 X1, .int .u64 X2]); refine (hx _).mono ?_; rintro e w1 ⟨rfl, g1⟩; have k1 : Kp w w1 := Kp.trans ((((Kp.refl w).alloc _).alloc _).alloc _) g1; have s1 := H6.keep (H6.new w (.int .u64 X1) (.int .u64 X2) (.int .u64 Y1) (.int .u64 Y2) (.int .u64 0) (.int .u64 0) 24 24 24) g1; have y00 := fun o => (H6.keep s1 ((Kp.refl w1).alloc o)).2.1.1; have y01 := fun o => (H6.keep s1 ((Kp.refl w1).alloc o)).2.1.2.1) | (go_at_call_of 20 (Value.agg #[.int .u64 Y1, .int .u64 Y2]); refine (hy _).mono ?_; rintro e w2 ⟨rfl, g2⟩; have k2 := Kp.trans (k1.alloc _) g2; have s2 := H6.keep (H6.keep s1 ((Kp.refl w1).alloc _)) g2; have qa := Fq.H2.keep (Fq.H2.new w1 (.int .u64 A1) (.int .u64 A2) 24) g2))
  have sW := H6.keep s2 ((Kp.refl w2).alloc (.cells #[.int .u64 B1, .int .u64 B2] 24))
  have qA := Fq.H2.keep qa ((Kp.refl w2).alloc (.cells #[.int .u64 B1, .int .u64 B2] 24))
  have qB := Fq.H2.new w2 (.int .u64 B1) (.int .u64 B2) 24
  have kW : Kp w (w2.alloc (.cells #[.int .u64 B1, .int .u64 B2] 24)) := k2.alloc _
  have lA : w.heap.size + 2 < w1.heap.size := cell_lt s1.2.2.1
  have lB : w.heap.size + 2 < w2.heap.size := cell_lt s2.2.2.1
  generalize w2.alloc (.cells #[.int .u64 B1, .int .u64 B2] 24) = W at sW qA qB kW ⊢
  generalize w1.heap.size = bA at qA lA ⊢
  generalize w2.heap.size = bB at qB lB ⊢
  clear y00 y01 qa s1 s2 k1 k2 g1 g2
  refine Fq.wp_region_grow (by kernel_rfl) (by kernel_rfl) (fun ι _ G hG hall => ?_)
  have cc0 : ∀ n, (G n).cell? ⟨bA, 0, none⟩ = some (.int .u64 A1) := fun n => Fq.gkeep (hG n) qA.1
  have cc1 : ∀ n, (G n).cell? ⟨bA, 1, none⟩ = some (.int .u64 A2) := fun n => Fq.gkeep (hG n) qA.2.1
  have cc2 : ∀ n, (G n).cell? ⟨bB, 0, none⟩ = some (.int .u64 B1) := fun n => Fq.gkeep (hG n) qB.1
  have cc3 : ∀ n, (G n).cell? ⟨bB, 1, none⟩ = some (.int .u64 B2) := fun n => Fq.gkeep (hG n) qB.2.1
  repeat (go_big_quiet_step (first | (go_at_call 21; exact (rempty9_ _).mono (fun e w' h => ⟨h.1, hall _ (Fq.gtrans (hG _) h.2)⟩))))
  refine wpQuiet_nil ?_
  rintro _ ⟨nq, rfl⟩
  have gq : Kp W (G nq) := hG nq
  clear cc0 cc1 cc2 cc3 hall hG
  replace sW := H6.keep sW gq
  replace qA := Fq.H2.keep qA gq
  replace qB := Fq.H2.keep qB gq
  replace kW := Kp.trans kW gq
  clear gq
  generalize G nq = W at sW qA qB kW ⊢
  obtain ⟨a0, a1, a2, a3⟩ := id qA
  obtain ⟨b0, b1, b2, b3⟩ := id qB
  obtain ⟨_, _, z0, z1, z2, z3⟩ := id sW
  go_wp2_with (first | (go_at_call_of 22 (Value.agg #[.int .u64 A1, .int .u64 A2]); refine (hn1 _).mono ?_; rintro e wv ⟨rfl, gv⟩; replace kW := Kp.trans kW gv; replace sW := H6.keep sW gv; replace qA := Fq.H2.keep qA gv; replace qB := Fq.H2.keep qB gv; clear gv a0 a1 a2 a3 b0 b1 b2 b3 z0 z1 z2 z3; obtain ⟨a0, a1, a2, a3⟩ := id qA; obtain ⟨b0, b1, b2, b3⟩ := id qB; obtain ⟨_, _, z0, z1, z2, z3⟩ := id sW) | (go_at_call_of 22 (Value.agg #[.int .u64 B1, .int .u64 B2]); refine (hn2 _).mono ?_; rintro e wv ⟨rfl, gv⟩; replace kW := Kp.trans kW gv; replace sW := H6.keep sW gv; replace qA := Fq.H2.keep qA gv; replace qB := Fq.H2.keep qB gv; clear gv a0 a1 a2 a3 b0 b1 b2 b3 z0 z1 z2 z3; obtain ⟨a0, a1, a2, a3⟩ := id qA; obtain ⟨b0, b1, b2, b3⟩ := id qB; obtain ⟨_, _, z0, z1, z2, z3⟩ := id sW) | (go_at_call 23; refine (hN _).mono ?_; rintro e wv ⟨rfl, gv⟩; replace kW := Kp.trans kW gv; replace sW := H6.keep sW gv; replace qA := Fq.H2.keep qA gv; replace qB := Fq.H2.keep qB gv; clear gv a0 a1 a2 a3 b0 b1 b2 b3 z0 z1 z2 z3; obtain ⟨a0, a1, a2, a3⟩ := id qA; obtain ⟨b0, b1, b2, b3⟩ := id qB; obtain ⟨_, _, z0, z1, z2, z3⟩ := id sW))
  exact bodyPost_ret (v := .agg #[.int .u64 18442240474082181120, .int .u64 9218868437227405312]) (by simp [results, Tryz.results7, go_sem, z0, z1]) rfl ⟨rfl, (kW.setCell (by simp <;> omega) _).setCell (by simp <;> omega) _⟩
set_option linter.unusedVariables false
set_option linter.unusedSimpArgs false
set_option maxRecDepth 20000 in
set_option maxHeartbeats 4000000 in
theorem rcanF_ (X1 X2 Y1 Y2 A1 A2 B1 B2 : Int) (hx : ∀ w : World, Calls Tryz.prog 20 #[.agg #[.int .u64 X1, .int .u64 X2]] w fun e w' => e = .returned (.agg #[.int .u64 A1, .int .u64 A2]) ∧ Kp w w') (hy : ∀ w : World, Calls Tryz.prog 20 #[.agg #[.int .u64 Y1, .int .u64 Y2]] w fun e w' => e = .returned (.agg #[.int .u64 B1, .int .u64 B2]) ∧ Kp w w') (hN : ∀ w : World, Calls Tryz.prog 23 #[] w fun e w' => e = .returned (.agg #[.int .u64 18442240474082181120, .int .u64 9218868437227405312]) ∧ Kp w w') (tA : (A1 == 9218868437227405312) = false) (hn1 : ∀ w : World, Calls Tryz.prog 22 #[.agg #[.int .u64 A1, .int .u64 A2]] w fun e w' => e = .returned (.bool true) ∧ Kp w w') (hn2 : ∀ w : World, Calls Tryz.prog 22 #[.agg #[.int .u64 B1, .int .u64 B2]] w fun e w' => e = .returned (.bool true) ∧ Kp w w') (N1 N2 N3 N4 : Bool) (M1 M2 M3 M4 : Nat) (V7 V8 : Int) (e7 : Iv N1 M1 - Iv N3 M3 = V7) (e8 : Iv N2 M2 - Iv N4 M4 = V8) (hf1 : ∀ w : World, Calls Tryz.prog 25 #[.int .u64 A1] w fun e w' => ∃ (s : Bool) (p : Option Addr) (l c : Nat) (q : Option Addr) (k d : Nat), e = .returned (.agg #[.bool s, .slice p l c, .slice q k d]) ∧ RP w.heap.size w' s p l c q k d N1 M1 ∧ Kp w w') (hf2 : ∀ w : World, Calls Tryz.prog 25 #[.int .u64 A2] w fun e w' => ∃ (s : Bool) (p : Option Addr) (l c : Nat) (q : Option Addr) (k d : Nat), e = .returned (.agg #[.bool s, .slice p l c, .slice q k d]) ∧ RP w.heap.size w' s p l c q k d N2 M2 ∧ Kp w w') (hf3 : ∀ w : World, Calls Tryz.prog 25 #[.int .u64 B1] w fun e w' => ∃ (s : Bool) (p : Option Addr) (l c : Nat) (q : Option Addr) (k d : Nat), e = .returned (.agg #[.bool s, .slice p l c, .slice q k d]) ∧ RP w.heap.size w' s p l c q k d N3 M3 ∧ Kp w w') (hf4 : ∀ w : World, Calls Tryz.prog 25 #[.int .u64 B2] w fun e w' => ∃ (s : Bool) (p : Option Addr) (l c : Nat) (q : Option Addr) (k d : Nat), e = .returned (.agg #[.bool s, .slice p l c, .slice q k d]) ∧ RP w.heap.size w' s p l c q k d N4 M4 ∧ Kp w w') (tc : cmI V8 V7 < 0) (w : World) : Calls Tryz.prog 7 #[.agg #[.int .u64 X1, .int .u64 X2], .agg #[.int .u64 Y1, .int .u64 Y2]] w fun e w' => e = .returned (.agg #[.int .u64 18442240474082181120, .int .u64 9218868437227405312]) ∧ Kp w w' := by
  go_enter Tryz.func7, Tryz.ntmps7
  go_wp2_with (first | (go_at_call_of 20 (Value.agg #[.int .u64 X1, .int .u64 X2]); refine (hx _).mono ?_; rintro e w1 ⟨rfl, g1⟩; have k1 : Kp w w1 := Kp.trans ((((Kp.refl w).alloc _).alloc _).alloc _) g1; have s1 := H6.keep (H6.new w (.int .u64 X1) (.int .u64 X2) (.int .u64 Y1) (.int .u64 Y2) (.int .u64 0) (.int .u64 0) 24 24 24) g1; have y00 := fun o => (H6.keep s1 ((Kp.refl w1).alloc o)).2.1.1; have y01 := fun o => (H6.keep s1 ((Kp.refl w1).alloc o)).2.1.2.1) | (go_at_call_of 20 (Value.agg #[.int .u64 Y1, .int .u64 Y2]); refine (hy _).mono ?_; rintro e w2 ⟨rfl, g2⟩; have k2 := Kp.trans (k1.alloc _) g2; have s2 := H6.keep (H6.keep s1 ((Kp.refl w1).alloc _)) g2; have qa := Fq.H2.keep (Fq.H2.new w1 (.int .u64 A1) (.int .u64 A2) 24) g2))
  have sW := H6.keep s2 ((Kp.refl w2).alloc (.cells #[.int .u64 B1, .int .u64 B2] 24))
  have qA := Fq.H2.keep qa ((Kp.refl w2).alloc (.cells #[.int .u64 B1, .int .u64 B2] 24))
  have qB := Fq.H2.new w2 (.int .u64 B1) (.int .u64 B2) 24
  have kW : Kp w (w2.alloc (.cells #[.int .u64 B1, .int .u64 B2] 24)) := k2.alloc _
  have lA : w.heap.size + 2 < w1.heap.size := cell_lt s1.2.2.1
  have lB : w.heap.size + 2 < w2.heap.size := cell_lt s2.2.2.1
  generalize w2.alloc (.cells #[.int .u64 B1, .int .u64 B2] 24) = W at sW qA qB kW ⊢
  generalize w1.heap.size = bA at qA lA ⊢
  generalize w2.heap.size = bB at qB lB ⊢
  clear y00 y01 qa s1 s2 k1 k2 g1 g2
  refine Fq.wp_region_grow (by kernel_rfl) (by kernel_rfl) (fun ι _ G hG hall => ?_)
  have cc0 : ∀ n, (G n).cell? ⟨bA, 0, none⟩ = some (.int .u64 A1) := fun n => Fq.gkeep (hG n) qA.1
  have cc1 : ∀ n, (G n).cell? ⟨bA, 1, none⟩ = some (.int .u64 A2) := fun n => Fq.gkeep (hG n) qA.2.1
  have cc2 : ∀ n, (G n).cell? ⟨bB, 0, none⟩ = some (.int .u64 B1) := fun n => Fq.gkeep (hG n) qB.1
  have cc3 : ∀ n, (G n).cell? ⟨bB, 1, none⟩ = some (.int .u64 B2) := fun n => Fq.gkeep (hG n) qB.2.1
  repeat (go_big_quiet_step (first | (go_at_call 21; exact (rempty9_ _).mono (fun e w' h => ⟨h.1, hall _ (Fq.gtrans (hG _) h.2)⟩))))
  refine wpQuiet_nil ?_
  rintro _ ⟨nq, rfl⟩
  have gq : Kp W (G nq) := hG nq
  clear cc0 cc1 cc2 cc3 hall hG
  replace sW := H6.keep sW gq
  replace qA := Fq.H2.keep qA gq
  replace qB := Fq.H2.keep qB gq
  replace kW := Kp.trans kW gq
  clear gq
  generalize G nq = W at sW qA qB kW ⊢
  obtain ⟨a0, a1, a2, a3⟩ := id qA
  obtain ⟨b0, b1, b2, b3⟩ := id qB
  obtain ⟨_, _, z0, z1, z2, z3⟩ := id sW
  go_wp2_with (first | (go_at_call_of 22 (Value.agg #[.int .u64 A1, .int .u64 A2]); refine (hn1 _).mono ?_; rintro e wv ⟨rfl, gv⟩; replace kW := Kp.trans kW gv; replace sW := H6.keep sW gv; replace qA := Fq.H2.keep qA gv; replace qB := Fq.H2.keep qB gv; clear gv a0 a1 a2 a3 b0 b1 b2 b3 z0 z1 z2 z3; obtain ⟨a0, a1, a2, a3⟩ := id qA; obtain ⟨b0, b1, b2, b3⟩ := id qB; obtain ⟨_, _, z0, z1, z2, z3⟩ := id sW) | (go_at_call_of 22 (Value.agg #[.int .u64 B1, .int .u64 B2]); refine (hn2 _).mono ?_; rintro e wv ⟨rfl, gv⟩; replace kW := Kp.trans kW gv; replace sW := H6.keep sW gv; replace qA := Fq.H2.keep qA gv; replace qB := Fq.H2.keep qB gv; clear gv a0 a1 a2 a3 b0 b1 b2 b3 z0 z1 z2 z3; obtain ⟨a0, a1, a2, a3⟩ := id qA; obtain ⟨b0, b1, b2, b3⟩ := id qB; obtain ⟨_, _, z0, z1, z2, z3⟩ := id sW))
  clear a0 a1 a2 a3 b0 b1 b2 b3 z0 z1 z2 z3
  generalize hWW : wv = W at sW qA qB kW ⊢
  clear hWW
  obtain ⟨a0, a1, a2, a3⟩ := id qA
  obtain ⟨b0, b1, b2, b3⟩ := id qB
  obtain ⟨_, _, z0, z1, z2, z3⟩ := id sW
  go_cut [7] (fun s7 wx => ∃ (g : Nat) (s3 : Bool) (p3 : Option Addr) (l3 c3 : Nat) (q3 : Option Addr) (k3 d3 : Nat), s7 = .pointer (some ⟨g, 0, none⟩) ∧ (wx.cell? ⟨g, 0, none⟩ = some (.bool s3) ∧ wx.cell? ⟨g, 1, none⟩ = some (.slice p3 l3 c3) ∧ wx.cell? ⟨g, 2, none⟩ = some (.slice q3 k3 d3)) ∧ VP 0 wx s3 p3 l3 c3 q3 k3 d3 V7 ∧ Kp W wx)
  case first =>
    have y0 : W.cell? ⟨bA, 0, none⟩ = some (.int .u64 A1) := a0
    have y1 : W.cell? ⟨bB, 0, none⟩ = some (.int .u64 B1) := b0
    have yd0 : W.drew.cell? ⟨bA, 0, none⟩ = some (.int .u64 A1) := a0
    have yd1 : W.drew.cell? ⟨bB, 0, none⟩ = some (.int .u64 B1) := b0
    go_region_held3 (fun w' => w'.cell? ⟨bA, 0, none⟩ = some (.int .u64 A1) ∧ w'.cell? ⟨bB, 0, none⟩ = some (.int .u64 B1)) (first | (with_reducible exact ⟨y0, y1⟩) | (with_reducible exact ⟨yd0, yd1⟩) | (with_reducible exact ⟨c0W0, c0W1⟩) | (with_reducible exact ⟨c1W0, c1W1⟩) | (with_reducible exact ⟨c2W0, c2W1⟩) | (refine ⟨kkeep (W := W) ?_ y0, kkeep (W := W) ?_ y1⟩ <;> ((repeat (first | with_reducible exact Kp.refl _ | with_reducible apply Kp.drew | with_reducible apply Kp.alloc)); done)) | (refine ⟨kkeep (W := w3) ?_ c0W0, kkeep (W := w3) ?_ c0W1⟩ <;> ((repeat (first | with_reducible exact Kp.refl _ | with_reducible apply Kp.drew | with_reducible apply Kp.alloc)); done)) | (refine ⟨kkeep (W := w4) ?_ c1W0, kkeep (W := w4) ?_ c1W1⟩ <;> ((repeat (first | with_reducible exact Kp.refl _ | with_reducible apply Kp.drew | with_reducible apply Kp.alloc)); done)) | (refine ⟨kkeep (W := w5) ?_ c2W0, kkeep (W := w5) ?_ c2W1⟩ <;> ((repeat (first | with_reducible exact Kp.refl _ | with_reducible apply Kp.drew | with_reducible apply Kp.alloc)); done)) | (refine ⟨?_, ?_⟩ <;> (refine (World.cell?_setCell_far _ _ _ _ ?_).trans ((World.cell?_setCell_far _ _ _ _ ?_).trans ((World.cell?_setCell_far _ _ _ _ ?_).trans ?_)) <;> first | assumption | (have h90 := cell_lt y0; have h91 := cell_lt y1; have h2 := Below.size KW0; have h3 := Below.size KW1; first | omega | (simp <;> omega))))) (first | (go_at_call_of 25 (Value.int .u64 A1); refine (hf1 _).mono ?_; rintro e w3 ⟨s, p, l, c, q, k, d, rfl, hp, g3⟩; have KW0 : Kp W w3 := Kp.trans (by (repeat (first | exact Kp.refl _ | apply Kp.drew | apply Kp.alloc)); done) g3; have c0W0 := kkeep KW0 y0; have c0W1 := kkeep KW0 y1) | (go_at_call_of 25 (Value.int .u64 B1); refine (hf3 _).mono ?_; rintro e w4 ⟨s2, p2, l2, c2, q2, k2, d2, rfl, hp2, g4⟩; have KW1 : Kp W w4 := Kp.trans (Kp.trans KW0 (by (repeat (first | exact Kp.refl _ | apply Kp.drew | apply Kp.alloc)); done)) g4; have c1W0 := kkeep KW1 y0; have c1W1 := kkeep KW1 y1) | (go_at_call 24; refine (vsub_ N1 N3 M1 M3 s p l c q k d s2 p2 l2 c2 q2 k2 d2 _ _ _ ((hp.kp (Kp.trans (by (repeat (first | exact Kp.refl _ | apply Kp.drew | apply Kp.alloc)); done) g4)).kp (by (repeat (first | exact Kp.refl _ | apply Kp.drew | apply Kp.alloc)); done)) (hp2.kp (by (repeat (first | exact Kp.refl _ | apply Kp.drew | apply Kp.alloc)); done))).mono ?_; rintro e w5 ⟨s3, p3, l3, c3, q3, k3, d3, rfl, hq, g5⟩; rw [e7] at hq; have KW2 : Kp W w5 := Kp.trans (Kp.trans KW1 (by (repeat (first | exact Kp.refl _ | apply Kp.drew | apply Kp.alloc)); done)) g5; have c2W0 := kkeep KW2 y0; have c2W1 := kkeep KW2 y1; first | (have m00 : (W.drew.alloc (.cells #[.bool false, .slice none 0 0, .slice none 0 0] 46)).cell? ⟨W.heap.size, 0, none⟩ = some (.bool false) := (by simp [go_sem]); have f00 : (W.drew.alloc (.cells #[.bool false, .slice none 0 0, .slice none 0 0] 46)).frozen? ⟨W.heap.size, 0, none⟩ = false := (by simp [go_sem]); have m01 : (W.drew.alloc (.cells #[.bool false, .slice none 0 0, .slice none 0 0] 46)).cell? ⟨W.heap.size, 1, none⟩ = some (.slice none 0 0) := (by simp [go_sem]); have f01 : (W.drew.alloc (.cells #[.bool false, .slice none 0 0, .slice none 0 0] 46)).frozen? ⟨W.heap.size, 1, none⟩ = false := (by simp [go_sem]); have m02 : (W.drew.alloc (.cells #[.bool false, .slice none 0 0, .slice none 0 0] 46)).cell? ⟨W.heap.size, 2, none⟩ = some (.slice none 0 0) := (by simp [go_sem]); have f02 : (W.drew.alloc (.cells #[.bool false, .slice none 0 0, .slice none 0 0] 46)).frozen? ⟨W.heap.size, 2, none⟩ = false := (by simp [go_sem]); have m10 := kkeep g3 m00; have f10 : w3.frozen? ⟨W.heap.size, 0, none⟩ = false := (kfro g3 (cell_lt m00)).trans f00; have m11 := kkeep g3 m01; have f11 : w3.frozen? ⟨W.heap.size, 1, none⟩ = false := (kfro g3 (cell_lt m01)).trans f01; have m12 := kkeep g3 m02; have f12 : w3.frozen? ⟨W.heap.size, 2, none⟩ = false := (kfro g3 (cell_lt m02)).trans f02; have m20 := kkeep g4 m10; have f20 : w4.frozen? ⟨W.heap.size, 0, none⟩ = false := (kfro g4 (cell_lt m10)).trans f10; have m21 := kkeep g4 m11; have f21 : w4.frozen? ⟨W.heap.size, 1, none⟩ = false := (kfro g4 (cell_lt m11)).trans f11; have m22 := kkeep g4 m12; have f22 : w4.frozen? ⟨W.heap.size, 2, none⟩ = false := (kfro g4 (cell_lt m12)).trans f12; have m30 := kkeep g5 m20; have f30 : w5.frozen? ⟨W.heap.size, 0, none⟩ = false := (kfro g5 (cell_lt m20)).trans f20; have m31 := kkeep g5 m21; have f31 : w5.frozen? ⟨W.heap.size, 1, none⟩ = false := (kfro g5 (cell_lt m21)).trans f21; have m32 := kkeep g5 m22; have f32 : w5.frozen? ⟨W.heap.size, 2, none⟩ = false := (kfro g5 (cell_lt m22)).trans f22; have HS := (((hq.set (x := ⟨W.heap.size, 0, none⟩) (cell_lt m20) (.bool s3)).set (x := ⟨W.heap.size, 1, none⟩) (cell_lt m20) (.slice p3 l3 c3)).set (x := ⟨W.heap.size, 2, none⟩) (cell_lt m20) (.slice q3 k3 d3))) | (have m00 : (w3.alloc (.cells #[.bool false, .slice none 0 0, .slice none 0 0] 46)).cell? ⟨w3.heap.size, 0, none⟩ = some (.bool false) := (by simp [go_sem]); have f00 : (w3.alloc (.cells #[.bool false, .slice none 0 0, .slice none 0 0] 46)).frozen? ⟨w3.heap.size, 0, none⟩ = false := (by simp [go_sem]); have m01 : (w3.alloc (.cells #[.bool false, .slice none 0 0, .slice none 0 0] 46)).cell? ⟨w3.heap.size, 1, none⟩ = some (.slice none 0 0) := (by simp [go_sem]); have f01 : (w3.alloc (.cells #[.bool false, .slice none 0 0, .slice none 0 0] 46)).frozen? ⟨w3.heap.size, 1, none⟩ = false := (by simp [go_sem]); have m02 : (w3.alloc (.cells #[.bool false, .slice none 0 0, .slice none 0 0] 46)).cell? ⟨w3.heap.size, 2, none⟩ = some (.slice none 0 0) := (by simp [go_sem]); have f02 : (w3.alloc (.cells #[.bool false, .slice none 0 0, .slice none 0 0] 46)).frozen? ⟨w3.heap.size, 2, none⟩ = false := (by simp [go_sem]); have m10 := kkeep g4 m00; have f10 : w4.frozen? ⟨w3.heap.size, 0, none⟩ = false := (kfro g4 (cell_lt m00)).trans f00; have m11 := kkeep g4 m01; have f11 : w4.frozen? ⟨w3.heap.size, 1, none⟩ = false := (kfro g4 (cell_lt m01)).trans f01; have m12 := kkeep g4 m02; have f12 : w4.frozen? ⟨w3.heap.size, 2, none⟩ = false := (kfro g4 (cell_lt m02)).trans f02; have m20 := kkeep g5 m10; have f20 : w5.frozen? ⟨w3.heap.size, 0, none⟩ = false := (kfro g5 (cell_lt m10)).trans f10; have m21 := kkeep g5 m11; have f21 : w5.frozen? ⟨w3.heap.size, 1, none⟩ = false := (kfro g5 (cell_lt m11)).trans f11; have m22 := kkeep g5 m12; have f22 : w5.frozen? ⟨w3.heap.size, 2, none⟩ = false := (kfro g5 (cell_lt m12)).trans f12; have HS := (((hq.set (x := ⟨w3.heap.size, 0, none⟩) (cell_lt m10) (.bool s3)).set (x := ⟨w3.heap.size, 1, none⟩) (cell_lt m10) (.slice p3 l3 c3)).set (x := ⟨w3.heap.size, 2, none⟩) (cell_lt m10) (.slice q3 k3 d3))) | (have m00 : (w4.alloc (.cells #[.bool false, .slice none 0 0, .slice none 0 0] 46)).cell? ⟨w4.heap.size, 0, none⟩ = some (.bool false) := (by simp [go_sem]); have f00 : (w4.alloc (.cells #[.bool false, .slice none 0 0, .slice none 0 0] 46)).frozen? ⟨w4.heap.size, 0, none⟩ = false := (by simp [go_sem]); have m01 : (w4.alloc (.cells #[.bool false, .slice none 0 0, .slice none 0 0] 46)).cell? ⟨w4.heap.size, 1, none⟩ = some (.slice none 0 0) := (by simp [go_sem]); have f01 : (w4.alloc (.cells #[.bool false, .slice none 0 0, .slice none 0 0] 46)).frozen? ⟨w4.heap.size, 1, none⟩ = false := (by simp [go_sem]); have m02 : (w4.alloc (.cells #[.bool false, .slice none 0 0, .slice none 0 0] 46)).cell? ⟨w4.heap.size, 2, none⟩ = some (.slice none 0 0) := (by simp [go_sem]); have f02 : (w4.alloc (.cells #[.bool false, .slice none 0 0, .slice none 0 0] 46)).frozen? ⟨w4.heap.size, 2, none⟩ = false := (by simp [go_sem]); have m10 := kkeep g5 m00; have f10 : w5.frozen? ⟨w4.heap.size, 0, none⟩ = false := (kfro g5 (cell_lt m00)).trans f00; have m11 := kkeep g5 m01; have f11 : w5.frozen? ⟨w4.heap.size, 1, none⟩ = false := (kfro g5 (cell_lt m01)).trans f01; have m12 := kkeep g5 m02; have f12 : w5.frozen? ⟨w4.heap.size, 2, none⟩ = false := (kfro g5 (cell_lt m02)).trans f02; have HS := (((hq.set (x := ⟨w4.heap.size, 0, none⟩) (cell_lt m00) (.bool s3)).set (x := ⟨w4.heap.size, 1, none⟩) (cell_lt m00) (.slice p3 l3 c3)).set (x := ⟨w4.heap.size, 2, none⟩) (cell_lt m00) (.slice q3 k3 d3))) | skip))
    all_goals go_wp2_with fail
    all_goals (first
      | skip
        have x0 : ((((w5).setCell ⟨W.heap.size, 0, none⟩ (.bool s3)).setCell ⟨W.heap.size, 1, none⟩ (.slice p3 l3 c3)).setCell ⟨W.heap.size, 2, none⟩ (.slice q3 k3 d3)).cell? ⟨W.heap.size, 0, none⟩ = some (.bool s3) := by simp [go_sem, m30, m31, m32, f30, f31, f32]
        have x1 : ((((w5).setCell ⟨W.heap.size, 0, none⟩ (.bool s3)).setCell ⟨W.heap.size, 1, none⟩ (.slice p3 l3 c3)).setCell ⟨W.heap.size, 2, none⟩ (.slice q3 k3 d3)).cell? ⟨W.heap.size, 1, none⟩ = some (.slice p3 l3 c3) := by simp [go_sem, m30, m31, m32, f30, f31, f32]
        have x2 : ((((w5).setCell ⟨W.heap.size, 0, none⟩ (.bool s3)).setCell ⟨W.heap.size, 1, none⟩ (.slice p3 l3 c3)).setCell ⟨W.heap.size, 2, none⟩ (.slice q3 k3 d3)).cell? ⟨W.heap.size, 2, none⟩ = some (.slice q3 k3 d3) := by simp [go_sem, m30, m31, m32, f30, f31, f32]
        have hv5 := HS
        have kV : Kp w ((((w5).setCell ⟨W.heap.size, 0, none⟩ (.bool s3)).setCell ⟨W.heap.size, 1, none⟩ (.slice p3 l3 c3)).setCell ⟨W.heap.size, 2, none⟩ (.slice q3 k3 d3)) := ((((Kp.trans kW KW2)).setCell (by exact Below.size kW) _).setCell (by exact Below.size kW) _).setCell (by exact Below.size kW) _
        have KZ9 : Kp W ((((w5).setCell ⟨W.heap.size, 0, none⟩ (.bool s3)).setCell ⟨W.heap.size, 1, none⟩ (.slice p3 l3 c3)).setCell ⟨W.heap.size, 2, none⟩ (.slice q3 k3 d3)) := (((KW2).setCell (by first | omega | (simp <;> omega)) _).setCell (by first | omega | (simp <;> omega)) _).setCell (by first | omega | (simp <;> omega)) _
        generalize ((((w5).setCell ⟨W.heap.size, 0, none⟩ (.bool s3)).setCell ⟨W.heap.size, 1, none⟩ (.slice p3 l3 c3)).setCell ⟨W.heap.size, 2, none⟩ (.slice q3 k3 d3)) = W5 at x0 x1 x2 hv5 kV KZ9 ⊢
        generalize W.heap.size = B5 at x0 x1 x2 ⊢
      | skip
        have x0 : ((((w5).setCell ⟨w3.heap.size, 0, none⟩ (.bool s3)).setCell ⟨w3.heap.size, 1, none⟩ (.slice p3 l3 c3)).setCell ⟨w3.heap.size, 2, none⟩ (.slice q3 k3 d3)).cell? ⟨w3.heap.size, 0, none⟩ = some (.bool s3) := by simp [go_sem, m20, m21, m22, f20, f21, f22]
        have x1 : ((((w5).setCell ⟨w3.heap.size, 0, none⟩ (.bool s3)).setCell ⟨w3.heap.size, 1, none⟩ (.slice p3 l3 c3)).setCell ⟨w3.heap.size, 2, none⟩ (.slice q3 k3 d3)).cell? ⟨w3.heap.size, 1, none⟩ = some (.slice p3 l3 c3) := by simp [go_sem, m20, m21, m22, f20, f21, f22]
        have x2 : ((((w5).setCell ⟨w3.heap.size, 0, none⟩ (.bool s3)).setCell ⟨w3.heap.size, 1, none⟩ (.slice p3 l3 c3)).setCell ⟨w3.heap.size, 2, none⟩ (.slice q3 k3 d3)).cell? ⟨w3.heap.size, 2, none⟩ = some (.slice q3 k3 d3) := by simp [go_sem, m20, m21, m22, f20, f21, f22]
        have hv5 := HS
        have kV : Kp w ((((w5).setCell ⟨w3.heap.size, 0, none⟩ (.bool s3)).setCell ⟨w3.heap.size, 1, none⟩ (.slice p3 l3 c3)).setCell ⟨w3.heap.size, 2, none⟩ (.slice q3 k3 d3)) := ((((Kp.trans kW KW2)).setCell (by have h1 := Below.size kW; have h2 := Below.size KW0; first | omega | (simp <;> omega)) _).setCell (by have h1 := Below.size kW; have h2 := Below.size KW0; first | omega | (simp <;> omega)) _).setCell (by have h1 := Below.size kW; have h2 := Below.size KW0; first | omega | (simp <;> omega)) _
        have KZ9 : Kp W ((((w5).setCell ⟨w3.heap.size, 0, none⟩ (.bool s3)).setCell ⟨w3.heap.size, 1, none⟩ (.slice p3 l3 c3)).setCell ⟨w3.heap.size, 2, none⟩ (.slice q3 k3 d3)) := (((KW2).setCell (by have h2 := Below.size KW0; first | omega | (simp <;> omega)) _).setCell (by have h2 := Below.size KW0; first | omega | (simp <;> omega)) _).setCell (by have h2 := Below.size KW0; first | omega | (simp <;> omega)) _
        generalize ((((w5).setCell ⟨w3.heap.size, 0, none⟩ (.bool s3)).setCell ⟨w3.heap.size, 1, none⟩ (.slice p3 l3 c3)).setCell ⟨w3.heap.size, 2, none⟩ (.slice q3 k3 d3)) = W5 at x0 x1 x2 hv5 kV KZ9 ⊢
        generalize w3.heap.size = B5 at x0 x1 x2 ⊢
      | skip
        have x0 : ((((w5).setCell ⟨w4.heap.size, 0, none⟩ (.bool s3)).setCell ⟨w4.heap.size, 1, none⟩ (.slice p3 l3 c3)).setCell ⟨w4.heap.size, 2, none⟩ (.slice q3 k3 d3)).cell? ⟨w4.heap.size, 0, none⟩ = some (.bool s3) := by simp [go_sem, m10, m11, m12, f10, f11, f12]
        have x1 : ((((w5).setCell ⟨w4.heap.size, 0, none⟩ (.bool s3)).setCell ⟨w4.heap.size, 1, none⟩ (.slice p3 l3 c3)).setCell ⟨w4.heap.size, 2, none⟩ (.slice q3 k3 d3)).cell? ⟨w4.heap.size, 1, none⟩ = some (.slice p3 l3 c3) := by simp [go_sem, m10, m11, m12, f10, f11, f12]
        have x2 : ((((w5).setCell ⟨w4.heap.size, 0, none⟩ (.bool s3)).setCell ⟨w4.heap.size, 1, none⟩ (.slice p3 l3 c3)).setCell ⟨w4.heap.size, 2, none⟩ (.slice q3 k3 d3)).cell? ⟨w4.heap.size, 2, none⟩ = some (.slice q3 k3 d3) := by simp [go_sem, m10, m11, m12, f10, f11, f12]
        have hv5 := HS
        have kV : Kp w ((((w5).setCell ⟨w4.heap.size, 0, none⟩ (.bool s3)).setCell ⟨w4.heap.size, 1, none⟩ (.slice p3 l3 c3)).setCell ⟨w4.heap.size, 2, none⟩ (.slice q3 k3 d3)) := ((((Kp.trans kW KW2)).setCell (by have h1 := Below.size kW; have h2 := Below.size KW1; first | omega | (simp <;> omega)) _).setCell (by have h1 := Below.size kW; have h2 := Below.size KW1; first | omega | (simp <;> omega)) _).setCell (by have h1 := Below.size kW; have h2 := Below.size KW1; first | omega | (simp <;> omega)) _
        have KZ9 : Kp W ((((w5).setCell ⟨w4.heap.size, 0, none⟩ (.bool s3)).setCell ⟨w4.heap.size, 1, none⟩ (.slice p3 l3 c3)).setCell ⟨w4.heap.size, 2, none⟩ (.slice q3 k3 d3)) := (((KW2).setCell (by have h2 := Below.size KW1; first | omega | (simp <;> omega)) _).setCell (by have h2 := Below.size KW1; first | omega | (simp <;> omega)) _).setCell (by have h2 := Below.size KW1; first | omega | (simp <;> omega)) _
        generalize ((((w5).setCell ⟨w4.heap.size, 0, none⟩ (.bool s3)).setCell ⟨w4.heap.size, 1, none⟩ (.slice p3 l3 c3)).setCell ⟨w4.heap.size, 2, none⟩ (.slice q3 k3 d3)) = W5 at x0 x1 x2 hv5 kV KZ9 ⊢
        generalize w4.heap.size = B5 at x0 x1 x2 ⊢
      | skip
        have x0 : (w5.alloc (.cells #[.bool s3, .slice p3 l3 c3, .slice q3 k3 d3] 46)).cell? ⟨w5.heap.size, 0, none⟩ = some (.bool s3) := by simp [go_sem]
        have x1 : (w5.alloc (.cells #[.bool s3, .slice p3 l3 c3, .slice q3 k3 d3] 46)).cell? ⟨w5.heap.size, 1, none⟩ = some (.slice p3 l3 c3) := by simp [go_sem]
        have x2 : (w5.alloc (.cells #[.bool s3, .slice p3 l3 c3, .slice q3 k3 d3] 46)).cell? ⟨w5.heap.size, 2, none⟩ = some (.slice q3 k3 d3) := by simp [go_sem]
        have hv5 := hq.kp ((Kp.refl w5).alloc (.cells #[.bool s3, .slice p3 l3 c3, .slice q3 k3 d3] 46))
        have kV : Kp w (w5.alloc (.cells #[.bool s3, .slice p3 l3 c3, .slice q3 k3 d3] 46)) := Kp.trans (Kp.trans kW KW2) ((Kp.refl w5).alloc _)
        have KZ9 : Kp W (w5.alloc (.cells #[.bool s3, .slice p3 l3 c3, .slice q3 k3 d3] 46)) := Kp.trans KW2 ((Kp.refl w5).alloc _)
        generalize ((w5.alloc (.cells #[.bool s3, .slice p3 l3 c3, .slice q3 k3 d3] 46))) = W5 at x0 x1 x2 hv5 kV KZ9 ⊢
        generalize w5.heap.size = B5 at x0 x1 x2 ⊢)
    all_goals (
      go_meet
      exact ⟨B5, s3, p3, l3, c3, q3, k3, d3, rfl, ⟨x0, x1, x2⟩, hv5.mono (Nat.zero_le _), KZ9⟩)
  case rest =>
  obtain ⟨g7, s7, p7, l7, c7, q7, k7, d7, rfl, ⟨x70, x71, x72⟩, hv7, gc⟩ := hcut
  replace sW := H6.keep sW gc
  replace qA := Fq.H2.keep qA gc
  replace qB := Fq.H2.keep qB gc
  replace kW := Kp.trans kW gc
  clear gc a0 a1 a2 a3 b0 b1 b2 b3 z0 z1 z2 z3
  generalize wc = W at sW qA qB kW x70 x71 x72 hv7 ⊢
  obtain ⟨a0, a1, a2, a3⟩ := id qA
  obtain ⟨b0, b1, b2, b3⟩ := id qB
  obtain ⟨_, _, z0, z1, z2, z3⟩ := id sW
  go_wp2
  go_cut [8] (fun s8 wx => ∃ (g : Nat) (s3 : Bool) (p3 : Option Addr) (l3 c3 : Nat) (q3 : Option Addr) (k3 d3 : Nat), s8 = .pointer (some ⟨g, 0, none⟩) ∧ (wx.cell? ⟨g, 0, none⟩ = some (.bool s3) ∧ wx.cell? ⟨g, 1, none⟩ = some (.slice p3 l3 c3) ∧ wx.cell? ⟨g, 2, none⟩ = some (.slice q3 k3 d3)) ∧ VP 0 wx s3 p3 l3 c3 q3 k3 d3 V8 ∧ Kp W wx)
  case first =>
    have y0 : W.cell? ⟨bA, 1, none⟩ = some (.int .u64 A2) := a1
    have y1 : W.cell? ⟨bB, 1, none⟩ = some (.int .u64 B2) := b1
    have yd0 : W.drew.cell? ⟨bA, 1, none⟩ = some (.int .u64 A2) := a1
    have yd1 : W.drew.cell? ⟨bB, 1, none⟩ = some (.int .u64 B2) := b1
    go_region_held3 (fun w' => w'.cell? ⟨bA, 1, none⟩ = some (.int .u64 A2) ∧ w'.cell? ⟨bB, 1, none⟩ = some (.int .u64 B2)) (first | (with_reducible exact ⟨y0, y1⟩) | (with_reducible exact ⟨yd0, yd1⟩) | (with_reducible exact ⟨c0W0, c0W1⟩) | (with_reducible exact ⟨c1W0, c1W1⟩) | (with_reducible exact ⟨c2W0, c2W1⟩) | (refine ⟨kkeep (W := W) ?_ y0, kkeep (W := W) ?_ y1⟩ <;> ((repeat (first | with_reducible exact Kp.refl _ | with_reducible apply Kp.drew | with_reducible apply Kp.alloc)); done)) | (refine ⟨kkeep (W := w3) ?_ c0W0, kkeep (W := w3) ?_ c0W1⟩ <;> ((repeat (first | with_reducible exact Kp.refl _ | with_reducible apply Kp.drew | with_reducible apply Kp.alloc)); done)) | (refine ⟨kkeep (W := w4) ?_ c1W0, kkeep (W := w4) ?_ c1W1⟩ <;> ((repeat (first | with_reducible exact Kp.refl _ | with_reducible apply Kp.drew | with_reducible apply Kp.alloc)); done)) | (refine ⟨kkeep (W := w5) ?_ c2W0, kkeep (W := w5) ?_ c2W1⟩ <;> ((repeat (first | with_reducible exact Kp.refl _ | with_reducible apply Kp.drew | with_reducible apply Kp.alloc)); done)) | (refine ⟨?_, ?_⟩ <;> (refine (World.cell?_setCell_far _ _ _ _ ?_).trans ((World.cell?_setCell_far _ _ _ _ ?_).trans ((World.cell?_setCell_far _ _ _ _ ?_).trans ?_)) <;> first | assumption | (have h90 := cell_lt y0; have h91 := cell_lt y1; have h2 := Below.size KW0; have h3 := Below.size KW1; first | omega | (simp <;> omega))))) (first | (go_at_call_of 25 (Value.int .u64 A2); refine (hf2 _).mono ?_; rintro e w3 ⟨s, p, l, c, q, k, d, rfl, hp, g3⟩; have KW0 : Kp W w3 := Kp.trans (by (repeat (first | exact Kp.refl _ | apply Kp.drew | apply Kp.alloc)); done) g3; have c0W0 := kkeep KW0 y0; have c0W1 := kkeep KW0 y1) | (go_at_call_of 25 (Value.int .u64 B2); refine (hf4 _).mono ?_; rintro e w4 ⟨s2, p2, l2, c2, q2, k2, d2, rfl, hp2, g4⟩; have KW1 : Kp W w4 := Kp.trans (Kp.trans KW0 (by (repeat (first | exact Kp.refl _ | apply Kp.drew | apply Kp.alloc)); done)) g4; have c1W0 := kkeep KW1 y0; have c1W1 := kkeep KW1 y1) | (go_at_call 24; refine (vsub_ N2 N4 M2 M4 s p l c q k d s2 p2 l2 c2 q2 k2 d2 _ _ _ ((hp.kp (Kp.trans (by (repeat (first | exact Kp.refl _ | apply Kp.drew | apply Kp.alloc)); done) g4)).kp (by (repeat (first | exact Kp.refl _ | apply Kp.drew | apply Kp.alloc)); done)) (hp2.kp (by (repeat (first | exact Kp.refl _ | apply Kp.drew | apply Kp.alloc)); done))).mono ?_; rintro e w5 ⟨s3, p3, l3, c3, q3, k3, d3, rfl, hq, g5⟩; rw [e8] at hq; have KW2 : Kp W w5 := Kp.trans (Kp.trans KW1 (by (repeat (first | exact Kp.refl _ | apply Kp.drew | apply Kp.alloc)); done)) g5; have c2W0 := kkeep KW2 y0; have c2W1 := kkeep KW2 y1; first | (have m00 : (W.drew.alloc (.cells #[.bool false, .slice none 0 0, .slice none 0 0] 46)).cell? ⟨W.heap.size, 0, none⟩ = some (.bool false) := (by simp [go_sem]); have f00 : (W.drew.alloc (.cells #[.bool false, .slice none 0 0, .slice none 0 0] 46)).frozen? ⟨W.heap.size, 0, none⟩ = false := (by simp [go_sem]); have m01 : (W.drew.alloc (.cells #[.bool false, .slice none 0 0, .slice none 0 0] 46)).cell? ⟨W.heap.size, 1, none⟩ = some (.slice none 0 0) := (by simp [go_sem]); have f01 : (W.drew.alloc (.cells #[.bool false, .slice none 0 0, .slice none 0 0] 46)).frozen? ⟨W.heap.size, 1, none⟩ = false := (by simp [go_sem]); have m02 : (W.drew.alloc (.cells #[.bool false, .slice none 0 0, .slice none 0 0] 46)).cell? ⟨W.heap.size, 2, none⟩ = some (.slice none 0 0) := (by simp [go_sem]); have f02 : (W.drew.alloc (.cells #[.bool false, .slice none 0 0, .slice none 0 0] 46)).frozen? ⟨W.heap.size, 2, none⟩ = false := (by simp [go_sem]); have m10 := kkeep g3 m00; have f10 : w3.frozen? ⟨W.heap.size, 0, none⟩ = false := (kfro g3 (cell_lt m00)).trans f00; have m11 := kkeep g3 m01; have f11 : w3.frozen? ⟨W.heap.size, 1, none⟩ = false := (kfro g3 (cell_lt m01)).trans f01; have m12 := kkeep g3 m02; have f12 : w3.frozen? ⟨W.heap.size, 2, none⟩ = false := (kfro g3 (cell_lt m02)).trans f02; have m20 := kkeep g4 m10; have f20 : w4.frozen? ⟨W.heap.size, 0, none⟩ = false := (kfro g4 (cell_lt m10)).trans f10; have m21 := kkeep g4 m11; have f21 : w4.frozen? ⟨W.heap.size, 1, none⟩ = false := (kfro g4 (cell_lt m11)).trans f11; have m22 := kkeep g4 m12; have f22 : w4.frozen? ⟨W.heap.size, 2, none⟩ = false := (kfro g4 (cell_lt m12)).trans f12; have m30 := kkeep g5 m20; have f30 : w5.frozen? ⟨W.heap.size, 0, none⟩ = false := (kfro g5 (cell_lt m20)).trans f20; have m31 := kkeep g5 m21; have f31 : w5.frozen? ⟨W.heap.size, 1, none⟩ = false := (kfro g5 (cell_lt m21)).trans f21; have m32 := kkeep g5 m22; have f32 : w5.frozen? ⟨W.heap.size, 2, none⟩ = false := (kfro g5 (cell_lt m22)).trans f22; have HS := (((hq.set (x := ⟨W.heap.size, 0, none⟩) (cell_lt m20) (.bool s3)).set (x := ⟨W.heap.size, 1, none⟩) (cell_lt m20) (.slice p3 l3 c3)).set (x := ⟨W.heap.size, 2, none⟩) (cell_lt m20) (.slice q3 k3 d3))) | (have m00 : (w3.alloc (.cells #[.bool false, .slice none 0 0, .slice none 0 0] 46)).cell? ⟨w3.heap.size, 0, none⟩ = some (.bool false) := (by simp [go_sem]); have f00 : (w3.alloc (.cells #[.bool false, .slice none 0 0, .slice none 0 0] 46)).frozen? ⟨w3.heap.size, 0, none⟩ = false := (by simp [go_sem]); have m01 : (w3.alloc (.cells #[.bool false, .slice none 0 0, .slice none 0 0] 46)).cell? ⟨w3.heap.size, 1, none⟩ = some (.slice none 0 0) := (by simp [go_sem]); have f01 : (w3.alloc (.cells #[.bool false, .slice none 0 0, .slice none 0 0] 46)).frozen? ⟨w3.heap.size, 1, none⟩ = false := (by simp [go_sem]); have m02 : (w3.alloc (.cells #[.bool false, .slice none 0 0, .slice none 0 0] 46)).cell? ⟨w3.heap.size, 2, none⟩ = some (.slice none 0 0) := (by simp [go_sem]); have f02 : (w3.alloc (.cells #[.bool false, .slice none 0 0, .slice none 0 0] 46)).frozen? ⟨w3.heap.size, 2, none⟩ = false := (by simp [go_sem]); have m10 := kkeep g4 m00; have f10 : w4.frozen? ⟨w3.heap.size, 0, none⟩ = false := (kfro g4 (cell_lt m00)).trans f00; have m11 := kkeep g4 m01; have f11 : w4.frozen? ⟨w3.heap.size, 1, none⟩ = false := (kfro g4 (cell_lt m01)).trans f01; have m12 := kkeep g4 m02; have f12 : w4.frozen? ⟨w3.heap.size, 2, none⟩ = false := (kfro g4 (cell_lt m02)).trans f02; have m20 := kkeep g5 m10; have f20 : w5.frozen? ⟨w3.heap.size, 0, none⟩ = false := (kfro g5 (cell_lt m10)).trans f10; have m21 := kkeep g5 m11; have f21 : w5.frozen? ⟨w3.heap.size, 1, none⟩ = false := (kfro g5 (cell_lt m11)).trans f11; have m22 := kkeep g5 m12; have f22 : w5.frozen? ⟨w3.heap.size, 2, none⟩ = false := (kfro g5 (cell_lt m12)).trans f12; have HS := (((hq.set (x := ⟨w3.heap.size, 0, none⟩) (cell_lt m10) (.bool s3)).set (x := ⟨w3.heap.size, 1, none⟩) (cell_lt m10) (.slice p3 l3 c3)).set (x := ⟨w3.heap.size, 2, none⟩) (cell_lt m10) (.slice q3 k3 d3))) | (have m00 : (w4.alloc (.cells #[.bool false, .slice none 0 0, .slice none 0 0] 46)).cell? ⟨w4.heap.size, 0, none⟩ = some (.bool false) := (by simp [go_sem]); have f00 : (w4.alloc (.cells #[.bool false, .slice none 0 0, .slice none 0 0] 46)).frozen? ⟨w4.heap.size, 0, none⟩ = false := (by simp [go_sem]); have m01 : (w4.alloc (.cells #[.bool false, .slice none 0 0, .slice none 0 0] 46)).cell? ⟨w4.heap.size, 1, none⟩ = some (.slice none 0 0) := (by simp [go_sem]); have f01 : (w4.alloc (.cells #[.bool false, .slice none 0 0, .slice none 0 0] 46)).frozen? ⟨w4.heap.size, 1, none⟩ = false := (by simp [go_sem]); have m02 : (w4.alloc (.cells #[.bool false, .slice none 0 0, .slice none 0 0] 46)).cell? ⟨w4.heap.size, 2, none⟩ = some (.slice none 0 0) := (by simp [go_sem]); have f02 : (w4.alloc (.cells #[.bool false, .slice none 0 0, .slice none 0 0] 46)).frozen? ⟨w4.heap.size, 2, none⟩ = false := (by simp [go_sem]); have m10 := kkeep g5 m00; have f10 : w5.frozen? ⟨w4.heap.size, 0, none⟩ = false := (kfro g5 (cell_lt m00)).trans f00; have m11 := kkeep g5 m01; have f11 : w5.frozen? ⟨w4.heap.size, 1, none⟩ = false := (kfro g5 (cell_lt m01)).trans f01; have m12 := kkeep g5 m02; have f12 : w5.frozen? ⟨w4.heap.size, 2, none⟩ = false := (kfro g5 (cell_lt m02)).trans f02; have HS := (((hq.set (x := ⟨w4.heap.size, 0, none⟩) (cell_lt m00) (.bool s3)).set (x := ⟨w4.heap.size, 1, none⟩) (cell_lt m00) (.slice p3 l3 c3)).set (x := ⟨w4.heap.size, 2, none⟩) (cell_lt m00) (.slice q3 k3 d3))) | skip))
    all_goals go_wp2_with fail
    all_goals (first
      | skip
        have x0 : ((((w5).setCell ⟨W.heap.size, 0, none⟩ (.bool s3)).setCell ⟨W.heap.size, 1, none⟩ (.slice p3 l3 c3)).setCell ⟨W.heap.size, 2, none⟩ (.slice q3 k3 d3)).cell? ⟨W.heap.size, 0, none⟩ = some (.bool s3) := by simp [go_sem, m30, m31, m32, f30, f31, f32]
        have x1 : ((((w5).setCell ⟨W.heap.size, 0, none⟩ (.bool s3)).setCell ⟨W.heap.size, 1, none⟩ (.slice p3 l3 c3)).setCell ⟨W.heap.size, 2, none⟩ (.slice q3 k3 d3)).cell? ⟨W.heap.size, 1, none⟩ = some (.slice p3 l3 c3) := by simp [go_sem, m30, m31, m32, f30, f31, f32]
        have x2 : ((((w5).setCell ⟨W.heap.size, 0, none⟩ (.bool s3)).setCell ⟨W.heap.size, 1, none⟩ (.slice p3 l3 c3)).setCell ⟨W.heap.size, 2, none⟩ (.slice q3 k3 d3)).cell? ⟨W.heap.size, 2, none⟩ = some (.slice q3 k3 d3) := by simp [go_sem, m30, m31, m32, f30, f31, f32]
        have hv5 := HS
        have kV : Kp w ((((w5).setCell ⟨W.heap.size, 0, none⟩ (.bool s3)).setCell ⟨W.heap.size, 1, none⟩ (.slice p3 l3 c3)).setCell ⟨W.heap.size, 2, none⟩ (.slice q3 k3 d3)) := ((((Kp.trans kW KW2)).setCell (by exact Below.size kW) _).setCell (by exact Below.size kW) _).setCell (by exact Below.size kW) _
        have KZ9 : Kp W ((((w5).setCell ⟨W.heap.size, 0, none⟩ (.bool s3)).setCell ⟨W.heap.size, 1, none⟩ (.slice p3 l3 c3)).setCell ⟨W.heap.size, 2, none⟩ (.slice q3 k3 d3)) := (((KW2).setCell (by first | omega | (simp <;> omega)) _).setCell (by first | omega | (simp <;> omega)) _).setCell (by first | omega | (simp <;> omega)) _
        generalize ((((w5).setCell ⟨W.heap.size, 0, none⟩ (.bool s3)).setCell ⟨W.heap.size, 1, none⟩ (.slice p3 l3 c3)).setCell ⟨W.heap.size, 2, none⟩ (.slice q3 k3 d3)) = W5 at x0 x1 x2 hv5 kV KZ9 ⊢
        generalize W.heap.size = B5 at x0 x1 x2 ⊢
      | skip
        have x0 : ((((w5).setCell ⟨w3.heap.size, 0, none⟩ (.bool s3)).setCell ⟨w3.heap.size, 1, none⟩ (.slice p3 l3 c3)).setCell ⟨w3.heap.size, 2, none⟩ (.slice q3 k3 d3)).cell? ⟨w3.heap.size, 0, none⟩ = some (.bool s3) := by simp [go_sem, m20, m21, m22, f20, f21, f22]
        have x1 : ((((w5).setCell ⟨w3.heap.size, 0, none⟩ (.bool s3)).setCell ⟨w3.heap.size, 1, none⟩ (.slice p3 l3 c3)).setCell ⟨w3.heap.size, 2, none⟩ (.slice q3 k3 d3)).cell? ⟨w3.heap.size, 1, none⟩ = some (.slice p3 l3 c3) := by simp [go_sem, m20, m21, m22, f20, f21, f22]
        have x2 : ((((w5).setCell ⟨w3.heap.size, 0, none⟩ (.bool s3)).setCell ⟨w3.heap.size, 1, none⟩ (.slice p3 l3 c3)).setCell ⟨w3.heap.size, 2, none⟩ (.slice q3 k3 d3)).cell? ⟨w3.heap.size, 2, none⟩ = some (.slice q3 k3 d3) := by simp [go_sem, m20, m21, m22, f20, f21, f22]
        have hv5 := HS
        have kV : Kp w ((((w5).setCell ⟨w3.heap.size, 0, none⟩ (.bool s3)).setCell ⟨w3.heap.size, 1, none⟩ (.slice p3 l3 c3)).setCell ⟨w3.heap.size, 2, none⟩ (.slice q3 k3 d3)) := ((((Kp.trans kW KW2)).setCell (by have h1 := Below.size kW; have h2 := Below.size KW0; first | omega | (simp <;> omega)) _).setCell (by have h1 := Below.size kW; have h2 := Below.size KW0; first | omega | (simp <;> omega)) _).setCell (by have h1 := Below.size kW; have h2 := Below.size KW0; first | omega | (simp <;> omega)) _
        have KZ9 : Kp W ((((w5).setCell ⟨w3.heap.size, 0, none⟩ (.bool s3)).setCell ⟨w3.heap.size, 1, none⟩ (.slice p3 l3 c3)).setCell ⟨w3.heap.size, 2, none⟩ (.slice q3 k3 d3)) := (((KW2).setCell (by have h2 := Below.size KW0; first | omega | (simp <;> omega)) _).setCell (by have h2 := Below.size KW0; first | omega | (simp <;> omega)) _).setCell (by have h2 := Below.size KW0; first | omega | (simp <;> omega)) _
        generalize ((((w5).setCell ⟨w3.heap.size, 0, none⟩ (.bool s3)).setCell ⟨w3.heap.size, 1, none⟩ (.slice p3 l3 c3)).setCell ⟨w3.heap.size, 2, none⟩ (.slice q3 k3 d3)) = W5 at x0 x1 x2 hv5 kV KZ9 ⊢
        generalize w3.heap.size = B5 at x0 x1 x2 ⊢
      | skip
        have x0 : ((((w5).setCell ⟨w4.heap.size, 0, none⟩ (.bool s3)).setCell ⟨w4.heap.size, 1, none⟩ (.slice p3 l3 c3)).setCell ⟨w4.heap.size, 2, none⟩ (.slice q3 k3 d3)).cell? ⟨w4.heap.size, 0, none⟩ = some (.bool s3) := by simp [go_sem, m10, m11, m12, f10, f11, f12]
        have x1 : ((((w5).setCell ⟨w4.heap.size, 0, none⟩ (.bool s3)).setCell ⟨w4.heap.size, 1, none⟩ (.slice p3 l3 c3)).setCell ⟨w4.heap.size, 2, none⟩ (.slice q3 k3 d3)).cell? ⟨w4.heap.size, 1, none⟩ = some (.slice p3 l3 c3) := by simp [go_sem, m10, m11, m12, f10, f11, f12]
        have x2 : ((((w5).setCell ⟨w4.heap.size, 0, none⟩ (.bool s3)).setCell ⟨w4.heap.size, 1, none⟩ (.slice p3 l3 c3)).setCell ⟨w4.heap.size, 2, none⟩ (.slice q3 k3 d3)).cell? ⟨w4.heap.size, 2, none⟩ = some (.slice q3 k3 d3) := by simp [go_sem, m10, m11, m12, f10, f11, f12]
        have hv5 := HS
        have kV : Kp w ((((w5).setCell ⟨w4.heap.size, 0, none⟩ (.bool s3)).setCell ⟨w4.heap.size, 1, none⟩ (.slice p3 l3 c3)).setCell ⟨w4.heap.size, 2, none⟩ (.slice q3 k3 d3)) := ((((Kp.trans kW KW2)).setCell (by have h1 := Below.size kW; have h2 := Below.size KW1; first | omega | (simp <;> omega)) _).setCell (by have h1 := Below.size kW; have h2 := Below.size KW1; first | omega | (simp <;> omega)) _).setCell (by have h1 := Below.size kW; have h2 := Below.size KW1; first | omega | (simp <;> omega)) _
        have KZ9 : Kp W ((((w5).setCell ⟨w4.heap.size, 0, none⟩ (.bool s3)).setCell ⟨w4.heap.size, 1, none⟩ (.slice p3 l3 c3)).setCell ⟨w4.heap.size, 2, none⟩ (.slice q3 k3 d3)) := (((KW2).setCell (by have h2 := Below.size KW1; first | omega | (simp <;> omega)) _).setCell (by have h2 := Below.size KW1; first | omega | (simp <;> omega)) _).setCell (by have h2 := Below.size KW1; first | omega | (simp <;> omega)) _
        generalize ((((w5).setCell ⟨w4.heap.size, 0, none⟩ (.bool s3)).setCell ⟨w4.heap.size, 1, none⟩ (.slice p3 l3 c3)).setCell ⟨w4.heap.size, 2, none⟩ (.slice q3 k3 d3)) = W5 at x0 x1 x2 hv5 kV KZ9 ⊢
        generalize w4.heap.size = B5 at x0 x1 x2 ⊢
      | skip
        have x0 : (w5.alloc (.cells #[.bool s3, .slice p3 l3 c3, .slice q3 k3 d3] 46)).cell? ⟨w5.heap.size, 0, none⟩ = some (.bool s3) := by simp [go_sem]
        have x1 : (w5.alloc (.cells #[.bool s3, .slice p3 l3 c3, .slice q3 k3 d3] 46)).cell? ⟨w5.heap.size, 1, none⟩ = some (.slice p3 l3 c3) := by simp [go_sem]
        have x2 : (w5.alloc (.cells #[.bool s3, .slice p3 l3 c3, .slice q3 k3 d3] 46)).cell? ⟨w5.heap.size, 2, none⟩ = some (.slice q3 k3 d3) := by simp [go_sem]
        have hv5 := hq.kp ((Kp.refl w5).alloc (.cells #[.bool s3, .slice p3 l3 c3, .slice q3 k3 d3] 46))
        have kV : Kp w (w5.alloc (.cells #[.bool s3, .slice p3 l3 c3, .slice q3 k3 d3] 46)) := Kp.trans (Kp.trans kW KW2) ((Kp.refl w5).alloc _)
        have KZ9 : Kp W (w5.alloc (.cells #[.bool s3, .slice p3 l3 c3, .slice q3 k3 d3] 46)) := Kp.trans KW2 ((Kp.refl w5).alloc _)
        generalize ((w5.alloc (.cells #[.bool s3, .slice p3 l3 c3, .slice q3 k3 d3] 46))) = W5 at x0 x1 x2 hv5 kV KZ9 ⊢
        generalize w5.heap.size = B5 at x0 x1 x2 ⊢)
    all_goals (
      go_meet
      exact ⟨B5, s3, p3, l3, c3, q3, k3, d3, rfl, ⟨x0, x1, x2⟩, hv5.mono (Nat.zero_le _), KZ9⟩)
  case rest =>
  obtain ⟨g8, s8, p8, l8, c8, q8, k8, d8, rfl, ⟨x80, x81, x82⟩, hv8, gc⟩ := hcut
  replace x70 := kkeep gc x70
  replace x71 := kkeep gc x71
  replace x72 := kkeep gc x72
  replace hv7 := hv7.kp gc
  replace sW := H6.keep sW gc
  replace qA := Fq.H2.keep qA gc
  replace qB := Fq.H2.keep qB gc
  replace kW := Kp.trans kW gc
  clear gc a0 a1 a2 a3 b0 b1 b2 b3 z0 z1 z2 z3
  generalize wc = W at sW qA qB kW x70 x71 x72 hv7 x80 x81 x82 hv8 ⊢
  obtain ⟨a0, a1, a2, a3⟩ := id qA
  obtain ⟨b0, b1, b2, b3⟩ := id qB
  obtain ⟨_, _, z0, z1, z2, z3⟩ := id sW
  have n7 : w.heap.size + 2 ≠ g7 := fun h => by rw [← h, z0] at x70; cases x70
  have n8 : w.heap.size + 2 ≠ g8 := fun h => by rw [← h, z0] at x80; cases x80
  go_wp2_with (first | (go_at_call 26; refine (vcmp_ 0 0 V8 V7 s8 p8 l8 c8 q8 k8 d8 s7 p7 l7 c7 q7 k7 d7 _ hv8 hv7).mono ?_; rintro e wv ⟨rfl, gv⟩; replace kW := Kp.trans kW gv; replace sW := H6.keep sW gv; replace x70 := kkeep gv x70; replace x71 := kkeep gv x71; replace x72 := kkeep gv x72; replace x80 := kkeep gv x80; replace x81 := kkeep gv x81; replace x82 := kkeep gv x82; replace hv7 := hv7.kp gv; replace hv8 := hv8.kp gv; clear gv qA qB a0 a1 a2 a3 b0 b1 b2 b3 z0 z1 z2 z3; obtain ⟨_, _, z0, z1, z2, z3⟩ := id sW) | (go_at_call 23; refine (hN _).mono ?_; rintro e wy ⟨rfl, gy⟩; replace kW := Kp.trans kW gy; replace sW := H6.keep sW gy; clear z0 z1 z2 z3; obtain ⟨_, _, z0, z1, z2, z3⟩ := id sW))
  exact bodyPost_ret (v := .agg #[.int .u64 18442240474082181120, .int .u64 9218868437227405312]) (by simp [results, Tryz.results7, go_sem, z0, z1]) rfl ⟨rfl, (kW.setCell (by simp <;> omega) _).setCell (by simp <;> omega) _⟩
set_option maxRecDepth 20000 in
set_option maxHeartbeats 4000000 in
theorem rcanG_ (X1 X2 Y1 Y2 A1 A2 B1 B2 : Int) (hx : ∀ w : World, Calls Tryz.prog 20 #[.agg #[.int .u64 X1, .int .u64 X2]] w fun e w' => e = .returned (.agg #[.int .u64 A1, .int .u64 A2]) ∧ Kp w w') (hy : ∀ w : World, Calls Tryz.prog 20 #[.agg #[.int .u64 Y1, .int .u64 Y2]] w fun e w' => e = .returned (.agg #[.int .u64 B1, .int .u64 B2]) ∧ Kp w w') (hN : ∀ w : World, Calls Tryz.prog 23 #[] w fun e w' => e = .returned (.agg #[.int .u64 18442240474082181120, .int .u64 9218868437227405312]) ∧ Kp w w') (tA : (A1 == 9218868437227405312) = false) (hn1 : ∀ w : World, Calls Tryz.prog 22 #[.agg #[.int .u64 A1, .int .u64 A2]] w fun e w' => e = .returned (.bool true) ∧ Kp w w') (hn2 : ∀ w : World, Calls Tryz.prog 22 #[.agg #[.int .u64 B1, .int .u64 B2]] w fun e w' => e = .returned (.bool true) ∧ Kp w w') (N1 N2 N3 N4 : Bool) (M1 M2 M3 M4 : Nat) (V7 V8 : Int) (e7 : Iv N1 M1 - Iv N3 M3 = V7) (e8 : Iv N2 M2 - Iv N4 M4 = V8) (hf1 : ∀ w : World, Calls Tryz.prog 25 #[.int .u64 A1] w fun e w' => ∃ (s : Bool) (p : Option Addr) (l c : Nat) (q : Option Addr) (k d : Nat), e = .returned (.agg #[.bool s, .slice p l c, .slice q k d]) ∧ RP w.heap.size w' s p l c q k d N1 M1 ∧ Kp w w') (hf2 : ∀ w : World, Calls Tryz.prog 25 #[.int .u64 A2] w fun e w' => ∃ (s : Bool) (p : Option Addr) (l c : Nat) (q : Option Addr) (k d : Nat), e = .returned (.agg #[.bool s, .slice p l c, .slice q k d]) ∧ RP w.heap.size w' s p l c q k d N2 M2 ∧ Kp w w') (hf3 : ∀ w : World, Calls Tryz.prog 25 #[.int .u64 B1] w fun e w' => ∃ (s : Bool) (p : Option Addr) (l c : Nat) (q : Option Addr) (k d : Nat), e = .returned (.agg #[.bool s, .slice p l c, .slice q k d]) ∧ RP w.heap.size w' s p l c q k d N3 M3 ∧ Kp w w') (hf4 : ∀ w : World, Calls Tryz.prog 25 #[.int .u64 B2] w fun e w' => ∃ (s : Bool) (p : Option Addr) (l c : Nat) (q : Option Addr) (k d : Nat), e = .returned (.agg #[.bool s, .slice p l c, .slice q k d]) ∧ RP w.heap.size w' s p l c q k d N4 M4 ∧ Kp w w') (tc : ¬ cmI V8 V7 < 0) (w : World) : Calls Tryz.prog 7 #[.agg #[.int .u64 X1, .int .u64 X2], .agg #[.int .u64 Y1, .int .u64 Y2]] w fun e w' => e = .returned (.agg #[.int .u64 ((sumW (-1) V7 : Nat) : Int), .int .u64 ((sumW 1 V8 : Nat) : Int)]) ∧ Kp w w' := by
  go_enter Tryz.func7, Tryz.ntmps7
  go_wp2_with (first | (go_at_call_of 20 (Value.agg #[.int .u64 X1, .int .u64 X2]); refine (hx _).mono ?_; rintro e w1 ⟨rfl, g1⟩; have k1 : Kp w w1 := Kp.trans ((((Kp.refl w).alloc _).alloc _).alloc _) g1; have s1 := H6.keep (H6.new w (.int .u64 X1) (.int .u64 X2) (.int .u64 Y1) (.int .u64 Y2) (.int .u64 0) (.int .u64 0) 24 24 24) g1; have y00 := fun o => (H6.keep s1 ((Kp.refl w1).alloc o)).2.1.1; have y01 := fun o => (H6.keep s1 ((Kp.refl w1).alloc o)).2.1.2.1) | (go_at_call_of 20 (Value.agg #[.int .u64 Y1, .int .u64 Y2]); refine (hy _).mono ?_; rintro e w2 ⟨rfl, g2⟩; have k2 := Kp.trans (k1.alloc _) g2; have s2 := H6.keep (H6.keep s1 ((Kp.refl w1).alloc _)) g2; have qa := Fq.H2.keep (Fq.H2.new w1 (.int .u64 A1) (.int .u64 A2) 24) g2))
  have sW := H6.keep s2 ((Kp.refl w2).alloc (.cells #[.int .u64 B1, .int .u64 B2] 24))
  have qA := Fq.H2.keep qa ((Kp.refl w2).alloc (.cells #[.int .u64 B1, .int .u64 B2] 24))
  have qB := Fq.H2.new w2 (.int .u64 B1) (.int .u64 B2) 24
  have kW : Kp w (w2.alloc (.cells #[.int .u64 B1, .int .u64 B2] 24)) := k2.alloc _
  have lA : w.heap.size + 2 < w1.heap.size := cell_lt s1.2.2.1
  have lB : w.heap.size + 2 < w2.heap.size := cell_lt s2.2.2.1
  generalize w2.alloc (.cells #[.int .u64 B1, .int .u64 B2] 24) = W at sW qA qB kW ⊢
  generalize w1.heap.size = bA at qA lA ⊢
  generalize w2.heap.size = bB at qB lB ⊢
  clear y00 y01 qa s1 s2 k1 k2 g1 g2
  refine Fq.wp_region_grow (by kernel_rfl) (by kernel_rfl) (fun ι _ G hG hall => ?_)
  have cc0 : ∀ n, (G n).cell? ⟨bA, 0, none⟩ = some (.int .u64 A1) := fun n => Fq.gkeep (hG n) qA.1
  have cc1 : ∀ n, (G n).cell? ⟨bA, 1, none⟩ = some (.int .u64 A2) := fun n => Fq.gkeep (hG n) qA.2.1
  have cc2 : ∀ n, (G n).cell? ⟨bB, 0, none⟩ = some (.int .u64 B1) := fun n => Fq.gkeep (hG n) qB.1
  have cc3 : ∀ n, (G n).cell? ⟨bB, 1, none⟩ = some (.int .u64 B2) := fun n => Fq.gkeep (hG n) qB.2.1
  repeat (go_big_quiet_step (first | (go_at_call 21; exact (rempty9_ _).mono (fun e w' h => ⟨h.1, hall _ (Fq.gtrans (hG _) h.2)⟩))))
  refine wpQuiet_nil ?_
  rintro _ ⟨nq, rfl⟩
  have gq : Kp W (G nq) := hG nq
  clear cc0 cc1 cc2 cc3 hall hG
  replace sW := H6.keep sW gq
  replace qA := Fq.H2.keep qA gq
  replace qB := Fq.H2.keep qB gq
  replace kW := Kp.trans kW gq
  clear gq
  generalize G nq = W at sW qA qB kW ⊢
  obtain ⟨a0, a1, a2, a3⟩ := id qA
  obtain ⟨b0, b1, b2, b3⟩ := id qB
  obtain ⟨_, _, z0, z1, z2, z3⟩ := id sW
  go_wp2_with (first | (go_at_call_of 22 (Value.agg #[.int .u64 A1, .int .u64 A2]); refine (hn1 _).mono ?_; rintro e wv ⟨rfl, gv⟩; replace kW := Kp.trans kW gv; replace sW := H6.keep sW gv; replace qA := Fq.H2.keep qA gv; replace qB := Fq.H2.keep qB gv; clear gv a0 a1 a2 a3 b0 b1 b2 b3 z0 z1 z2 z3; obtain ⟨a0, a1, a2, a3⟩ := id qA; obtain ⟨b0, b1, b2, b3⟩ := id qB; obtain ⟨_, _, z0, z1, z2, z3⟩ := id sW) | (go_at_call_of 22 (Value.agg #[.int .u64 B1, .int .u64 B2]); refine (hn2 _).mono ?_; rintro e wv ⟨rfl, gv⟩; replace kW := Kp.trans kW gv; replace sW := H6.keep sW gv; replace qA := Fq.H2.keep qA gv; replace qB := Fq.H2.keep qB gv; clear gv a0 a1 a2 a3 b0 b1 b2 b3 z0 z1 z2 z3; obtain ⟨a0, a1, a2, a3⟩ := id qA; obtain ⟨b0, b1, b2, b3⟩ := id qB; obtain ⟨_, _, z0, z1, z2, z3⟩ := id sW))
  clear a0 a1 a2 a3 b0 b1 b2 b3 z0 z1 z2 z3
  generalize hWW : wv = W at sW qA qB kW ⊢
  clear hWW
  obtain ⟨a0, a1, a2, a3⟩ := id qA
  obtain ⟨b0, b1, b2, b3⟩ := id qB
  obtain ⟨_, _, z0, z1, z2, z3⟩ := id sW
  go_cut [7] (fun s7 wx => ∃ (g : Nat) (s3 : Bool) (p3 : Option Addr) (l3 c3 : Nat) (q3 : Option Addr) (k3 d3 : Nat), s7 = .pointer (some ⟨g, 0, none⟩) ∧ (wx.cell? ⟨g, 0, none⟩ = some (.bool s3) ∧ wx.cell? ⟨g, 1, none⟩ = some (.slice p3 l3 c3) ∧ wx.cell? ⟨g, 2, none⟩ = some (.slice q3 k3 d3)) ∧ VP 0 wx s3 p3 l3 c3 q3 k3 d3 V7 ∧ Kp W wx)
  case first =>
    have y0 : W.cell? ⟨bA, 0, none⟩ = some (.int .u64 A1) := a0
    have y1 : W.cell? ⟨bB, 0, none⟩ = some (.int .u64 B1) := b0
    have yd0 : W.drew.cell? ⟨bA, 0, none⟩ = some (.int .u64 A1) := a0
    have yd1 : W.drew.cell? ⟨bB, 0, none⟩ = some (.int .u64 B1) := b0
    go_region_held3 (fun w' => w'.cell? ⟨bA, 0, none⟩ = some (.int .u64 A1) ∧ w'.cell? ⟨bB, 0, none⟩ = some (.int .u64 B1)) (first | (with_reducible exact ⟨y0, y1⟩) | (with_reducible exact ⟨yd0, yd1⟩) | (with_reducible exact ⟨c0W0, c0W1⟩) | (with_reducible exact ⟨c1W0, c1W1⟩) | (with_reducible exact ⟨c2W0, c2W1⟩) | (refine ⟨kkeep (W := W) ?_ y0, kkeep (W := W) ?_ y1⟩ <;> ((repeat (first | with_reducible exact Kp.refl _ | with_reducible apply Kp.drew | with_reducible apply Kp.alloc)); done)) | (refine ⟨kkeep (W := w3) ?_ c0W0, kkeep (W := w3) ?_ c0W1⟩ <;> ((repeat (first | with_reducible exact Kp.refl _ | with_reducible apply Kp.drew | with_reducible apply Kp.alloc)); done)) | (refine ⟨kkeep (W := w4) ?_ c1W0, kkeep (W := w4) ?_ c1W1⟩ <;> ((repeat (first | with_reducible exact Kp.refl _ | with_reducible apply Kp.drew | with_reducible apply Kp.alloc)); done)) | (refine ⟨kkeep (W := w5) ?_ c2W0, kkeep (W := w5) ?_ c2W1⟩ <;> ((repeat (first | with_reducible exact Kp.refl _ | with_reducible apply Kp.drew | with_reducible apply Kp.alloc)); done)) | (refine ⟨?_, ?_⟩ <;> (refine (World.cell?_setCell_far _ _ _ _ ?_).trans ((World.cell?_setCell_far _ _ _ _ ?_).trans ((World.cell?_setCell_far _ _ _ _ ?_).trans ?_)) <;> first | assumption | (have h90 := cell_lt y0; have h91 := cell_lt y1; have h2 := Below.size KW0; have h3 := Below.size KW1; first | omega | (simp <;> omega))))) (first | (go_at_call_of 25 (Value.int .u64 A1); refine (hf1 _).mono ?_; rintro e w3 ⟨s, p, l, c, q, k, d, rfl, hp, g3⟩; have KW0 : Kp W w3 := Kp.trans (by (repeat (first | exact Kp.refl _ | apply Kp.drew | apply Kp.alloc)); done) g3; have c0W0 := kkeep KW0 y0; have c0W1 := kkeep KW0 y1) | (go_at_call_of 25 (Value.int .u64 B1); refine (hf3 _).mono ?_; rintro e w4 ⟨s2, p2, l2, c2, q2, k2, d2, rfl, hp2, g4⟩; have KW1 : Kp W w4 := Kp.trans (Kp.trans KW0 (by (repeat (first | exact Kp.refl _ | apply Kp.drew | apply Kp.alloc)); done)) g4; have c1W0 := kkeep KW1 y0; have c1W1 := kkeep KW1 y1) | (go_at_call 24; refine (vsub_ N1 N3 M1 M3 s p l c q k d s2 p2 l2 c2 q2 k2 d2 _ _ _ ((hp.kp (Kp.trans (by (repeat (first | exact Kp.refl _ | apply Kp.drew | apply Kp.alloc)); done) g4)).kp (by (repeat (first | exact Kp.refl _ | apply Kp.drew | apply Kp.alloc)); done)) (hp2.kp (by (repeat (first | exact Kp.refl _ | apply Kp.drew | apply Kp.alloc)); done))).mono ?_; rintro e w5 ⟨s3, p3, l3, c3, q3, k3, d3, rfl, hq, g5⟩; rw [e7] at hq; have KW2 : Kp W w5 := Kp.trans (Kp.trans KW1 (by (repeat (first | exact Kp.refl _ | apply Kp.drew | apply Kp.alloc)); done)) g5; have c2W0 := kkeep KW2 y0; have c2W1 := kkeep KW2 y1; first | (have m00 : (W.drew.alloc (.cells #[.bool false, .slice none 0 0, .slice none 0 0] 46)).cell? ⟨W.heap.size, 0, none⟩ = some (.bool false) := (by simp [go_sem]); have f00 : (W.drew.alloc (.cells #[.bool false, .slice none 0 0, .slice none 0 0] 46)).frozen? ⟨W.heap.size, 0, none⟩ = false := (by simp [go_sem]); have m01 : (W.drew.alloc (.cells #[.bool false, .slice none 0 0, .slice none 0 0] 46)).cell? ⟨W.heap.size, 1, none⟩ = some (.slice none 0 0) := (by simp [go_sem]); have f01 : (W.drew.alloc (.cells #[.bool false, .slice none 0 0, .slice none 0 0] 46)).frozen? ⟨W.heap.size, 1, none⟩ = false := (by simp [go_sem]); have m02 : (W.drew.alloc (.cells #[.bool false, .slice none 0 0, .slice none 0 0] 46)).cell? ⟨W.heap.size, 2, none⟩ = some (.slice none 0 0) := (by simp [go_sem]); have f02 : (W.drew.alloc (.cells #[.bool false, .slice none 0 0, .slice none 0 0] 46)).frozen? ⟨W.heap.size, 2, none⟩ = false := (by simp [go_sem]); have m10 := kkeep g3 m00; have f10 : w3.frozen? ⟨W.heap.size, 0, none⟩ = false := (kfro g3 (cell_lt m00)).trans f00; have m11 := kkeep g3 m01; have f11 : w3.frozen? ⟨W.heap.size, 1, none⟩ = false := (kfro g3 (cell_lt m01)).trans f01; have m12 := kkeep g3 m02; have f12 : w3.frozen? ⟨W.heap.size, 2, none⟩ = false := (kfro g3 (cell_lt m02)).trans f02; have m20 := kkeep g4 m10; have f20 : w4.frozen? ⟨W.heap.size, 0, none⟩ = false := (kfro g4 (cell_lt m10)).trans f10; have m21 := kkeep g4 m11; have f21 : w4.frozen? ⟨W.heap.size, 1, none⟩ = false := (kfro g4 (cell_lt m11)).trans f11; have m22 := kkeep g4 m12; have f22 : w4.frozen? ⟨W.heap.size, 2, none⟩ = false := (kfro g4 (cell_lt m12)).trans f12; have m30 := kkeep g5 m20; have f30 : w5.frozen? ⟨W.heap.size, 0, none⟩ = false := (kfro g5 (cell_lt m20)).trans f20; have m31 := kkeep g5 m21; have f31 : w5.frozen? ⟨W.heap.size, 1, none⟩ = false := (kfro g5 (cell_lt m21)).trans f21; have m32 := kkeep g5 m22; have f32 : w5.frozen? ⟨W.heap.size, 2, none⟩ = false := (kfro g5 (cell_lt m22)).trans f22; have HS := (((hq.set (x := ⟨W.heap.size, 0, none⟩) (cell_lt m20) (.bool s3)).set (x := ⟨W.heap.size, 1, none⟩) (cell_lt m20) (.slice p3 l3 c3)).set (x := ⟨W.heap.size, 2, none⟩) (cell_lt m20) (.slice q3 k3 d3))) | (have m00 : (w3.alloc (.cells #[.bool false, .slice none 0 0, .slice none 0 0] 46)).cell? ⟨w3.heap.size, 0, none⟩ = some (.bool false) := (by simp [go_sem]); have f00 : (w3.alloc (.cells #[.bool false, .slice none 0 0, .slice none 0 0] 46)).frozen? ⟨w3.heap.size, 0, none⟩ = false := (by simp [go_sem]); have m01 : (w3.alloc (.cells #[.bool false, .slice none 0 0, .slice none 0 0] 46)).cell? ⟨w3.heap.size, 1, none⟩ = some (.slice none 0 0) := (by simp [go_sem]); have f01 : (w3.alloc (.cells #[.bool false, .slice none 0 0, .slice none 0 0] 46)).frozen? ⟨w3.heap.size, 1, none⟩ = false := (by simp [go_sem]); have m02 : (w3.alloc (.cells #[.bool false, .slice none 0 0, .slice none 0 0] 46)).cell? ⟨w3.heap.size, 2, none⟩ = some (.slice none 0 0) := (by simp [go_sem]); have f02 : (w3.alloc (.cells #[.bool false, .slice none 0 0, .slice none 0 0] 46)).frozen? ⟨w3.heap.size, 2, none⟩ = false := (by simp [go_sem]); have m10 := kkeep g4 m00; have f10 : w4.frozen? ⟨w3.heap.size, 0, none⟩ = false := (kfro g4 (cell_lt m00)).trans f00; have m11 := kkeep g4 m01; have f11 : w4.frozen? ⟨w3.heap.size, 1, none⟩ = false := (kfro g4 (cell_lt m01)).trans f01; have m12 := kkeep g4 m02; have f12 : w4.frozen? ⟨w3.heap.size, 2, none⟩ = false := (kfro g4 (cell_lt m02)).trans f02; have m20 := kkeep g5 m10; have f20 : w5.frozen? ⟨w3.heap.size, 0, none⟩ = false := (kfro g5 (cell_lt m10)).trans f10; have m21 := kkeep g5 m11; have f21 : w5.frozen? ⟨w3.heap.size, 1, none⟩ = false := (kfro g5 (cell_lt m11)).trans f11; have m22 := kkeep g5 m12; have f22 : w5.frozen? ⟨w3.heap.size, 2, none⟩ = false := (kfro g5 (cell_lt m12)).trans f12; have HS := (((hq.set (x := ⟨w3.heap.size, 0, none⟩) (cell_lt m10) (.bool s3)).set (x := ⟨w3.heap.size, 1, none⟩) (cell_lt m10) (.slice p3 l3 c3)).set (x := ⟨w3.heap.size, 2, none⟩) (cell_lt m10) (.slice q3 k3 d3))) | (have m00 : (w4.alloc (.cells #[.bool false, .slice none 0 0, .slice none 0 0] 46)).cell? ⟨w4.heap.size, 0, none⟩ = some (.bool false) := (by simp [go_sem]); have f00 : (w4.alloc (.cells #[.bool false, .slice none 0 0, .slice none 0 0] 46)).frozen? ⟨w4.heap.size, 0, none⟩ = false := (by simp [go_sem]); have m01 : (w4.alloc (.cells #[.bool false, .slice none 0 0, .slice none 0 0] 46)).cell? ⟨w4.heap.size, 1, none⟩ = some (.slice none 0 0) := (by simp [go_sem]); have f01 : (w4.alloc (.cells #[.bool false, .slice none 0 0, .slice none 0 0] 46)).frozen? ⟨w4.heap.size, 1, none⟩ = false := (by simp [go_sem]); have m02 : (w4.alloc (.cells #[.bool false, .slice none 0 0, .slice none 0 0] 46)).cell? ⟨w4.heap.size, 2, none⟩ = some (.slice none 0 0) := (by simp [go_sem]); have f02 : (w4.alloc (.cells #[.bool false, .slice none 0 0, .slice none 0 0] 46)).frozen? ⟨w4.heap.size, 2, none⟩ = false := (by simp [go_sem]); have m10 := kkeep g5 m00; have f10 : w5.frozen? ⟨w4.heap.size, 0, none⟩ = false := (kfro g5 (cell_lt m00)).trans f00; have m11 := kkeep g5 m01; have f11 : w5.frozen? ⟨w4.heap.size, 1, none⟩ = false := (kfro g5 (cell_lt m01)).trans f01; have m12 := kkeep g5 m02; have f12 : w5.frozen? ⟨w4.heap.size, 2, none⟩ = false := (kfro g5 (cell_lt m02)).trans f02; have HS := (((hq.set (x := ⟨w4.heap.size, 0, none⟩) (cell_lt m00) (.bool s3)).set (x := ⟨w4.heap.size, 1, none⟩) (cell_lt m00) (.slice p3 l3 c3)).set (x := ⟨w4.heap.size, 2, none⟩) (cell_lt m00) (.slice q3 k3 d3))) | skip))
    all_goals go_wp2_with fail
    all_goals (first
      | skip
        have x0 : ((((w5).setCell ⟨W.heap.size, 0, none⟩ (.bool s3)).setCell ⟨W.heap.size, 1, none⟩ (.slice p3 l3 c3)).setCell ⟨W.heap.size, 2, none⟩ (.slice q3 k3 d3)).cell? ⟨W.heap.size, 0, none⟩ = some (.bool s3) := by simp [go_sem, m30, m31, m32, f30, f31, f32]
        have x1 : ((((w5).setCell ⟨W.heap.size, 0, none⟩ (.bool s3)).setCell ⟨W.heap.size, 1, none⟩ (.slice p3 l3 c3)).setCell ⟨W.heap.size, 2, none⟩ (.slice q3 k3 d3)).cell? ⟨W.heap.size, 1, none⟩ = some (.slice p3 l3 c3) := by simp [go_sem, m30, m31, m32, f30, f31, f32]
        have x2 : ((((w5).setCell ⟨W.heap.size, 0, none⟩ (.bool s3)).setCell ⟨W.heap.size, 1, none⟩ (.slice p3 l3 c3)).setCell ⟨W.heap.size, 2, none⟩ (.slice q3 k3 d3)).cell? ⟨W.heap.size, 2, none⟩ = some (.slice q3 k3 d3) := by simp [go_sem, m30, m31, m32, f30, f31, f32]
        have hv5 := HS
        have kV : Kp w ((((w5).setCell ⟨W.heap.size, 0, none⟩ (.bool s3)).setCell ⟨W.heap.size, 1, none⟩ (.slice p3 l3 c3)).setCell ⟨W.heap.size, 2, none⟩ (.slice q3 k3 d3)) := ((((Kp.trans kW KW2)).setCell (by exact Below.size kW) _).setCell (by exact Below.size kW) _).setCell (by exact Below.size kW) _
        have KZ9 : Kp W ((((w5).setCell ⟨W.heap.size, 0, none⟩ (.bool s3)).setCell ⟨W.heap.size, 1, none⟩ (.slice p3 l3 c3)).setCell ⟨W.heap.size, 2, none⟩ (.slice q3 k3 d3)) := (((KW2).setCell (by first | omega | (simp <;> omega)) _).setCell (by first | omega | (simp <;> omega)) _).setCell (by first | omega | (simp <;> omega)) _
        generalize ((((w5).setCell ⟨W.heap.size, 0, none⟩ (.bool s3)).setCell ⟨W.heap.size, 1, none⟩ (.slice p3 l3 c3)).setCell ⟨W.heap.size, 2, none⟩ (.slice q3 k3 d3)) = W5 at x0 x1 x2 hv5 kV KZ9 ⊢
        generalize W.heap.size = B5 at x0 x1 x2 ⊢
      | skip
        have x0 : ((((w5).setCell ⟨w3.heap.size, 0, none⟩ (.bool s3)).setCell ⟨w3.heap.size, 1, none⟩ (.slice p3 l3 c3)).setCell ⟨w3.heap.size, 2, none⟩ (.slice q3 k3 d3)).cell? ⟨w3.heap.size, 0, none⟩ = some (.bool s3) := by simp [go_sem, m20, m21, m22, f20, f21, f22]
        have x1 : ((((w5).setCell ⟨w3.heap.size, 0, none⟩ (.bool s3)).setCell ⟨w3.heap.size, 1, none⟩ (.slice p3 l3 c3)).setCell ⟨w3.heap.size, 2, none⟩ (.slice q3 k3 d3)).cell? ⟨w3.heap.size, 1, none⟩ = some (.slice p3 l3 c3) := by simp [go_sem, m20, m21, m22, f20, f21, f22]
        have x2 : ((((w5).setCell ⟨w3.heap.size, 0, none⟩ (.bool s3)).setCell ⟨w3.heap.size, 1, none⟩ (.slice p3 l3 c3)).setCell ⟨w3.heap.size, 2, none⟩ (.slice q3 k3 d3)).cell? ⟨w3.heap.size, 2, none⟩ = some (.slice q3 k3 d3) := by simp [go_sem, m20, m21, m22, f20, f21, f22]
        have hv5 := HS
        have kV : Kp w ((((w5).setCell ⟨w3.heap.size, 0, none⟩ (.bool s3)).setCell ⟨w3.heap.size, 1, none⟩ (.slice p3 l3 c3)).setCell ⟨w3.heap.size, 2, none⟩ (.slice q3 k3 d3)) := ((((Kp.trans kW KW2)).setCell (by have h1 := Below.size kW; have h2 := Below.size KW0; first | omega | (simp <;> omega)) _).setCell (by have h1 := Below.size kW; have h2 := Below.size KW0; first | omega | (simp <;> omega)) _).setCell (by have h1 := Below.size kW; have h2 := Below.size KW0; first | omega | (simp <;> omega)) _
        have KZ9 : Kp W ((((w5).setCell ⟨w3.heap.size, 0, none⟩ (.bool s3)).setCell ⟨w3.heap.size, 1, none⟩ (.slice p3 l3 c3)).setCell ⟨w3.heap.size, 2, none⟩ (.slice q3 k3 d3)) := (((KW2).setCell (by have h2 := Below.size KW0; first | omega | (simp <;> omega)) _).setCell (by have h2 := Below.size KW0; first | omega | (simp <;> omega)) _).setCell (by have h2 := Below.size KW0; first | omega | (simp <;> omega)) _
        generalize ((((w5).setCell ⟨w3.heap.size, 0, none⟩ (.bool s3)).setCell ⟨w3.heap.size, 1, none⟩ (.slice p3 l3 c3)).setCell ⟨w3.heap.size, 2, none⟩ (.slice q3 k3 d3)) = W5 at x0 x1 x2 hv5 kV KZ9 ⊢
        generalize w3.heap.size = B5 at x0 x1 x2 ⊢
      | skip
        have x0 : ((((w5).setCell ⟨w4.heap.size, 0, none⟩ (.bool s3)).setCell ⟨w4.heap.size, 1, none⟩ (.slice p3 l3 c3)).setCell ⟨w4.heap.size, 2, none⟩ (.slice q3 k3 d3)).cell? ⟨w4.heap.size, 0, none⟩ = some (.bool s3) := by simp [go_sem, m10, m11, m12, f10, f11, f12]
        have x1 : ((((w5).setCell ⟨w4.heap.size, 0, none⟩ (.bool s3)).setCell ⟨w4.heap.size, 1, none⟩ (.slice p3 l3 c3)).setCell ⟨w4.heap.size, 2, none⟩ (.slice q3 k3 d3)).cell? ⟨w4.heap.size, 1, none⟩ = some (.slice p3 l3 c3) := by simp [go_sem, m10, m11, m12, f10, f11, f12]
        have x2 : ((((w5).setCell ⟨w4.heap.size, 0, none⟩ (.bool s3)).setCell ⟨w4.heap.size, 1, none⟩ (.slice p3 l3 c3)).setCell ⟨w4.heap.size, 2, none⟩ (.slice q3 k3 d3)).cell? ⟨w4.heap.size, 2, none⟩ = some (.slice q3 k3 d3) := by simp [go_sem, m10, m11, m12, f10, f11, f12]
        have hv5 := HS
        have kV : Kp w ((((w5).setCell ⟨w4.heap.size, 0, none⟩ (.bool s3)).setCell ⟨w4.heap.size, 1, none⟩ (.slice p3 l3 c3)).setCell ⟨w4.heap.size, 2, none⟩ (.slice q3 k3 d3)) := ((((Kp.trans kW KW2)).setCell (by have h1 := Below.size kW; have h2 := Below.size KW1; first | omega | (simp <;> omega)) _).setCell (by have h1 := Below.size kW; have h2 := Below.size KW1; first | omega | (simp <;> omega)) _).setCell (by have h1 := Below.size kW; have h2 := Below.size KW1; first | omega | (simp <;> omega)) _
        have KZ9 : Kp W ((((w5).setCell ⟨w4.heap.size, 0, none⟩ (.bool s3)).setCell ⟨w4.heap.size, 1, none⟩ (.slice p3 l3 c3)).setCell ⟨w4.heap.size, 2, none⟩ (.slice q3 k3 d3)) := (((KW2).setCell (by have h2 := Below.size KW1; first | omega | (simp <;> omega)) _).setCell (by have h2 := Below.size KW1; first | omega | (simp <;> omega)) _).setCell (by have h2 := Below.size KW1; first | omega | (simp <;> omega)) _
        generalize ((((w5).setCell ⟨w4.heap.size, 0, none⟩ (.bool s3)).setCell ⟨w4.heap.size, 1, none⟩ (.slice p3 l3 c3)).setCell ⟨w4.heap.size, 2, none⟩ (.slice q3 k3 d3)) = W5 at x0 x1 x2 hv5 kV KZ9 ⊢
        generalize w4.heap.size = B5 at x0 x1 x2 ⊢
      | skip
        have x0 : (w5.alloc (.cells #[.bool s3, .slice p3 l3 c3, .slice q3 k3 d3] 46)).cell? ⟨w5.heap.size, 0, none⟩ = some (.bool s3) := by simp [go_sem]
        have x1 : (w5.alloc (.cells #[.bool s3, .slice p3 l3 c3, .slice q3 k3 d3] 46)).cell? ⟨w5.heap.size, 1, none⟩ = some (.slice p3 l3 c3) := by simp [go_sem]
        have x2 : (w5.alloc (.cells #[.bool s3, .slice p3 l3 c3, .slice q3 k3 d3] 46)).cell? ⟨w5.heap.size, 2, none⟩ = some (.slice q3 k3 d3) := by simp [go_sem]
        have hv5 := hq.kp ((Kp.refl w5).alloc (.cells #[.bool s3, .slice p3 l3 c3, .slice q3 k3 d3] 46))
        have kV : Kp w (w5.alloc (.cells #[.bool s3, .slice p3 l3 c3, .slice q3 k3 d3] 46)) := Kp.trans (Kp.trans kW KW2) ((Kp.refl w5).alloc _)
        have KZ9 : Kp W (w5.alloc (.cells #[.bool s3, .slice p3 l3 c3, .slice q3 k3 d3] 46)) := Kp.trans KW2 ((Kp.refl w5).alloc _)
        generalize ((w5.alloc (.cells #[.bool s3, .slice p3 l3 c3, .slice q3 k3 d3] 46))) = W5 at x0 x1 x2 hv5 kV KZ9 ⊢
        generalize w5.heap.size = B5 at x0 x1 x2 ⊢)
    all_goals (
      go_meet
      exact ⟨B5, s3, p3, l3, c3, q3, k3, d3, rfl, ⟨x0, x1, x2⟩, hv5.mono (Nat.zero_le _), KZ9⟩)
  case rest =>
  obtain ⟨g7, s7, p7, l7, c7, q7, k7, d7, rfl, ⟨x70, x71, x72⟩, hv7, gc⟩ := hcut
  replace sW := H6.keep sW gc
  replace qA := Fq.H2.keep qA gc
  replace qB := Fq.H2.keep qB gc
  replace kW := Kp.trans kW gc
  clear gc a0 a1 a2 a3 b0 b1 b2 b3 z0 z1 z2 z3
  generalize wc = W at sW qA qB kW x70 x71 x72 hv7 ⊢
  obtain ⟨a0, a1, a2, a3⟩ := id qA
  obtain ⟨b0, b1, b2, b3⟩ := id qB
  obtain ⟨_, _, z0, z1, z2, z3⟩ := id sW
  go_wp2
  go_cut [8] (fun s8 wx => ∃ (g : Nat) (s3 : Bool) (p3 : Option Addr) (l3 c3 : Nat) (q3 : Option Addr) (k3 d3 : Nat), s8 = .pointer (some ⟨g, 0, none⟩) ∧ (wx.cell? ⟨g, 0, none⟩ = some (.bool s3) ∧ wx.cell? ⟨g, 1, none⟩ = some (.slice p3 l3 c3) ∧ wx.cell? ⟨g, 2, none⟩ = some (.slice q3 k3 d3)) ∧ VP 0 wx s3 p3 l3 c3 q3 k3 d3 V8 ∧ Kp W wx)
  case first =>
    have y0 : W.cell? ⟨bA, 1, none⟩ = some (.int .u64 A2) := a1
    have y1 : W.cell? ⟨bB, 1, none⟩ = some (.int .u64 B2) := b1
    have yd0 : W.drew.cell? ⟨bA, 1, none⟩ = some (.int .u64 A2) := a1
    have yd1 : W.drew.cell? ⟨bB, 1, none⟩ = some (.int .u64 B2) := b1
    go_region_held3 (fun w' => w'.cell? ⟨bA, 1, none⟩ = some (.int .u64 A2) ∧ w'.cell? ⟨bB, 1, none⟩ = some (.int .u64 B2)) (first | (with_reducible exact ⟨y0, y1⟩) | (with_reducible exact ⟨yd0, yd1⟩) | (with_reducible exact ⟨c0W0, c0W1⟩) | (with_reducible exact ⟨c1W0, c1W1⟩) | (with_reducible exact ⟨c2W0, c2W1⟩) | (refine ⟨kkeep (W := W) ?_ y0, kkeep (W := W) ?_ y1⟩ <;> ((repeat (first | with_reducible exact Kp.refl _ | with_reducible apply Kp.drew | with_reducible apply Kp.alloc)); done)) | (refine ⟨kkeep (W := w3) ?_ c0W0, kkeep (W := w3) ?_ c0W1⟩ <;> ((repeat (first | with_reducible exact Kp.refl _ | with_reducible apply Kp.drew | with_reducible apply Kp.alloc)); done)) | (refine ⟨kkeep (W := w4) ?_ c1W0, kkeep (W := w4) ?_ c1W1⟩ <;> ((repeat (first | with_reducible exact Kp.refl _ | with_reducible apply Kp.drew | with_reducible apply Kp.alloc)); done)) | (refine ⟨kkeep (W := w5) ?_ c2W0, kkeep (W := w5) ?_ c2W1⟩ <;> ((repeat (first | with_reducible exact Kp.refl _ | with_reducible apply Kp.drew | with_reducible apply Kp.alloc)); done)) | (refine ⟨?_, ?_⟩ <;> (refine (World.cell?_setCell_far _ _ _ _ ?_).trans ((World.cell?_setCell_far _ _ _ _ ?_).trans ((World.cell?_setCell_far _ _ _ _ ?_).trans ?_)) <;> first | assumption | (have h90 := cell_lt y0; have h91 := cell_lt y1; have h2 := Below.size KW0; have h3 := Below.size KW1; first | omega | (simp <;> omega))))) (first | (go_at_call_of 25 (Value.int .u64 A2); refine (hf2 _).mono ?_; rintro e w3 ⟨s, p, l, c, q, k, d, rfl, hp, g3⟩; have KW0 : Kp W w3 := Kp.trans (by (repeat (first | exact Kp.refl _ | apply Kp.drew | apply Kp.alloc)); done) g3; have c0W0 := kkeep KW0 y0; have c0W1 := kkeep KW0 y1) | (go_at_call_of 25 (Value.int .u64 B2); refine (hf4 _).mono ?_; rintro e w4 ⟨s2, p2, l2, c2, q2, k2, d2, rfl, hp2, g4⟩; have KW1 : Kp W w4 := Kp.trans (Kp.trans KW0 (by (repeat (first | exact Kp.refl _ | apply Kp.drew | apply Kp.alloc)); done)) g4; have c1W0 := kkeep KW1 y0; have c1W1 := kkeep KW1 y1) | (go_at_call 24; refine (vsub_ N2 N4 M2 M4 s p l c q k d s2 p2 l2 c2 q2 k2 d2 _ _ _ ((hp.kp (Kp.trans (by (repeat (first | exact Kp.refl _ | apply Kp.drew | apply Kp.alloc)); done) g4)).kp (by (repeat (first | exact Kp.refl _ | apply Kp.drew | apply Kp.alloc)); done)) (hp2.kp (by (repeat (first | exact Kp.refl _ | apply Kp.drew | apply Kp.alloc)); done))).mono ?_; rintro e w5 ⟨s3, p3, l3, c3, q3, k3, d3, rfl, hq, g5⟩; rw [e8] at hq; have KW2 : Kp W w5 := Kp.trans (Kp.trans KW1 (by (repeat (first | exact Kp.refl _ | apply Kp.drew | apply Kp.alloc)); done)) g5; have c2W0 := kkeep KW2 y0; have c2W1 := kkeep KW2 y1; first | (have m00 : (W.drew.alloc (.cells #[.bool false, .slice none 0 0, .slice none 0 0] 46)).cell? ⟨W.heap.size, 0, none⟩ = some (.bool false) := (by simp [go_sem]); have f00 : (W.drew.alloc (.cells #[.bool false, .slice none 0 0, .slice none 0 0] 46)).frozen? ⟨W.heap.size, 0, none⟩ = false := (by simp [go_sem]); have m01 : (W.drew.alloc (.cells #[.bool false, .slice none 0 0, .slice none 0 0] 46)).cell? ⟨W.heap.size, 1, none⟩ = some (.slice none 0 0) := (by simp [go_sem]); have f01 : (W.drew.alloc (.cells #[.bool false, .slice none 0 0, .slice none 0 0] 46)).frozen? ⟨W.heap.size, 1, none⟩ = false := (by simp [go_sem]); have m02 : (W.drew.alloc (.cells #[.bool false, .slice none 0 0, .slice none 0 0] 46)).cell? ⟨W.heap.size, 2, none⟩ = some (.slice none 0 0) := (by simp [go_sem]); have f02 : (W.drew.alloc (.cells #[.bool false, .slice none 0 0, .slice none 0 0] 46)).frozen? ⟨W.heap.size, 2, none⟩ = false := (by simp [go_sem]); have m10 := kkeep g3 m00; have f10 : w3.frozen? ⟨W.heap.size, 0, none⟩ = false := (kfro g3 (cell_lt m00)).trans f00; have m11 := kkeep g3 m01; have f11 : w3.frozen? ⟨W.heap.size, 1, none⟩ = false := (kfro g3 (cell_lt m01)).trans f01; have m12 := kkeep g3 m02; have f12 : w3.frozen? ⟨W.heap.size, 2, none⟩ = false := (kfro g3 (cell_lt m02)).trans f02; have m20 := kkeep g4 m10; have f20 : w4.frozen? ⟨W.heap.size, 0, none⟩ = false := (kfro g4 (cell_lt m10)).trans f10; have m21 := kkeep g4 m11; have f21 : w4.frozen? ⟨W.heap.size, 1, none⟩ = false := (kfro g4 (cell_lt m11)).trans f11; have m22 := kkeep g4 m12; have f22 : w4.frozen? ⟨W.heap.size, 2, none⟩ = false := (kfro g4 (cell_lt m12)).trans f12; have m30 := kkeep g5 m20; have f30 : w5.frozen? ⟨W.heap.size, 0, none⟩ = false := (kfro g5 (cell_lt m20)).trans f20; have m31 := kkeep g5 m21; have f31 : w5.frozen? ⟨W.heap.size, 1, none⟩ = false := (kfro g5 (cell_lt m21)).trans f21; have m32 := kkeep g5 m22; have f32 : w5.frozen? ⟨W.heap.size, 2, none⟩ = false := (kfro g5 (cell_lt m22)).trans f22; have HS := (((hq.set (x := ⟨W.heap.size, 0, none⟩) (cell_lt m20) (.bool s3)).set (x := ⟨W.heap.size, 1, none⟩) (cell_lt m20) (.slice p3 l3 c3)).set (x := ⟨W.heap.size, 2, none⟩) (cell_lt m20) (.slice q3 k3 d3))) | (have m00 : (w3.alloc (.cells #[.bool false, .slice none 0 0, .slice none 0 0] 46)).cell? ⟨w3.heap.size, 0, none⟩ = some (.bool false) := (by simp [go_sem]); have f00 : (w3.alloc (.cells #[.bool false, .slice none 0 0, .slice none 0 0] 46)).frozen? ⟨w3.heap.size, 0, none⟩ = false := (by simp [go_sem]); have m01 : (w3.alloc (.cells #[.bool false, .slice none 0 0, .slice none 0 0] 46)).cell? ⟨w3.heap.size, 1, none⟩ = some (.slice none 0 0) := (by simp [go_sem]); have f01 : (w3.alloc (.cells #[.bool false, .slice none 0 0, .slice none 0 0] 46)).frozen? ⟨w3.heap.size, 1, none⟩ = false := (by simp [go_sem]); have m02 : (w3.alloc (.cells #[.bool false, .slice none 0 0, .slice none 0 0] 46)).cell? ⟨w3.heap.size, 2, none⟩ = some (.slice none 0 0) := (by simp [go_sem]); have f02 : (w3.alloc (.cells #[.bool false, .slice none 0 0, .slice none 0 0] 46)).frozen? ⟨w3.heap.size, 2, none⟩ = false := (by simp [go_sem]); have m10 := kkeep g4 m00; have f10 : w4.frozen? ⟨w3.heap.size, 0, none⟩ = false := (kfro g4 (cell_lt m00)).trans f00; have m11 := kkeep g4 m01; have f11 : w4.frozen? ⟨w3.heap.size, 1, none⟩ = false := (kfro g4 (cell_lt m01)).trans f01; have m12 := kkeep g4 m02; have f12 : w4.frozen? ⟨w3.heap.size, 2, none⟩ = false := (kfro g4 (cell_lt m02)).trans f02; have m20 := kkeep g5 m10; have f20 : w5.frozen? ⟨w3.heap.size, 0, none⟩ = false := (kfro g5 (cell_lt m10)).trans f10; have m21 := kkeep g5 m11; have f21 : w5.frozen? ⟨w3.heap.size, 1, none⟩ = false := (kfro g5 (cell_lt m11)).trans f11; have m22 := kkeep g5 m12; have f22 : w5.frozen? ⟨w3.heap.size, 2, none⟩ = false := (kfro g5 (cell_lt m12)).trans f12; have HS := (((hq.set (x := ⟨w3.heap.size, 0, none⟩) (cell_lt m10) (.bool s3)).set (x := ⟨w3.heap.size, 1, none⟩) (cell_lt m10) (.slice p3 l3 c3)).set (x := ⟨w3.heap.size, 2, none⟩) (cell_lt m10) (.slice q3 k3 d3))) | (have m00 : (w4.alloc (.cells #[.bool false, .slice none 0 0, .slice none 0 0] 46)).cell? ⟨w4.heap.size, 0, none⟩ = some (.bool false) := (by simp [go_sem]); have f00 : (w4.alloc (.cells #[.bool false, .slice none 0 0, .slice none 0 0] 46)).frozen? ⟨w4.heap.size, 0, none⟩ = false := (by simp [go_sem]); have m01 : (w4.alloc (.cells #[.bool false, .slice none 0 0, .slice none 0 0] 46)).cell? ⟨w4.heap.size, 1, none⟩ = some (.slice none 0 0) := (by simp [go_sem]); have f01 : (w4.alloc (.cells #[.bool false, .slice none 0 0, .slice none 0 0] 46)).frozen? ⟨w4.heap.size, 1, none⟩ = false := (by simp [go_sem]); have m02 : (w4.alloc (.cells #[.bool false, .slice none 0 0, .slice none 0 0] 46)).cell? ⟨w4.heap.size, 2, none⟩ = some (.slice none 0 0) := (by simp [go_sem]); have f02 : (w4.alloc (.cells #[.bool false, .slice none 0 0, .slice none 0 0] 46)).frozen? ⟨w4.heap.size, 2, none⟩ = false := (by simp [go_sem]); have m10 := kkeep g5 m00; have f10 : w5.frozen? ⟨w4.heap.size, 0, none⟩ = false := (kfro g5 (cell_lt m00)).trans f00; have m11 := kkeep g5 m01; have f11 : w5.frozen? ⟨w4.heap.size, 1, none⟩ = false := (kfro g5 (cell_lt m01)).trans f01; have m12 := kkeep g5 m02; have f12 : w5.frozen? ⟨w4.heap.size, 2, none⟩ = false := (kfro g5 (cell_lt m02)).trans f02; have HS := (((hq.set (x := ⟨w4.heap.size, 0, none⟩) (cell_lt m00) (.bool s3)).set (x := ⟨w4.heap.size, 1, none⟩) (cell_lt m00) (.slice p3 l3 c3)).set (x := ⟨w4.heap.size, 2, none⟩) (cell_lt m00) (.slice q3 k3 d3))) | skip))
    all_goals go_wp2_with fail
    all_goals (first
      | skip
        have x0 : ((((w5).setCell ⟨W.heap.size, 0, none⟩ (.bool s3)).setCell ⟨W.heap.size, 1, none⟩ (.slice p3 l3 c3)).setCell ⟨W.heap.size, 2, none⟩ (.slice q3 k3 d3)).cell? ⟨W.heap.size, 0, none⟩ = some (.bool s3) := by simp [go_sem, m30, m31, m32, f30, f31, f32]
        have x1 : ((((w5).setCell ⟨W.heap.size, 0, none⟩ (.bool s3)).setCell ⟨W.heap.size, 1, none⟩ (.slice p3 l3 c3)).setCell ⟨W.heap.size, 2, none⟩ (.slice q3 k3 d3)).cell? ⟨W.heap.size, 1, none⟩ = some (.slice p3 l3 c3) := by simp [go_sem, m30, m31, m32, f30, f31, f32]
        have x2 : ((((w5).setCell ⟨W.heap.size, 0, none⟩ (.bool s3)).setCell ⟨W.heap.size, 1, none⟩ (.slice p3 l3 c3)).setCell ⟨W.heap.size, 2, none⟩ (.slice q3 k3 d3)).cell? ⟨W.heap.size, 2, none⟩ = some (.slice q3 k3 d3) := by simp [go_sem, m30, m31, m32, f30, f31, f32]
        have hv5 := HS
        have kV : Kp w ((((w5).setCell ⟨W.heap.size, 0, none⟩ (.bool s3)).setCell ⟨W.heap.size, 1, none⟩ (.slice p3 l3 c3)).setCell ⟨W.heap.size, 2, none⟩ (.slice q3 k3 d3)) := ((((Kp.trans kW KW2)).setCell (by exact Below.size kW) _).setCell (by exact Below.size kW) _).setCell (by exact Below.size kW) _
        have KZ9 : Kp W ((((w5).setCell ⟨W.heap.size, 0, none⟩ (.bool s3)).setCell ⟨W.heap.size, 1, none⟩ (.slice p3 l3 c3)).setCell ⟨W.heap.size, 2, none⟩ (.slice q3 k3 d3)) := (((KW2).setCell (by first | omega | (simp <;> omega)) _).setCell (by first | omega | (simp <;> omega)) _).setCell (by first | omega | (simp <;> omega)) _
        generalize ((((w5).setCell ⟨W.heap.size, 0, none⟩ (.bool s3)).setCell ⟨W.heap.size, 1, none⟩ (.slice p3 l3 c3)).setCell ⟨W.heap.size, 2, none⟩ (.slice q3 k3 d3)) = W5 at x0 x1 x2 hv5 kV KZ9 ⊢
        generalize W.heap.size = B5 at x0 x1 x2 ⊢
      | skip
        have x0 : ((((w5).setCell ⟨w3.heap.size, 0, none⟩ (.bool s3)).setCell ⟨w3.heap.size, 1, none⟩ (.slice p3 l3 c3)).setCell ⟨w3.heap.size, 2, none⟩ (.slice q3 k3 d3)).cell? ⟨w3.heap.size, 0, none⟩ = some (.bool s3) := by simp [go_sem, m20, m21, m22, f20, f21, f22]
        have x1 : ((((w5).setCell ⟨w3.heap.size, 0, none⟩ (.bool s3)).setCell ⟨w3.heap.size, 1, none⟩ (.slice p3 l3 c3)).setCell ⟨w3.heap.size, 2, none⟩ (.slice q3 k3 d3)).cell? ⟨w3.heap.size, 1, none⟩ = some (.slice p3 l3 c3) := by simp [go_sem, m20, m21, m22, f20, f21, f22]
        have x2 : ((((w5).setCell ⟨w3.heap.size, 0, none⟩ (.bool s3)).setCell ⟨w3.heap.size, 1, none⟩ (.slice p3 l3 c3)).setCell ⟨w3.heap.size, 2, none⟩ (.slice q3 k3 d3)).cell? ⟨w3.heap.size, 2, none⟩ = some (.slice q3 k3 d3) := by simp [go_sem, m20, m21, m22, f20, f21, f22]
        have hv5 := HS
        have kV : Kp w ((((w5).setCell ⟨w3.heap.size, 0, none⟩ (.bool s3)).setCell ⟨w3.heap.size, 1, none⟩ (.slice p3 l3 c3)).setCell ⟨w3.heap.size, 2, none⟩ (.slice q3 k3 d3)) := ((((Kp.trans kW KW2)).setCell (by have h1 := Below.size kW; have h2 := Below.size KW0; first | omega | (simp <;> omega)) _).setCell (by have h1 := Below.size kW; have h2 := Below.size KW0; first | omega | (simp <;> omega)) _).setCell (by have h1 := Below.size kW; have h2 := Below.size KW0; first | omega | (simp <;> omega)) _
        have KZ9 : Kp W ((((w5).setCell ⟨w3.heap.size, 0, none⟩ (.bool s3)).setCell ⟨w3.heap.size, 1, none⟩ (.slice p3 l3 c3)).setCell ⟨w3.heap.size, 2, none⟩ (.slice q3 k3 d3)) := (((KW2).setCell (by have h2 := Below.size KW0; first | omega | (simp <;> omega)) _).setCell (by have h2 := Below.size KW0; first | omega | (simp <;> omega)) _).setCell (by have h2 := Below.size KW0; first | omega | (simp <;> omega)) _
        generalize ((((w5).setCell ⟨w3.heap.size, 0, none⟩ (.bool s3)).setCell ⟨w3.heap.size, 1, none⟩ (.slice p3 l3 c3)).setCell ⟨w3.heap.size, 2, none⟩ (.slice q3 k3 d3)) = W5 at x0 x1 x2 hv5 kV KZ9 ⊢
        generalize w3.heap.size = B5 at x0 x1 x2 ⊢
      | skip
        have x0 : ((((w5).setCell ⟨w4.heap.size, 0, none⟩ (.bool s3)).setCell ⟨w4.heap.size, 1, none⟩ (.slice p3 l3 c3)).setCell ⟨w4.heap.size, 2, none⟩ (.slice q3 k3 d3)).cell? ⟨w4.heap.size, 0, none⟩ = some (.bool s3) := by simp [go_sem, m10, m11, m12, f10, f11, f12]
        have x1 : ((((w5).setCell ⟨w4.heap.size, 0, none⟩ (.bool s3)).setCell ⟨w4.heap.size, 1, none⟩ (.slice p3 l3 c3)).setCell ⟨w4.heap.size, 2, none⟩ (.slice q3 k3 d3)).cell? ⟨w4.heap.size, 1, none⟩ = some (.slice p3 l3 c3) := by simp [go_sem, m10, m11, m12, f10, f11, f12]
        have x2 : ((((w5).setCell ⟨w4.heap.size, 0, none⟩ (.bool s3)).setCell ⟨w4.heap.size, 1, none⟩ (.slice p3 l3 c3)).setCell ⟨w4.heap.size, 2, none⟩ (.slice q3 k3 d3)).cell? ⟨w4.heap.size, 2, none⟩ = some (.slice q3 k3 d3) := by simp [go_sem, m10, m11, m12, f10, f11, f12]
        have hv5 := HS
        have kV : Kp w ((((w5).setCell ⟨w4.heap.size, 0, none⟩ (.bool s3)).setCell ⟨w4.heap.size, 1, none⟩ (.slice p3 l3 c3)).setCell ⟨w4.heap.size, 2, none⟩ (.slice q3 k3 d3)) := ((((Kp.trans kW KW2)).setCell (by have h1 := Below.size kW; have h2 := Below.size KW1; first | omega | (simp <;> omega)) _).setCell (by have h1 := Below.size kW; have h2 := Below.size KW1; first | omega | (simp <;> omega)) _).setCell (by have h1 := Below.size kW; have h2 := Below.size KW1; first | omega | (simp <;> omega)) _
        have KZ9 : Kp W ((((w5).setCell ⟨w4.heap.size, 0, none⟩ (.bool s3)).setCell ⟨w4.heap.size, 1, none⟩ (.slice p3 l3 c3)).setCell ⟨w4.heap.size, 2, none⟩ (.slice q3 k3 d3)) := (((KW2).setCell (by have h2 := Below.size KW1; first | omega | (simp <;> omega)) _).setCell (by have h2 := Below.size KW1; first | omega | (simp <;> omega)) _).setCell (by have h2 := Below.size KW1; first | omega | (simp <;> omega)) _
        generalize ((((w5).setCell ⟨w4.heap.size, 0, none⟩ (.bool s3)).setCell ⟨w4.heap.size, 1, none⟩ (.slice p3 l3 c3)).setCell ⟨w4.heap.size, 2, none⟩ (.slice q3 k3 d3)) = W5 at x0 x1 x2 hv5 kV KZ9 ⊢
        generalize w4.heap.size = B5 at x0 x1 x2 ⊢
      | skip
        have x0 : (w5.alloc (.cells #[.bool s3, .slice p3 l3 c3, .slice q3 k3 d3] 46)).cell? ⟨w5.heap.size, 0, none⟩ = some (.bool s3) := by simp [go_sem]
        have x1 : (w5.alloc (.cells #[.bool s3, .slice p3 l3 c3, .slice q3 k3 d3] 46)).cell? ⟨w5.heap.size, 1, none⟩ = some (.slice p3 l3 c3) := by simp [go_sem]
        have x2 : (w5.alloc (.cells #[.bool s3, .slice p3 l3 c3, .slice q3 k3 d3] 46)).cell? ⟨w5.heap.size, 2, none⟩ = some (.slice q3 k3 d3) := by simp [go_sem]
        have hv5 := hq.kp ((Kp.refl w5).alloc (.cells #[.bool s3, .slice p3 l3 c3, .slice q3 k3 d3] 46))
        have kV : Kp w (w5.alloc (.cells #[.bool s3, .slice p3 l3 c3, .slice q3 k3 d3] 46)) := Kp.trans (Kp.trans kW KW2) ((Kp.refl w5).alloc _)
        have KZ9 : Kp W (w5.alloc (.cells #[.bool s3, .slice p3 l3 c3, .slice q3 k3 d3] 46)) := Kp.trans KW2 ((Kp.refl w5).alloc _)
        generalize ((w5.alloc (.cells #[.bool s3, .slice p3 l3 c3, .slice q3 k3 d3] 46))) = W5 at x0 x1 x2 hv5 kV KZ9 ⊢
        generalize w5.heap.size = B5 at x0 x1 x2 ⊢)
    all_goals (
      go_meet
      exact ⟨B5, s3, p3, l3, c3, q3, k3, d3, rfl, ⟨x0, x1, x2⟩, hv5.mono (Nat.zero_le _), KZ9⟩)
  case rest =>
  obtain ⟨g8, s8, p8, l8, c8, q8, k8, d8, rfl, ⟨x80, x81, x82⟩, hv8, gc⟩ := hcut
  replace x70 := kkeep gc x70
  replace x71 := kkeep gc x71
  replace x72 := kkeep gc x72
  replace hv7 := hv7.kp gc
  replace sW := H6.keep sW gc
  replace qA := Fq.H2.keep qA gc
  replace qB := Fq.H2.keep qB gc
  replace kW := Kp.trans kW gc
  clear gc a0 a1 a2 a3 b0 b1 b2 b3 z0 z1 z2 z3
  generalize wc = W at sW qA qB kW x70 x71 x72 hv7 x80 x81 x82 hv8 ⊢
  obtain ⟨a0, a1, a2, a3⟩ := id qA
  obtain ⟨b0, b1, b2, b3⟩ := id qB
  obtain ⟨_, _, z0, z1, z2, z3⟩ := id sW
  have n7 : w.heap.size + 2 ≠ g7 := fun h => by rw [← h, z0] at x70; cases x70
  have n8 : w.heap.size + 2 ≠ g8 := fun h => by rw [← h, z0] at x80; cases x80
  go_wp2_with (first | (go_at_call 26; refine (vcmp_ 0 0 V8 V7 s8 p8 l8 c8 q8 k8 d8 s7 p7 l7 c7 q7 k7 d7 _ hv8 hv7).mono ?_; rintro e wv ⟨rfl, gv⟩; replace kW := Kp.trans kW gv; replace sW := H6.keep sW gv; replace x70 := kkeep gv x70; replace x71 := kkeep gv x71; replace x72 := kkeep gv x72; replace x80 := kkeep gv x80; replace x81 := kkeep gv x81; replace x82 := kkeep gv x82; replace hv7 := hv7.kp gv; replace hv8 := hv8.kp gv; clear gv qA qB a0 a1 a2 a3 b0 b1 b2 b3 z0 z1 z2 z3; obtain ⟨_, _, z0, z1, z2, z3⟩ := id sW))
  have xd70 : wv.drew.cell? ⟨g7, 0, none⟩ = some (.bool s7) := x70
  have xd71 : wv.drew.cell? ⟨g7, 1, none⟩ = some (.slice p7 l7 c7) := x71
  have xd72 : wv.drew.cell? ⟨g7, 2, none⟩ = some (.slice q7 k7 d7) := x72
  have xd80 : wv.drew.cell? ⟨g8, 0, none⟩ = some (.bool s8) := x80
  have xd81 : wv.drew.cell? ⟨g8, 1, none⟩ = some (.slice p8 l8 c8) := x81
  have xd82 : wv.drew.cell? ⟨g8, 2, none⟩ = some (.slice q8 k8 d8) := x82
  go_region_held3 (fun w' => w'.cell? ⟨g7, 0, none⟩ = some (.bool s7) ∧ w'.cell? ⟨g7, 1, none⟩ = some (.slice p7 l7 c7) ∧ w'.cell? ⟨g7, 2, none⟩ = some (.slice q7 k7 d7) ∧ w'.cell? ⟨g8, 0, none⟩ = some (.bool s8) ∧ w'.cell? ⟨g8, 1, none⟩ = some (.slice p8 l8 c8) ∧ w'.cell? ⟨g8, 2, none⟩ = some (.slice q8 k8 d8)) (first | (with_reducible exact ⟨x70, x71, x72, x80, x81, x82⟩) | (with_reducible exact ⟨xd70, xd71, xd72, xd80, xd81, xd82⟩) | (with_reducible exact ⟨i70, i71, i72, i80, i81, i82⟩) | (with_reducible exact ⟨j70, j71, j72, j80, j81, j82⟩) | (exact ⟨(World.cell?_setCell_far _ _ _ _ n7).trans ((World.cell?_setCell_far _ _ _ _ n7).trans j70), (World.cell?_setCell_far _ _ _ _ n7).trans ((World.cell?_setCell_far _ _ _ _ n7).trans j71), (World.cell?_setCell_far _ _ _ _ n7).trans ((World.cell?_setCell_far _ _ _ _ n7).trans j72), (World.cell?_setCell_far _ _ _ _ n8).trans ((World.cell?_setCell_far _ _ _ _ n8).trans j80), (World.cell?_setCell_far _ _ _ _ n8).trans ((World.cell?_setCell_far _ _ _ _ n8).trans j81), (World.cell?_setCell_far _ _ _ _ n8).trans ((World.cell?_setCell_far _ _ _ _ n8).trans j82)⟩)) (first | (go_at_call_of 27 (Value.bool s7); refine (vbits_ s7 p7 l7 c7 q7 k7 d7 V7 (-1) 0 _ (hv7.kp (Kp.drew (Kp.refl _)))).mono ?_; rintro e w6 ⟨rfl, g6⟩; have k6 : Kp wv w6 := Kp.trans (Kp.drew (Kp.refl _)) g6; have i70 := kkeep k6 x70; have i71 := kkeep k6 x71; have i72 := kkeep k6 x72; have i80 := kkeep k6 x80; have i81 := kkeep k6 x81; have i82 := kkeep k6 x82) | (go_at_call_of 27 (Value.bool s8); refine (vbits_ s8 p8 l8 c8 q8 k8 d8 V8 1 0 _ (hv8.kp k6)).mono ?_; rintro e w9 ⟨rfl, g9⟩; have k9 : Kp wv w9 := Kp.trans k6 g9; have j70 := kkeep k9 x70; have j71 := kkeep k9 x71; have j72 := kkeep k9 x72; have j80 := kkeep k9 x80; have j81 := kkeep k9 x81; have j82 := kkeep k9 x82; obtain ⟨_, _, R0, R1, R2, R3⟩ := H6.keep sW k9))
  go_wp2
  exact bodyPost_ret (v := .agg #[.int .u64 ((sumW (-1) V7 : Nat) : Int), .int .u64 ((sumW 1 V8 : Nat) : Int)]) (by simp [results, Tryz.results7, go_sem, R0, R1, R2, R3]) rfl ⟨rfl, ((Kp.trans kW k9).setCell (by simp <;> omega) _).setCell (by simp <;> omega) _⟩
end Go.Proofs.YthmeefigiekneaaGreatDoor
