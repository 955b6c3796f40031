import Derived.Test.YtnjbheammpdjfaaProg
import Derived.Test.YtnjbheammpdjfaaKXA0
import Derived.Test.YtnjbheammpdjfaaKXQF
import Derived.Test.YtnjbheammpdjfaaKQA
import Derived.Test.YtnjbheammpdjfaaKXQU
import Derived.Test.YtnjbheammpdjfaaKXEA
import Derived.Test.YtnjbheammpdjfaaKXNR
import Derived.Test.YtnjbheammpdjfaaKXNS9
import Derived.Test.YtnjbheammpdjfaaKXEE
import Derived.WalkKit
import Derived.ProofKit
import Derived.RowKit3
import Derived.WalkSpells
import Derived.StillTactics
import Derived.Deep.QuietTactic
import Derived.BigQuiet
import Derived.Below
import Derived.Deep.OwnRows
import Derived.OwnWalk
import Derived.Laws.BitsAllLaws
import Derived.Laws.Slices
import Derived.Laws.Bits64b
import Derived.Laws.FloatArith
import Derived.Deep.RegionHeld3
import Derived.Deep.CutRange
import Derived.Deep.DeepCutAuto
namespace Go.Proofs.Ytnjbheammpdjfaa
open Go.RowKit
set_option linter.unusedVariables false
set_option maxRecDepth 20000 in
set_option maxHeartbeats 4000000 in
theorem rbisE_ (X1 X2 Y1 Y2 : Int) (hr : ∀ w : World, Calls Try.prog 29 #[.agg #[.int .u64 X1, .int .u64 X2]] w fun e w' => e = .returned (.agg #[.int .u64 Y1, .int .u64 Y2]) ∧ Kp w w') (t1 : (Y1 == 9218868437227405312) = true) (t2 : (Y2 == 18442240474082181120) = true) (w : World) : Calls Try.prog 28 #[.agg #[.int .u64 X1, .int .u64 X2]] w fun e w' => e = .returned (.tuple #[.agg #[.int .u64 0, .int .u64 0], .agg #[.int .u64 0, .int .u64 0], .bool false]) ∧ Kp w w' := by
  go_enter Try.func28, Try.ntmps28
  go_upto_region 3 with (first | (go_at_call 29; refine (hr _).mono ?_; rintro e w1 ⟨rfl, g1⟩; have k1 : Kp w w1 := Kp.trans ((((Kp.refl w).alloc _).alloc _).alloc _) g1; have s1 := H6.keep (H6.new w (.int .u64 X1) (.int .u64 X2) (.int .u64 0) (.int .u64 0) (.int .u64 0) (.int .u64 0) 38 38 38) g1))
  have s2 := H6.keep s1 (((Kp.refl w1).alloc (.cells #[.int .u64 Y1, .int .u64 Y2] 38)).alloc (.cells #[.int .u64 0, .int .u64 0] 38))
  have qy : Fq.H2 ((w1.alloc (.cells #[.int .u64 Y1, .int .u64 Y2] 38)).alloc (.cells #[.int .u64 0, .int .u64 0] 38)) w1.heap.size (.int .u64 Y1) (.int .u64 Y2) := Fq.H2.past (Fq.H2.new w1 _ _ 38) _ _
  have qz : Fq.H2 ((w1.alloc (.cells #[.int .u64 Y1, .int .u64 Y2] 38)).alloc (.cells #[.int .u64 0, .int .u64 0] 38)) (w1.heap.size + 1) (.int .u64 0) (.int .u64 0) := Fq.H2.two0 w1 _ _ _ _ _ _
  have kW : Kp w ((w1.alloc (.cells #[.int .u64 Y1, .int .u64 Y2] 38)).alloc (.cells #[.int .u64 0, .int .u64 0] 38)) := (k1.alloc _).alloc _
  have hlt : w.heap.size + 2 < w1.heap.size := cell_lt s1.2.2.1
  generalize hW : ((w1.alloc (.cells #[.int .u64 Y1, .int .u64 Y2] 38)).alloc (.cells #[.int .u64 0, .int .u64 0] 38)) = W at s2 qy qz kW ⊢
  generalize w1.heap.size = by9 at qy qz hlt ⊢
  have n1 : w.heap.size + 1 ≠ by9 := by omega
  have n2 : w.heap.size + 2 ≠ by9 := by omega
  have n3 : w.heap.size + 1 ≠ by9 + 1 := by omega
  have n4 : w.heap.size + 2 ≠ by9 + 1 := by omega
  clear hW s1 k1 g1
  refine Fq.wp_region_grow (by kernel_rfl) (by kernel_rfl) (fun ι _ G hG hall => ?_)
  have cc0 : ∀ n, (G n).cell? ⟨by9, 0, none⟩ = some (.int .u64 Y1) := fun n => Fq.gkeep (hG n) qy.1
  have cc1 : ∀ n, (G n).cell? ⟨by9, 1, none⟩ = some (.int .u64 Y2) := fun n => Fq.gkeep (hG n) qy.2.1
  repeat (go_big_quiet_step (first | (go_at_call 50; exact (rempty9_ _).mono (fun e w' h => ⟨h.1, hall _ (Fq.gtrans (hG _) h.2)⟩))))
  refine wpQuiet_nil ?_
  rintro _ ⟨nq, rfl⟩
  have gq : Kp W (G nq) := hG nq
  clear cc0 cc1 hall hG
  replace s2 := H6.keep s2 gq
  replace qy := Fq.H2.keep qy gq
  replace qz := Fq.H2.keep qz gq
  replace kW := Kp.trans kW gq
  generalize G nq = W at s2 qy qz kW ⊢
  clear gq
  obtain ⟨⟨p0, p1, p2, p3⟩, ⟨p4, p5, p6, p7⟩, ⟨p8, p9, pa, pb⟩⟩ := id s2
  obtain ⟨y0, y1, y2, y3⟩ := id qy
  obtain ⟨z0, z1, z2, z3⟩ := id qz
  go_wp2
  go_region
  all_goals (
    go_wp2
    exact bodyPost_ret (v := .tuple #[.agg #[.int .u64 0, .int .u64 0], .agg #[.int .u64 0, .int .u64 0], .bool false]) (by simp [results, Try.results28, go_sem, p4, p5, p8, p9]) rfl ⟨rfl, (by repeat (with_reducible (first | assumption | exact Kp.refl _ | apply Kp.drew | apply Kp.alloc | apply Kp.drewN | (refine Kp.setCell ?_ (by first | omega | (simp <;> omega)) _) | (refine Kp.trans ?_ (by assumption)))))⟩)
set_option maxRecDepth 20000 in
set_option maxHeartbeats 4000000 in
theorem rbisN_ (X1 X2 Y1 Y2 p q : Int) (bp : -9218868437227405312 ≤ p ∧ p ≤ 9218868437227405312) (bq : -9218868437227405312 ≤ q ∧ q ≤ 9218868437227405312) (hr : ∀ w : World, Calls Try.prog 29 #[.agg #[.int .u64 X1, .int .u64 X2]] w fun e w' => e = .returned (.agg #[.int .u64 Y1, .int .u64 Y2]) ∧ Kp w w') (t1 : (Y1 == 9218868437227405312) = false) (hp1 : ∀ w : World, Calls Try.prog 51 #[.bool true, .int .u64 Y1] w fun e w' => e = .returned (.tuple #[.int .i64 p, .bool true]) ∧ Kp w w') (hp2 : ∀ w : World, Calls Try.prog 51 #[.bool true, .int .u64 Y2] w fun e w' => e = .returned (.tuple #[.int .i64 q, .bool true]) ∧ Kp w w') (hq : q ≤ p + 1) (w : World) : Calls Try.prog 28 #[.agg #[.int .u64 X1, .int .u64 X2]] w fun e w' => e = .returned (.tuple #[.agg #[.int .u64 0, .int .u64 0], .agg #[.int .u64 0, .int .u64 0], .bool false]) ∧ Kp w w' := by
  have w1 : wrap64 (p + 1) = p + 1 := by unfold wrap64; omega
  have w2 : wrap64 (2 + p) = 2 + p := by unfold wrap64; omega
  clear bp bq
  go_enter Try.func28, Try.ntmps28
  go_upto_region 3 with (first | (go_at_call 29; refine (hr _).mono ?_; rintro e w1 ⟨rfl, g1⟩; have k1 : Kp w w1 := Kp.trans ((((Kp.refl w).alloc _).alloc _).alloc _) g1; have s1 := H6.keep (H6.new w (.int .u64 X1) (.int .u64 X2) (.int .u64 0) (.int .u64 0) (.int .u64 0) (.int .u64 0) 38 38 38) g1))
  have s2 := H6.keep s1 (((Kp.refl w1).alloc (.cells #[.int .u64 Y1, .int .u64 Y2] 38)).alloc (.cells #[.int .u64 0, .int .u64 0] 38))
  have qy : Fq.H2 ((w1.alloc (.cells #[.int .u64 Y1, .int .u64 Y2] 38)).alloc (.cells #[.int .u64 0, .int .u64 0] 38)) w1.heap.size (.int .u64 Y1) (.int .u64 Y2) := Fq.H2.past (Fq.H2.new w1 _ _ 38) _ _
  have qz : Fq.H2 ((w1.alloc (.cells #[.int .u64 Y1, .int .u64 Y2] 38)).alloc (.cells #[.int .u64 0, .int .u64 0] 38)) (w1.heap.size + 1) (.int .u64 0) (.int .u64 0) := Fq.H2.two0 w1 _ _ _ _ _ _
  have kW : Kp w ((w1.alloc (.cells #[.int .u64 Y1, .int .u64 Y2] 38)).alloc (.cells #[.int .u64 0, .int .u64 0] 38)) := (k1.alloc _).alloc _
  have hlt : w.heap.size + 2 < w1.heap.size := cell_lt s1.2.2.1
  generalize hW : ((w1.alloc (.cells #[.int .u64 Y1, .int .u64 Y2] 38)).alloc (.cells #[.int .u64 0, .int .u64 0] 38)) = W at s2 qy qz kW ⊢
  generalize w1.heap.size = by9 at qy qz hlt ⊢
  have n1 : w.heap.size + 1 ≠ by9 := by omega
  have n2 : w.heap.size + 2 ≠ by9 := by omega
  have n3 : w.heap.size + 1 ≠ by9 + 1 := by omega
  have n4 : w.heap.size + 2 ≠ by9 + 1 := by omega
  clear hW s1 k1 g1
  refine Fq.wp_region_grow (by kernel_rfl) (by kernel_rfl) (fun ι _ G hG hall => ?_)
  have cc0 : ∀ n, (G n).cell? ⟨by9, 0, none⟩ = some (.int .u64 Y1) := fun n => Fq.gkeep (hG n) qy.1
  have cc1 : ∀ n, (G n).cell? ⟨by9, 1, none⟩ = some (.int .u64 Y2) := fun n => Fq.gkeep (hG n) qy.2.1
  repeat (go_big_quiet_step (first | (go_at_call 50; exact (rempty9_ _).mono (fun e w' h => ⟨h.1, hall _ (Fq.gtrans (hG _) h.2)⟩))))
  refine wpQuiet_nil ?_
  rintro _ ⟨nq, rfl⟩
  have gq : Kp W (G nq) := hG nq
  clear cc0 cc1 hall hG
  replace s2 := H6.keep s2 gq
  replace qy := Fq.H2.keep qy gq
  replace qz := Fq.H2.keep qz gq
  replace kW := Kp.trans kW gq
  generalize G nq = W at s2 qy qz kW ⊢
  clear gq
  obtain ⟨⟨p0, p1, p2, p3⟩, ⟨p4, p5, p6, p7⟩, ⟨p8, p9, pa, pb⟩⟩ := id s2
  obtain ⟨y0, y1, y2, y3⟩ := id qy
  obtain ⟨z0, z1, z2, z3⟩ := id qz
  by_cases c : p < 0
  · have c2 : q < 2 + p := by omega
    have c3 : ¬ (0 ≤ p) := by omega
    go_wp2_with (first | (go_at_call_of 51 (Value.int .u64 Y1); refine (hp1 _).mono ?_; rintro e wp ⟨rfl, gp⟩; replace s2 := H6.keep s2 gp; replace qy := Fq.H2.keep qy gp; replace qz := Fq.H2.keep qz gp; replace kW := Kp.trans kW gp; clear gp p0 p1 p2 p3 p4 p5 p6 p7 p8 p9 pa pb y0 y1 y2 y3 z0 z1 z2 z3; obtain ⟨⟨p0, p1, p2, p3⟩, ⟨p4, p5, p6, p7⟩, ⟨p8, p9, pa, pb⟩⟩ := id s2; obtain ⟨y0, y1, y2, y3⟩ := id qy; obtain ⟨z0, z1, z2, z3⟩ := id qz) | (go_at_call_of 51 (Value.int .u64 Y2); refine (hp2 _).mono ?_; rintro e wp ⟨rfl, gp⟩; replace s2 := H6.keep s2 gp; replace qy := Fq.H2.keep qy gp; replace qz := Fq.H2.keep qz gp; replace kW := Kp.trans kW gp; clear gp p0 p1 p2 p3 p4 p5 p6 p7 p8 p9 pa pb y0 y1 y2 y3 z0 z1 z2 z3; obtain ⟨⟨p0, p1, p2, p3⟩, ⟨p4, p5, p6, p7⟩, ⟨p8, p9, pa, pb⟩⟩ := id s2; obtain ⟨y0, y1, y2, y3⟩ := id qy; obtain ⟨z0, z1, z2, z3⟩ := id qz))
    go_region
    all_goals (
      go_wp2
      exact bodyPost_ret (v := .tuple #[.agg #[.int .u64 0, .int .u64 0], .agg #[.int .u64 0, .int .u64 0], .bool false]) (by simp [results, Try.results28, go_sem, p4, p5, p8, p9]) rfl ⟨rfl, (by repeat (with_reducible (first | assumption | exact Kp.refl _ | apply Kp.drew | apply Kp.alloc | apply Kp.drewN | (refine Kp.setCell ?_ (by first | omega | (simp <;> omega)) _) | (refine Kp.trans ?_ (by assumption)))))⟩)
  · have c2 : q < 2 + p := by omega
    have c3 : 0 ≤ p := by omega
    go_wp2_with (first | (go_at_call_of 51 (Value.int .u64 Y1); refine (hp1 _).mono ?_; rintro e wp ⟨rfl, gp⟩; replace s2 := H6.keep s2 gp; replace qy := Fq.H2.keep qy gp; replace qz := Fq.H2.keep qz gp; replace kW := Kp.trans kW gp; clear gp p0 p1 p2 p3 p4 p5 p6 p7 p8 p9 pa pb y0 y1 y2 y3 z0 z1 z2 z3; obtain ⟨⟨p0, p1, p2, p3⟩, ⟨p4, p5, p6, p7⟩, ⟨p8, p9, pa, pb⟩⟩ := id s2; obtain ⟨y0, y1, y2, y3⟩ := id qy; obtain ⟨z0, z1, z2, z3⟩ := id qz) | (go_at_call_of 51 (Value.int .u64 Y2); refine (hp2 _).mono ?_; rintro e wp ⟨rfl, gp⟩; replace s2 := H6.keep s2 gp; replace qy := Fq.H2.keep qy gp; replace qz := Fq.H2.keep qz gp; replace kW := Kp.trans kW gp; clear gp p0 p1 p2 p3 p4 p5 p6 p7 p8 p9 pa pb y0 y1 y2 y3 z0 z1 z2 z3; obtain ⟨⟨p0, p1, p2, p3⟩, ⟨p4, p5, p6, p7⟩, ⟨p8, p9, pa, pb⟩⟩ := id s2; obtain ⟨y0, y1, y2, y3⟩ := id qy; obtain ⟨z0, z1, z2, z3⟩ := id qz))
    go_region
    all_goals (
      go_wp2
      exact bodyPost_ret (v := .tuple #[.agg #[.int .u64 0, .int .u64 0], .agg #[.int .u64 0, .int .u64 0], .bool false]) (by simp [results, Try.results28, go_sem, p4, p5, p8, p9]) rfl ⟨rfl, (by repeat (with_reducible (first | assumption | exact Kp.refl _ | apply Kp.drew | apply Kp.alloc | apply Kp.drewN | (refine Kp.setCell ?_ (by first | omega | (simp <;> omega)) _) | (refine Kp.trans ?_ (by assumption)))))⟩)
set_option maxRecDepth 20000 in
set_option maxHeartbeats 4000000 in
theorem rbisM_ (X1 X2 Y1 Y2 p q : Int) (bp : -9218868437227405312 ≤ p ∧ p ≤ 9218868437227405312) (bq : -9218868437227405312 ≤ q ∧ q ≤ 9218868437227405312) (hr : ∀ w : World, Calls Try.prog 29 #[.agg #[.int .u64 X1, .int .u64 X2]] w fun e w' => e = .returned (.agg #[.int .u64 Y1, .int .u64 Y2]) ∧ Kp w w') (t1 : (Y1 == 9218868437227405312) = false) (hp1 : ∀ w : World, Calls Try.prog 51 #[.bool true, .int .u64 Y1] w fun e w' => e = .returned (.tuple #[.int .i64 p, .bool true]) ∧ Kp w w') (hp2 : ∀ w : World, Calls Try.prog 51 #[.bool true, .int .u64 Y2] w fun e w' => e = .returned (.tuple #[.int .i64 q, .bool true]) ∧ Kp w w') (hq : p + 1 < q) (C : Int) (hm : ∀ w : World, Calls Try.prog 52 #[.agg #[.int .u64 Y1, .int .u64 Y2]] w fun e w' => e = .returned (.int .u64 C) ∧ Kp w w') (i1 : ∀ w : World, Calls Try.prog 33 #[.int .u64 Y1] w fun e w' => e = .returned (.bool false) ∧ w' = w) (i2 : ∀ w : World, Calls Try.prog 33 #[.int .u64 Y2] w fun e w' => e = .returned (.bool false) ∧ w' = w) (w : World) : Calls Try.prog 28 #[.agg #[.int .u64 X1, .int .u64 X2]] w fun e w' => e = .returned (.tuple #[.agg #[.int .u64 Y1, .int .u64 C], .agg #[.int .u64 C, .int .u64 Y2], .bool true]) ∧ Kp w w' := by
  have w1 : wrap64 (p + 1) = p + 1 := by unfold wrap64; omega
  have w2 : wrap64 (2 + p) = 2 + p := by unfold wrap64; omega
  have c1 : ¬ (q ≤ p + 1) := by omega
  have c2 : ¬ (q < 2 + p) := by omega
  clear bp bq hq
  go_enter Try.func28, Try.ntmps28
  go_upto_region 3 with (first | (go_at_call 29; refine (hr _).mono ?_; rintro e w1 ⟨rfl, g1⟩; have k1 : Kp w w1 := Kp.trans ((((Kp.refl w).alloc _).alloc _).alloc _) g1; have s1 := H6.keep (H6.new w (.int .u64 X1) (.int .u64 X2) (.int .u64 0) (.int .u64 0) (.int .u64 0) (.int .u64 0) 38 38 38) g1))
  have s2 := H6.keep s1 (((Kp.refl w1).alloc (.cells #[.int .u64 Y1, .int .u64 Y2] 38)).alloc (.cells #[.int .u64 0, .int .u64 0] 38))
  have qy : Fq.H2 ((w1.alloc (.cells #[.int .u64 Y1, .int .u64 Y2] 38)).alloc (.cells #[.int .u64 0, .int .u64 0] 38)) w1.heap.size (.int .u64 Y1) (.int .u64 Y2) := Fq.H2.past (Fq.H2.new w1 _ _ 38) _ _
  have qz : Fq.H2 ((w1.alloc (.cells #[.int .u64 Y1, .int .u64 Y2] 38)).alloc (.cells #[.int .u64 0, .int .u64 0] 38)) (w1.heap.size + 1) (.int .u64 0) (.int .u64 0) := Fq.H2.two0 w1 _ _ _ _ _ _
  have kW : Kp w ((w1.alloc (.cells #[.int .u64 Y1, .int .u64 Y2] 38)).alloc (.cells #[.int .u64 0, .int .u64 0] 38)) := (k1.alloc _).alloc _
  have hlt : w.heap.size + 2 < w1.heap.size := cell_lt s1.2.2.1
  generalize hW : ((w1.alloc (.cells #[.int .u64 Y1, .int .u64 Y2] 38)).alloc (.cells #[.int .u64 0, .int .u64 0] 38)) = W at s2 qy qz kW ⊢
  generalize w1.heap.size = by9 at qy qz hlt ⊢
  have n1 : w.heap.size + 1 ≠ by9 := by omega
  have n2 : w.heap.size + 2 ≠ by9 := by omega
  have n3 : w.heap.size + 1 ≠ by9 + 1 := by omega
  have n4 : w.heap.size + 2 ≠ by9 + 1 := by omega
  clear hW s1 k1 g1
  refine Fq.wp_region_grow (by kernel_rfl) (by kernel_rfl) (fun ι _ G hG hall => ?_)
  have cc0 : ∀ n, (G n).cell? ⟨by9, 0, none⟩ = some (.int .u64 Y1) := fun n => Fq.gkeep (hG n) qy.1
  have cc1 : ∀ n, (G n).cell? ⟨by9, 1, none⟩ = some (.int .u64 Y2) := fun n => Fq.gkeep (hG n) qy.2.1
  repeat (go_big_quiet_step (first | (go_at_call 50; exact (rempty9_ _).mono (fun e w' h => ⟨h.1, hall _ (Fq.gtrans (hG _) h.2)⟩))))
  refine wpQuiet_nil ?_
  rintro _ ⟨nq, rfl⟩
  have gq : Kp W (G nq) := hG nq
  clear cc0 cc1 hall hG
  replace s2 := H6.keep s2 gq
  replace qy := Fq.H2.keep qy gq
  replace qz := Fq.H2.keep qz gq
  replace kW := Kp.trans kW gq
  generalize G nq = W at s2 qy qz kW ⊢
  clear gq
  obtain ⟨⟨p0, p1, p2, p3⟩, ⟨p4, p5, p6, p7⟩, ⟨p8, p9, pa, pb⟩⟩ := id s2
  obtain ⟨y0, y1, y2, y3⟩ := id qy
  obtain ⟨z0, z1, z2, z3⟩ := id qz
  go_upto_region 12 with (first | (go_at_call_of 51 (Value.int .u64 Y1); refine (hp1 _).mono ?_; rintro e wp ⟨rfl, gp⟩; replace s2 := H6.keep s2 gp; replace qy := Fq.H2.keep qy gp; replace qz := Fq.H2.keep qz gp; replace kW := Kp.trans kW gp; clear gp p0 p1 p2 p3 p4 p5 p6 p7 p8 p9 pa pb y0 y1 y2 y3 z0 z1 z2 z3; obtain ⟨⟨p0, p1, p2, p3⟩, ⟨p4, p5, p6, p7⟩, ⟨p8, p9, pa, pb⟩⟩ := id s2; obtain ⟨y0, y1, y2, y3⟩ := id qy; obtain ⟨z0, z1, z2, z3⟩ := id qz) | (go_at_call_of 51 (Value.int .u64 Y2); refine (hp2 _).mono ?_; rintro e wp ⟨rfl, gp⟩; replace s2 := H6.keep s2 gp; replace qy := Fq.H2.keep qy gp; replace qz := Fq.H2.keep qz gp; replace kW := Kp.trans kW gp; clear gp p0 p1 p2 p3 p4 p5 p6 p7 p8 p9 pa pb y0 y1 y2 y3 z0 z1 z2 z3; obtain ⟨⟨p0, p1, p2, p3⟩, ⟨p4, p5, p6, p7⟩, ⟨p8, p9, pa, pb⟩⟩ := id s2; obtain ⟨y0, y1, y2, y3⟩ := id qy; obtain ⟨z0, z1, z2, z3⟩ := id qz) | (go_at_call 52; refine (hm _).mono ?_; rintro e wp ⟨rfl, gp⟩; replace s2 := H6.keep s2 gp; replace qy := Fq.H2.keep qy gp; replace qz := Fq.H2.keep qz gp; replace kW := Kp.trans kW gp; clear gp p0 p1 p2 p3 p4 p5 p6 p7 p8 p9 pa pb y0 y1 y2 y3 z0 z1 z2 z3; obtain ⟨⟨p0, p1, p2, p3⟩, ⟨p4, p5, p6, p7⟩, ⟨p8, p9, pa, pb⟩⟩ := id s2; obtain ⟨y0, y1, y2, y3⟩ := id qy; obtain ⟨z0, z1, z2, z3⟩ := id qz) | (go_at_call_of 33 (Value.int .u64 Y1); refine (i1 _).mono ?_; rintro e wq ⟨rfl, hwq⟩; obtain rfl := hwq.symm; clear hwq) | (go_at_call_of 33 (Value.int .u64 Y2); refine (i2 _).mono ?_; rintro e wq ⟨rfl, hwq⟩; obtain rfl := hwq.symm; clear hwq))
  go_region
  all_goals (
    go_wp2
    exact bodyPost_ret (v := .tuple #[.agg #[.int .u64 Y1, .int .u64 C], .agg #[.int .u64 C, .int .u64 Y2], .bool true]) (by simp [results, Try.results28, go_sem, p4, p5, p8, p9]) rfl ⟨rfl, (by repeat (with_reducible (first | assumption | exact Kp.refl _ | apply Kp.drew | apply Kp.alloc | apply Kp.drewN | (refine Kp.setCell ?_ (by first | omega | (simp <;> omega)) _) | (refine Kp.trans ?_ (by assumption)))))⟩)
set_option maxRecDepth 20000 in
set_option maxHeartbeats 4000000 in
theorem rbisL_ (X1 X2 Y1 Y2 p q : Int) (bp : -9218868437227405312 ≤ p ∧ p ≤ 9218868437227405312) (bq : -9218868437227405312 ≤ q ∧ q ≤ 9218868437227405312) (hr : ∀ w : World, Calls Try.prog 29 #[.agg #[.int .u64 X1, .int .u64 X2]] w fun e w' => e = .returned (.agg #[.int .u64 Y1, .int .u64 Y2]) ∧ Kp w w') (t1 : (Y1 == 9218868437227405312) = false) (hp1 : ∀ w : World, Calls Try.prog 51 #[.bool true, .int .u64 Y1] w fun e w' => e = .returned (.tuple #[.int .i64 p, .bool true]) ∧ Kp w w') (hp2 : ∀ w : World, Calls Try.prog 51 #[.bool true, .int .u64 Y2] w fun e w' => e = .returned (.tuple #[.int .i64 q, .bool true]) ∧ Kp w w') (hq : p + 1 < q) (C : Int) (E2 : Bool) (R D : Int) (hh : ∀ w : World, Calls Try.prog 54 #[.int .i64 p, .int .i64 q] w fun e w' => e = .returned (.int .i64 R) ∧ w' = w) (ha : ∀ w : World, Calls Try.prog 53 #[.bool true, .int .i64 R] w fun e w' => e = .returned (.tuple #[.int .u64 C, .bool true]) ∧ Kp w w') (hm : ∀ w : World, Calls Try.prog 52 #[.agg #[.int .u64 Y1, .int .u64 Y2]] w fun e w' => e = .returned (.int .u64 D) ∧ Kp w w') (i1 : ∀ w : World, Calls Try.prog 33 #[.int .u64 Y1] w fun e w' => e = .returned (.bool true) ∧ w' = w) (i2 : ∀ w : World, Calls Try.prog 33 #[.int .u64 Y2] w fun e w' => e = .returned (.bool E2) ∧ w' = w) (w : World) : Calls Try.prog 28 #[.agg #[.int .u64 X1, .int .u64 X2]] w fun e w' => e = .returned (.tuple #[.agg #[.int .u64 Y1, .int .u64 C], .agg #[.int .u64 C, .int .u64 Y2], .bool true]) ∧ Kp w w' := by
  have w1 : wrap64 (p + 1) = p + 1 := by unfold wrap64; omega
  have w2 : wrap64 (2 + p) = 2 + p := by unfold wrap64; omega
  have c1 : ¬ (q ≤ p + 1) := by omega
  have c2 : ¬ (q < 2 + p) := by omega
  clear bp bq hq
  go_enter Try.func28, Try.ntmps28
  go_upto_region 3 with (first | (go_at_call 29; refine (hr _).mono ?_; rintro e w1 ⟨rfl, g1⟩; have k1 : Kp w w1 := Kp.trans ((((Kp.refl w).alloc _).alloc _).alloc _) g1; have s1 := H6.keep (H6.new w (.int .u64 X1) (.int .u64 X2) (.int .u64 0) (.int .u64 0) (.int .u64 0) (.int .u64 0) 38 38 38) g1))
  have s2 := H6.keep s1 (((Kp.refl w1).alloc (.cells #[.int .u64 Y1, .int .u64 Y2] 38)).alloc (.cells #[.int .u64 0, .int .u64 0] 38))
  have qy : Fq.H2 ((w1.alloc (.cells #[.int .u64 Y1, .int .u64 Y2] 38)).alloc (.cells #[.int .u64 0, .int .u64 0] 38)) w1.heap.size (.int .u64 Y1) (.int .u64 Y2) := Fq.H2.past (Fq.H2.new w1 _ _ 38) _ _
  have qz : Fq.H2 ((w1.alloc (.cells #[.int .u64 Y1, .int .u64 Y2] 38)).alloc (.cells #[.int .u64 0, .int .u64 0] 38)) (w1.heap.size + 1) (.int .u64 0) (.int .u64 0) := Fq.H2.two0 w1 _ _ _ _ _ _
  have kW : Kp w ((w1.alloc (.cells #[.int .u64 Y1, .int .u64 Y2] 38)).alloc (.cells #[.int .u64 0, .int .u64 0] 38)) := (k1.alloc _).alloc _
  have hlt : w.heap.size + 2 < w1.heap.size := cell_lt s1.2.2.1
  generalize hW : ((w1.alloc (.cells #[.int .u64 Y1, .int .u64 Y2] 38)).alloc (.cells #[.int .u64 0, .int .u64 0] 38)) = W at s2 qy qz kW ⊢
  generalize w1.heap.size = by9 at qy qz hlt ⊢
  have n1 : w.heap.size + 1 ≠ by9 := by omega
  have n2 : w.heap.size + 2 ≠ by9 := by omega
  have n3 : w.heap.size + 1 ≠ by9 + 1 := by omega
  have n4 : w.heap.size + 2 ≠ by9 + 1 := by omega
  clear hW s1 k1 g1
  refine Fq.wp_region_grow (by kernel_rfl) (by kernel_rfl) (fun ι _ G hG hall => ?_)
  have cc0 : ∀ n, (G n).cell? ⟨by9, 0, none⟩ = some (.int .u64 Y1) := fun n => Fq.gkeep (hG n) qy.1
  have cc1 : ∀ n, (G n).cell? ⟨by9, 1, none⟩ = some (.int .u64 Y2) := fun n => Fq.gkeep (hG n) qy.2.1
  repeat (go_big_quiet_step (first | (go_at_call 50; exact (rempty9_ _).mono (fun e w' h => ⟨h.1, hall _ (Fq.gtrans (hG _) h.2)⟩))))
  refine wpQuiet_nil ?_
  rintro _ ⟨nq, rfl⟩
  have gq : Kp W (G nq) := hG nq
  clear cc0 cc1 hall hG
  replace s2 := H6.keep s2 gq
  replace qy := Fq.H2.keep qy gq
  replace qz := Fq.H2.keep qz gq
  replace kW := Kp.trans kW gq
  generalize G nq = W at s2 qy qz kW ⊢
  clear gq
  obtain ⟨⟨p0, p1, p2, p3⟩, ⟨p4, p5, p6, p7⟩, ⟨p8, p9, pa, pb⟩⟩ := id s2
  obtain ⟨y0, y1, y2, y3⟩ := id qy
  obtain ⟨z0, z1, z2, z3⟩ := id qz
  go_upto_region 12 with (first | (go_at_call_of 51 (Value.int .u64 Y1); refine (hp1 _).mono ?_; rintro e wp ⟨rfl, gp⟩; replace s2 := H6.keep s2 gp; replace qy := Fq.H2.keep qy gp; replace qz := Fq.H2.keep qz gp; replace kW := Kp.trans kW gp; clear gp p0 p1 p2 p3 p4 p5 p6 p7 p8 p9 pa pb y0 y1 y2 y3 z0 z1 z2 z3; obtain ⟨⟨p0, p1, p2, p3⟩, ⟨p4, p5, p6, p7⟩, ⟨p8, p9, pa, pb⟩⟩ := id s2; obtain ⟨y0, y1, y2, y3⟩ := id qy; obtain ⟨z0, z1, z2, z3⟩ := id qz) | (go_at_call_of 51 (Value.int .u64 Y2); refine (hp2 _).mono ?_; rintro e wp ⟨rfl, gp⟩; replace s2 := H6.keep s2 gp; replace qy := Fq.H2.keep qy gp; replace qz := Fq.H2.keep qz gp; replace kW := Kp.trans kW gp; clear gp p0 p1 p2 p3 p4 p5 p6 p7 p8 p9 pa pb y0 y1 y2 y3 z0 z1 z2 z3; obtain ⟨⟨p0, p1, p2, p3⟩, ⟨p4, p5, p6, p7⟩, ⟨p8, p9, pa, pb⟩⟩ := id s2; obtain ⟨y0, y1, y2, y3⟩ := id qy; obtain ⟨z0, z1, z2, z3⟩ := id qz) | (go_at_call 52; refine (hm _).mono ?_; rintro e wp ⟨rfl, gp⟩; replace s2 := H6.keep s2 gp; replace qy := Fq.H2.keep qy gp; replace qz := Fq.H2.keep qz gp; replace kW := Kp.trans kW gp; clear gp p0 p1 p2 p3 p4 p5 p6 p7 p8 p9 pa pb y0 y1 y2 y3 z0 z1 z2 z3; obtain ⟨⟨p0, p1, p2, p3⟩, ⟨p4, p5, p6, p7⟩, ⟨p8, p9, pa, pb⟩⟩ := id s2; obtain ⟨y0, y1, y2, y3⟩ := id qy; obtain ⟨z0, z1, z2, z3⟩ := id qz) | (go_at_call_of 33 (Value.int .u64 Y1); refine (i1 _).mono ?_; rintro e wq ⟨rfl, hwq⟩; obtain rfl := hwq.symm; clear hwq) | (go_at_call_of 33 (Value.int .u64 Y2); refine (i2 _).mono ?_; rintro e wq ⟨rfl, hwq⟩; obtain rfl := hwq.symm; clear hwq) | (go_at_call 54; refine (hh _).mono ?_; rintro e wq ⟨rfl, hwq⟩; obtain rfl := hwq.symm; clear hwq) | (go_at_call 53; refine (ha _).mono ?_; rintro e wp ⟨rfl, gp⟩; replace s2 := H6.keep s2 gp; replace qy := Fq.H2.keep qy gp; replace qz := Fq.H2.keep qz gp; replace kW := Kp.trans kW gp; clear gp p0 p1 p2 p3 p4 p5 p6 p7 p8 p9 pa pb y0 y1 y2 y3 z0 z1 z2 z3; obtain ⟨⟨p0, p1, p2, p3⟩, ⟨p4, p5, p6, p7⟩, ⟨p8, p9, pa, pb⟩⟩ := id s2; obtain ⟨y0, y1, y2, y3⟩ := id qy; obtain ⟨z0, z1, z2, z3⟩ := id qz))
  go_region
  all_goals (
    go_wp2
    exact bodyPost_ret (v := .tuple #[.agg #[.int .u64 Y1, .int .u64 C], .agg #[.int .u64 C, .int .u64 Y2], .bool true]) (by simp [results, Try.results28, go_sem, p4, p5, p8, p9]) rfl ⟨rfl, (by repeat (with_reducible (first | assumption | exact Kp.refl _ | apply Kp.drew | apply Kp.alloc | apply Kp.drewN | (refine Kp.setCell ?_ (by first | omega | (simp <;> omega)) _) | (refine Kp.trans ?_ (by assumption)))))⟩)
set_option maxRecDepth 20000 in
set_option maxHeartbeats 4000000 in
theorem rbisH_ (X1 X2 Y1 Y2 p q : Int) (bp : -9218868437227405312 ≤ p ∧ p ≤ 9218868437227405312) (bq : -9218868437227405312 ≤ q ∧ q ≤ 9218868437227405312) (hr : ∀ w : World, Calls Try.prog 29 #[.agg #[.int .u64 X1, .int .u64 X2]] w fun e w' => e = .returned (.agg #[.int .u64 Y1, .int .u64 Y2]) ∧ Kp w w') (t1 : (Y1 == 9218868437227405312) = false) (hp1 : ∀ w : World, Calls Try.prog 51 #[.bool true, .int .u64 Y1] w fun e w' => e = .returned (.tuple #[.int .i64 p, .bool true]) ∧ Kp w w') (hp2 : ∀ w : World, Calls Try.prog 51 #[.bool true, .int .u64 Y2] w fun e w' => e = .returned (.tuple #[.int .i64 q, .bool true]) ∧ Kp w w') (hq : p + 1 < q) (C : Int) (R D : Int) (hh : ∀ w : World, Calls Try.prog 54 #[.int .i64 p, .int .i64 q] w fun e w' => e = .returned (.int .i64 R) ∧ w' = w) (ha : ∀ w : World, Calls Try.prog 53 #[.bool true, .int .i64 R] w fun e w' => e = .returned (.tuple #[.int .u64 C, .bool true]) ∧ Kp w w') (hm : ∀ w : World, Calls Try.prog 52 #[.agg #[.int .u64 Y1, .int .u64 Y2]] w fun e w' => e = .returned (.int .u64 D) ∧ Kp w w') (i1 : ∀ w : World, Calls Try.prog 33 #[.int .u64 Y1] w fun e w' => e = .returned (.bool false) ∧ w' = w) (i2 : ∀ w : World, Calls Try.prog 33 #[.int .u64 Y2] w fun e w' => e = .returned (.bool true) ∧ w' = w) (w : World) : Calls Try.prog 28 #[.agg #[.int .u64 X1, .int .u64 X2]] w fun e w' => e = .returned (.tuple #[.agg #[.int .u64 Y1, .int .u64 C], .agg #[.int .u64 C, .int .u64 Y2], .bool true]) ∧ Kp w w' := by
  have w1 : wrap64 (p + 1) = p + 1 := by unfold wrap64; omega
  have w2 : wrap64 (2 + p) = 2 + p := by unfold wrap64; omega
  have c1 : ¬ (q ≤ p + 1) := by omega
  have c2 : ¬ (q < 2 + p) := by omega
  clear bp bq hq
  go_enter Try.func28, Try.ntmps28
  go_upto_region 3 with (first | (go_at_call 29; refine (hr _).mono ?_; rintro e w1 ⟨rfl, g1⟩; have k1 : Kp w w1 := Kp.trans ((((Kp.refl w).alloc _).alloc _).alloc _) g1; have s1 := H6.keep (H6.new w (.int .u64 X1) (.int .u64 X2) (.int .u64 0) (.int .u64 0) (.int .u64 0) (.int .u64 0) 38 38 38) g1))
  have s2 := H6.keep s1 (((Kp.refl w1).alloc (.cells #[.int .u64 Y1, .int .u64 Y2] 38)).alloc (.cells #[.int .u64 0, .int .u64 0] 38))
  have qy : Fq.H2 ((w1.alloc (.cells #[.int .u64 Y1, .int .u64 Y2] 38)).alloc (.cells #[.int .u64 0, .int .u64 0] 38)) w1.heap.size (.int .u64 Y1) (.int .u64 Y2) := Fq.H2.past (Fq.H2.new w1 _ _ 38) _ _
  have qz : Fq.H2 ((w1.alloc (.cells #[.int .u64 Y1, .int .u64 Y2] 38)).alloc (.cells #[.int .u64 0, .int .u64 0] 38)) (w1.heap.size + 1) (.int .u64 0) (.int .u64 0) := Fq.H2.two0 w1 _ _ _ _ _ _
  have kW : Kp w ((w1.alloc (.cells #[.int .u64 Y1, .int .u64 Y2] 38)).alloc (.cells #[.int .u64 0, .int .u64 0] 38)) := (k1.alloc _).alloc _
  have hlt : w.heap.size + 2 < w1.heap.size := cell_lt s1.2.2.1
  generalize hW : ((w1.alloc (.cells #[.int .u64 Y1, .int .u64 Y2] 38)).alloc (.cells #[.int .u64 0, .int .u64 0] 38)) = W at s2 qy qz kW ⊢
  generalize w1.heap.size = by9 at qy qz hlt ⊢
  have n1 : w.heap.size + 1 ≠ by9 := by omega
  have n2 : w.heap.size + 2 ≠ by9 := by omega
  have n3 : w.heap.size + 1 ≠ by9 + 1 := by omega
  have n4 : w.heap.size + 2 ≠ by9 + 1 := by omega
  clear hW s1 k1 g1
  refine Fq.wp_region_grow (by kernel_rfl) (by kernel_rfl) (fun ι _ G hG hall => ?_)
  have cc0 : ∀ n, (G n).cell? ⟨by9, 0, none⟩ = some (.int .u64 Y1) := fun n => Fq.gkeep (hG n) qy.1
  have cc1 : ∀ n, (G n).cell? ⟨by9, 1, none⟩ = some (.int .u64 Y2) := fun n => Fq.gkeep (hG n) qy.2.1
  repeat (go_big_quiet_step (first | (go_at_call 50; exact (rempty9_ _).mono (fun e w' h => ⟨h.1, hall _ (Fq.gtrans (hG _) h.2)⟩))))
  refine wpQuiet_nil ?_
  rintro _ ⟨nq, rfl⟩
  have gq : Kp W (G nq) := hG nq
  clear cc0 cc1 hall hG
  replace s2 := H6.keep s2 gq
  replace qy := Fq.H2.keep qy gq
  replace qz := Fq.H2.keep qz gq
  replace kW := Kp.trans kW gq
  generalize G nq = W at s2 qy qz kW ⊢
  clear gq
  obtain ⟨⟨p0, p1, p2, p3⟩, ⟨p4, p5, p6, p7⟩, ⟨p8, p9, pa, pb⟩⟩ := id s2
  obtain ⟨y0, y1, y2, y3⟩ := id qy
  obtain ⟨z0, z1, z2, z3⟩ := id qz
  go_upto_region 12 with (first | (go_at_call_of 51 (Value.int .u64 Y1); refine (hp1 _).mono ?_; rintro e wp ⟨rfl, gp⟩; replace s2 := H6.keep s2 gp; replace qy := Fq.H2.keep qy gp; replace qz := Fq.H2.keep qz gp; replace kW := Kp.trans kW gp; clear gp p0 p1 p2 p3 p4 p5 p6 p7 p8 p9 pa pb y0 y1 y2 y3 z0 z1 z2 z3; obtain ⟨⟨p0, p1, p2, p3⟩, ⟨p4, p5, p6, p7⟩, ⟨p8, p9, pa, pb⟩⟩ := id s2; obtain ⟨y0, y1, y2, y3⟩ := id qy; obtain ⟨z0, z1, z2, z3⟩ := id qz) | (go_at_call_of 51 (Value.int .u64 Y2); refine (hp2 _).mono ?_; rintro e wp ⟨rfl, gp⟩; replace s2 := H6.keep s2 gp; replace qy := Fq.H2.keep qy gp; replace qz := Fq.H2.keep qz gp; replace kW := Kp.trans kW gp; clear gp p0 p1 p2 p3 p4 p5 p6 p7 p8 p9 pa pb y0 y1 y2 y3 z0 z1 z2 z3; obtain ⟨⟨p0, p1, p2, p3⟩, ⟨p4, p5, p6, p7⟩, ⟨p8, p9, pa, pb⟩⟩ := id s2; obtain ⟨y0, y1, y2, y3⟩ := id qy; obtain ⟨z0, z1, z2, z3⟩ := id qz) | (go_at_call 52; refine (hm _).mono ?_; rintro e wp ⟨rfl, gp⟩; replace s2 := H6.keep s2 gp; replace qy := Fq.H2.keep qy gp; replace qz := Fq.H2.keep qz gp; replace kW := Kp.trans kW gp; clear gp p0 p1 p2 p3 p4 p5 p6 p7 p8 p9 pa pb y0 y1 y2 y3 z0 z1 z2 z3; obtain ⟨⟨p0, p1, p2, p3⟩, ⟨p4, p5, p6, p7⟩, ⟨p8, p9, pa, pb⟩⟩ := id s2; obtain ⟨y0, y1, y2, y3⟩ := id qy; obtain ⟨z0, z1, z2, z3⟩ := id qz) | (go_at_call_of 33 (Value.int .u64 Y1); refine (i1 _).mono ?_; rintro e wq ⟨rfl, hwq⟩; obtain rfl := hwq.symm; clear hwq) | (go_at_call_of 33 (Value.int .u64 Y2); refine (i2 _).mono ?_; rintro e wq ⟨rfl, hwq⟩; obtain rfl := hwq.symm; clear hwq) | (go_at_call 54; refine (hh _).mono ?_; rintro e wq ⟨rfl, hwq⟩; obtain rfl := hwq.symm; clear hwq) | (go_at_call 53; refine (ha _).mono ?_; rintro e wp ⟨rfl, gp⟩; replace s2 := H6.keep s2 gp; replace qy := Fq.H2.keep qy gp; replace qz := Fq.H2.keep qz gp; replace kW := Kp.trans kW gp; clear gp p0 p1 p2 p3 p4 p5 p6 p7 p8 p9 pa pb y0 y1 y2 y3 z0 z1 z2 z3; obtain ⟨⟨p0, p1, p2, p3⟩, ⟨p4, p5, p6, p7⟩, ⟨p8, p9, pa, pb⟩⟩ := id s2; obtain ⟨y0, y1, y2, y3⟩ := id qy; obtain ⟨z0, z1, z2, z3⟩ := id qz))
  go_region
  all_goals (
    go_wp2
    exact bodyPost_ret (v := .tuple #[.agg #[.int .u64 Y1, .int .u64 C], .agg #[.int .u64 C, .int .u64 Y2], .bool true]) (by simp [results, Try.results28, go_sem, p4, p5, p8, p9]) rfl ⟨rfl, (by repeat (with_reducible (first | assumption | exact Kp.refl _ | apply Kp.drew | apply Kp.alloc | apply Kp.drewN | (refine Kp.setCell ?_ (by first | omega | (simp <;> omega)) _) | (refine Kp.trans ?_ (by assumption)))))⟩)
end Go.Proofs.Ytnjbheammpdjfaa
