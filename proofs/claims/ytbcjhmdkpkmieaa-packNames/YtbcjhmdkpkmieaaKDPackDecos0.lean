import Derived.Test.YtbcjhmdkpkmieaaKPKs
import Derived.Test.YtbcjhmdkpkmieaaKPKq
import Derived.Test.YtbcjhmdkpkmieaaKDCd
import Derived.Test.YtbcjhmdkpkmieaaKDPackPuts0
import Derived.WalkKit
import Derived.ProofKit
import Derived.RowKit3
import Derived.WalkSpells
import Derived.StillTactics
import Derived.Deep.QuietTactic
import Derived.BigQuiet
import Derived.Below
import Derived.Deep.OwnRows
import Derived.OwnWalk
import Derived.Lib.BitFns
import Derived.Deep.RegionHeld3
import Derived.Deep.CutRange
import Derived.Deep.DeepCutAuto
import Derived.Laws.FloatArith
namespace Go.Proofs.Ytbcjhmdkpkmieaa
open Go.RowKit
set_option maxRecDepth 20000 in
set_option maxHeartbeats 1000000 in
theorem dinA_ (X1 X2 D : Int) (A1 A2 : Nat) (hin : ∀ w : World, Calls Try.prog 17 #[.agg #[.int .u64 X1, .int .u64 X2]] w fun e w' => e = .returned (.agg #[.float .f64 A1, .float .f64 A2]) ∧ Kp w w') (w : World) : Calls Try.prog 19 #[.agg #[.int .u64 X1, .int .u64 X2, .int .i64 D]] w fun e w' => e = .returned (.agg #[.float .f64 A1, .float .f64 A2, .int .i64 D]) ∧ Kp w w' := by
  go_enter Try.func19, Try.ntmps19
  go_wp2
  go_region_held3 (fun w' => w'.cell? ⟨w.heap.size, 0, none⟩ = some (.int .u64 X1) ∧ w'.cell? ⟨w.heap.size, 1, none⟩ = some (.int .u64 X2) ∧ w'.cell? ⟨w.heap.size, 2, none⟩ = some (.int .i64 D)) (first | (with_reducible exact ⟨x0, x1, x2⟩) | (simp [go_sem, x0, x1, x2]; done) | (simp [go_sem])) (first | (go_at_call 17; refine (hin _).mono ?_; rintro e w1 ⟨rfl, g1⟩; have k1 : Kp w w1 := Kp.trans ((((Kp.refl w).alloc _).alloc _).drew) g1; obtain ⟨x0, x1, x2, x3, x4, x5⟩ := H3c.keep (H3c.keep (H3c.keep (H3c.new w (.int .u64 X1) (.int .u64 X2) (.int .i64 D) 47) ((Kp.refl _).alloc (.cells #[.float .f64 0, .float .f64 0, .int .i64 0] 31))) (Kp.drew (Kp.refl _))) g1; obtain ⟨r0, r1, r2, r3, r4, r5⟩ := H3c.keep (H3c.keep (H3c.two w #[.int .u64 X1, .int .u64 X2, .int .i64 D] (.float .f64 0) (.float .f64 0) (.int .i64 0) 47 31) (Kp.drew (Kp.refl _))) g1))
  go_wp2
  exact bodyPost_ret (v := .agg #[.float .f64 A1, .float .f64 A2, .int .i64 D]) (by simp [results, Try.results19, go_sem, r0, r1, r2]) rfl ⟨rfl, (((k1.setCell (by simp) _).setCell (by simp) _).setCell (by simp) _)⟩
theorem din_ (a b : Nat) (D : Int) (w : World) : Calls Try.prog 19 #[.agg #[.int .u64 ((a : Nat) : Int), .int .u64 ((b : Nat) : Int), .int .i64 D]] w fun e w' => e = .returned (.agg #[.float .f64 a, .float .f64 b, .int .i64 D]) ∧ Kp w w' := dinA_ _ _ D a b (in9_ a b) w
end Go.Proofs.Ytbcjhmdkpkmieaa
namespace Go.Proofs.Ytbcjhmdkpkmieaa
open Go.RowKit
open Go
namespace B8
theorem getD_end8 (xs : List Int) (R : Int) (j : Nat) : (xs ++ [R]).getD j 0 = if j < xs.length then xs.getD j 0 else if j = xs.length then R else 0 := by
  by_cases c : j < xs.length
  · rw [if_pos c]; simp [List.getD, List.getElem?_append, c]
  · rw [if_neg c]
    by_cases d : j = xs.length
    · rw [if_pos d]; simp [List.getD, d]
    · rw [if_neg d]; simp [List.getD, List.getElem?_append, c, show ¬ j - xs.length = 0 from by omega]
set_option maxRecDepth 20000 in
set_option maxHeartbeats 1000000 in
theorem putdecoA_ (a b L H : Nat) (D R : Int) (xs : List Int) (hxs : xs.length = 16) (hR0 : 0 ≤ R) (hR1 : R < 256) (hr : ∀ w : World, Calls Try.prog 36 #[.agg #[.float .f64 a, .float .f64 b, .int .i64 D]] w fun e w' => e = .returned (.agg #[.float .f64 L, .float .f64 H, .int .i64 R]) ∧ Kp w w') (hp : ∀ w : World, Calls Try.prog 11 #[.agg #[.float .f64 L, .float .f64 H]] w fun e w' => ∃ g, e = .returned (.slice (some ⟨g, 0, none⟩) 16 16) ∧ w.heap.size ≤ g ∧ Rw w' g 16 xs ∧ Kp w w') (w : World) : Calls Try.prog 12 #[.agg #[.float .f64 a, .float .f64 b, .int .i64 D]] w fun e w' => ∃ g, e = .returned (.slice (some ⟨g, 0, none⟩) 17 17) ∧ w.heap.size ≤ g ∧ Rw w' g 17 (xs ++ [R]) ∧ Kp w w' := by
  have hmk : ∀ w : World, (Instr.makeSlice 22 (.int .i64 17) (.int .i64 17)).run Try.prog w = .ok (.slice (some ⟨w.heap.size, 0, none⟩) 17 17) (w.alloc (.cells (madeCells #[.int .u8 0] 17) 5)) := mk8 17 (by decide)
  go_enter Try.func12, Try.ntmps12
  go_upto_region 3 with (first | (go_at_call 36; refine (hr _).mono ?_; rintro e w1 ⟨rfl, g1⟩; have q0 := H3c.keep (H3c.new w (.float .f64 a) (.float .f64 b) (.int .i64 D) 31) g1; have kw : Kp w w1 := Kp.trans ((Kp.refl w).alloc _) g1; obtain ⟨x0, x1, x2, x3, x4, x5⟩ := id q0))
  have qx := H3c.put q0 (.float .f64 L) (.float .f64 H) (.int .i64 R)
  have kv : Kp w (((w1.setCell ⟨w.heap.size, 0, none⟩ (.float .f64 L)).setCell ⟨w.heap.size, 1, none⟩ (.float .f64 H)).setCell ⟨w.heap.size, 2, none⟩ (.int .i64 R)) := ((kw.setCell (Nat.le_refl _) _).setCell (Nat.le_refl _) _).setCell (Nat.le_refl _) _
  obtain ⟨W1, hW1⟩ : ∃ W1, W1 = ((w1.setCell ⟨w.heap.size, 0, none⟩ (.float .f64 L)).setCell ⟨w.heap.size, 1, none⟩ (.float .f64 H)).setCell ⟨w.heap.size, 2, none⟩ (.int .i64 R) := ⟨_, rfl⟩
  have hsz : W1.heap.size = w1.heap.size := by rw [hW1]; simp
  rw [← hW1] at qx kv ⊢
  obtain ⟨z0, z1, z2, -, -, -⟩ := id qx
  have hr0 := World.rowIs_made W1 (.int .u8 0) 17 5
  have hk0 : Kp W1 (W1.alloc (.cells (madeCells #[.int .u8 0] 17) 5)) := (Kp.refl W1).alloc _
  obtain ⟨G, hG⟩ : ∃ G, G = w1.heap.size := ⟨_, rfl⟩
  have hGe : W1.heap.size ≤ G := by omega
  rw [hsz, ← hG] at hr0
  rw [← hG]
  have hwG : w.heap.size ≤ G := Nat.le_trans (Below.size kv) hGe
  generalize W1.alloc (.cells (madeCells #[.int .u8 0] 17) 5) = W2 at hr0 hk0 ⊢
  obtain ⟨B, hB⟩ : ∃ B, B = w.heap.size := ⟨_, rfl⟩
  rw [← hB] at z0 z1 z2 ⊢
  have HWB : Hid (w.heap.size ≤ G) := hwG
  have HC1 : ∀ w : World, Calls Try.prog 35 #[.slice (some ⟨G, 0, none⟩) 17 17, .int .i64 0, .int .i64 16] w fun e w' => e = .returned (.slice (some ⟨G, 0, none⟩) 16 16) ∧ w' = w := cut_ G 0 17 17 0 16 (by decide) (by decide) (by decide)
  clear hW1 hsz hG x0 x1 x2 x3 x4 x5 q0 g1 kw hwG hB hr hmk qx
  go_region_held3 (fun w' => w'.cell? ⟨B, 0, none⟩ = some (.float .f64 L) ∧ w'.cell? ⟨B, 1, none⟩ = some (.float .f64 H) ∧ w'.cell? ⟨B, 2, none⟩ = some (.int .i64 R)) (refine ⟨kkeep (W := W1) ?_ z0, kkeep (W := W1) ?_ z1, kkeep (W := W1) ?_ z2⟩ <;> ((repeat (first | with_reducible exact ka3 | with_reducible exact ka2 | with_reducible exact hk0 | with_reducible exact Kp.refl _ | with_reducible refine Kp.drew ?_)); done)) (first | (go_at_call 11; refine (hp _).mono ?_; rintro e v2 ⟨g, rfl, hg, hR, k2⟩; have ka2 : Kp W1 v2 := Kp.trans ?qa k2; (case qa => ((repeat (first | with_reducible exact ka3 | with_reducible exact ka2 | with_reducible exact hk0 | with_reducible exact Kp.refl _ | with_reducible refine Kp.drew ?_)); done)); have kb2 : Kp W2 v2 := Kp.trans ?qb k2; (case qb => first | exact Kp.refl _ | exact (Kp.refl _).drew); obtain ⟨v3, hcp, hr3, hk3⟩ := copy8 v2 G 17 0 16 16 16 (some ⟨g, 0, none⟩) xs _ (rowIs_grown hr0 kb2) (arr_all hR hxs) hxs (by decide); have ka3 : Kp W1 v3 := hk3 W1 hGe ka2) | (go_at_call 35; refine (HC1 _).mono ?_; rintro e w' ⟨rfl, rfl⟩))
  have e16 := hr3.cell (i := 16) (by decide)
  have f16 := hr3.frozen 16
  have y2 := kkeep ka3 z2
  have hcv : R % 256 = R := by omega
  have hR : Rw (v3.setCell ⟨G, 16, none⟩ (.int .u8 R)) G 17 (xs ++ [R]) := World.rowIs.congr (hr3.set 16 (.int .u8 R)) (fun j hj => by
    rw [getD_end8, hxs]
    by_cases c : j = 16
    · rw [if_pos c, if_neg (by omega), if_pos c]
    · rw [if_neg c, if_pos ⟨Nat.zero_le _, by omega⟩, if_pos (by omega)]; rfl)
  have hK : Kp w (v3.setCell ⟨G, 16, none⟩ (.int .u8 R)) := (Kp.trans kv ka3).setCell HWB.out _
  clear hr3 ka3 ka2 kb2 k2 hk3 hr0 hk0 z0 z1 z2 hcp
  go_wp2
  have hle := HWB.out
  exact bodyPost_ret (v := .slice (some ⟨G, 0, none⟩) 17 17) (by simp [results, Try.results12, go_sem]) rfl ⟨G, rfl, hle, hR, hK⟩
end B8
end Go.Proofs.Ytbcjhmdkpkmieaa
namespace Go.Proofs.Ytbcjhmdkpkmieaa
open Go.RowKit
open Go
namespace B8
set_option maxRecDepth 20000 in
set_option maxHeartbeats 1000000 in
theorem rplain_ (X Y : Int) (E1 E2 : Bool) (t1 : (X == 9223372036854775808) = E1) (t2 : (Y == 9223372036854775808) = E2) (w : World) : Calls Try.prog 62 #[.agg #[.int .u64 X, .int .u64 Y]] w fun e w' => e = .returned (.agg #[.int .u64 (if E1 then 0 else X), .int .u64 (if E2 then 0 else Y)]) ∧ Kp w w' := by
  cases E1 <;> cases E2
  all_goals (
    go_enter Try.func62, Try.ntmps62
    go_wp2
    exact bodyPost_ret (v := .agg #[.int .u64 _, .int .u64 _]) (by simp [results, Try.results62, go_sem]) rfl ⟨rfl, (by repeat (with_reducible (first | assumption | exact Kp.refl _ | apply Kp.drew | apply Kp.alloc | apply Kp.drewN | (refine Kp.setCell ?_ (by first | omega | (simp <;> omega)) _) | (refine Kp.trans ?_ (by assumption)))))⟩)
end B8
end Go.Proofs.Ytbcjhmdkpkmieaa
namespace Go.Proofs.Ytbcjhmdkpkmieaa
open Go.RowKit
open Go
namespace B8
set_option maxRecDepth 20000 in
set_option maxHeartbeats 2000000 in
theorem rreadA_ (X Y P Q D : Int) (hpl : ∀ w : World, Calls Try.prog 62 #[.agg #[.int .u64 X, .int .u64 Y]] w fun e w' => e = .returned (.agg #[.int .u64 P, .int .u64 Q]) ∧ Kp w w') (hv : ∀ w : World, Calls Try.prog 45 #[.agg #[.int .u64 P, .int .u64 Q]] w fun e w' => e = .returned (.bool false) ∧ Kp w w') (w : World) : Calls Try.prog 42 #[.agg #[.int .u64 X, .int .u64 Y, .int .i64 D]] w fun e w' => e = .returned (.agg #[.int .u64 9218868437227405312, .int .u64 18442240474082181120, .int .i64 0]) ∧ Kp w w' := by
  go_enter Try.func42, Try.ntmps42
  go_upto_region 1 with fail
  have sx : H3c ((w.alloc (.cells #[.int .u64 X, .int .u64 Y, .int .i64 D] 47)).alloc (.cells #[.int .u64 0, .int .u64 0, .int .i64 0] 47)) w.heap.size (.int .u64 X) (.int .u64 Y) (.int .i64 D) := H3c.keep (H3c.new w (.int .u64 X) (.int .u64 Y) (.int .i64 D) 47) ((Kp.refl _).alloc _)
  have sr := H3c.two w #[.int .u64 X, .int .u64 Y, .int .i64 D] (.int .u64 0) (.int .u64 0) (.int .i64 0) 47 47
  have kw : Kp w ((w.alloc (.cells #[.int .u64 X, .int .u64 Y, .int .i64 D] 47)).alloc (.cells #[.int .u64 0, .int .u64 0, .int .i64 0] 47)) := ((Kp.refl w).alloc _).alloc _
  have hsw : w.heap.size + 1 < ((w.alloc (.cells #[.int .u64 X, .int .u64 Y, .int .i64 D] 47)).alloc (.cells #[.int .u64 0, .int .u64 0, .int .i64 0] 47)).heap.size := by simp
  generalize (w.alloc (.cells #[.int .u64 X, .int .u64 Y, .int .i64 D] 47)).alloc (.cells #[.int .u64 0, .int .u64 0, .int .i64 0] 47) = W at sx sr kw hsw ⊢
  obtain ⟨x0, x1, x2, x3, x4, x5⟩ := id sx
  obtain ⟨r0, r1, r2, r3, r4, r5⟩ := id sr
  go_cut [3] (fun s3 wx => ∃ g : Nat, s3 = .pointer (some ⟨g, 0, none⟩) ∧ H3c wx g (.int .u64 P) (.int .u64 Q) (.int .i64 D) ∧ Kp W wx ∧ W.heap.size ≤ g)
  case first =>
    go_region_held3 (fun w' => w'.cell? ⟨w.heap.size, 0, none⟩ = some (.int .u64 X) ∧ w'.cell? ⟨w.heap.size, 1, none⟩ = some (.int .u64 Y) ∧ w'.cell? ⟨w.heap.size, 2, none⟩ = some (.int .i64 D)) (first | (with_reducible exact ⟨x0, x1, x2⟩) | (with_reducible exact ⟨cb0_0, cb0_1, cb0_2⟩) | (refine ⟨(kkeep (W := W) ?_ x0), (kkeep (W := W) ?_ x1), (kkeep (W := W) ?_ x2)⟩ <;> ((repeat (first | with_reducible exact Kp.refl _ | with_reducible apply Kp.drew | with_reducible apply Kp.alloc)); done)) | (refine ⟨(kkeep (W := w1) ?_ cb0_0), (kkeep (W := w1) ?_ cb0_1), (kkeep (W := w1) ?_ cb0_2)⟩ <;> ((repeat (first | with_reducible exact Kp.refl _ | with_reducible apply Kp.drew | with_reducible apply Kp.alloc)); done)) | (refine ⟨?_, ?_, ?_⟩ <;> (refine ((World.cell?_setCell_far _ _ _ _ ?_).trans ((World.cell?_setCell_far _ _ _ _ ?_).trans ((World.cell?_setCell_far _ _ _ _ ?_).trans ?_))) <;> first | assumption | (have h90 := cell_lt x0; have h91 := cell_lt x1; have h92 := cell_lt x2; have h80 := Below.size KB0; first | omega | (simp <;> omega))))) (first | (go_at_call 62; refine (hpl _).mono ?_; rintro e w1 ⟨rfl, g1⟩; have KB0 : Kp W w1 := Kp.trans (by (repeat (first | exact Kp.refl _ | apply Kp.drew | apply Kp.alloc)); done) g1; have cb0_0 := kkeep KB0 x0; have cb0_1 := kkeep KB0 x1; have cb0_2 := kkeep KB0 x2; first | ((with_reducible have hb9 := (H3c.keep (H3c.newD W (.int .u64 0) (.int .u64 0) (.int .i64 0) 47) g1)); obtain ⟨mb0, mb1, mb2, mb3, mb4, mb5⟩ := id hb9) | skip))
    all_goals go_wp2_with fail
    all_goals (
      go_meet
      refine ⟨_, rfl, ?_, ?_, ?_⟩
      · first | (with_reducible exact H3c.put hb9 _ _ _) | (with_reducible exact H3c.put (H3c.new w1 (.int .u64 0) (.int .u64 0) (.int .i64 0) 47) _ _ _) | (with_reducible exact H3c.new w1 _ _ _ 47) | (unfold H3c; simp [go_sem]; done)
      · have h80 := Below.size KB0
        first | (with_reducible exact (Kp.alloc KB0 _)) | ((with_reducible refine (Kp.setCell (Kp.setCell (Kp.setCell KB0 ?_ _) ?_ _) ?_ _)) <;> first | omega | (simp <;> omega)) | ((with_reducible refine (Kp.setCell (Kp.setCell (Kp.setCell (Kp.alloc KB0 _) ?_ _) ?_ _) ?_ _)) <;> first | omega | (simp <;> omega))
      · have h80 := Below.size KB0
        first | exact Nat.le_refl _ | omega | (simp <;> omega))
  case rest =>
  obtain ⟨g3, rfl, q3, gc, hg9⟩ := hcut
  replace kw := Kp.trans kw gc
  replace sx := H3c.keep sx gc
  replace sr := H3c.keep sr gc
  clear x0 x1 x2 x3 x4 x5 r0 r1 r2 r3 r4 r5
  obtain ⟨x0, x1, x2, x3, x4, x5⟩ := id sx
  obtain ⟨r0, r1, r2, r3, r4, r5⟩ := id sr
  obtain ⟨y0, y1, y2, y3, y4, y5⟩ := id q3
  have hne : g3 ≠ w.heap.size + 1 := by omega
  have hne2 : w.heap.size + 1 ≠ g3 := by omega
  have hwg : w.heap.size ≤ g3 := by omega
  clear hg9 hsw
  go_wp2_with (first | (go_at_call 45; refine (hv _).mono ?_; rintro e w2 ⟨rfl, g2⟩; replace kw := Kp.trans kw g2; replace sx := H3c.keep sx g2; replace sr := H3c.keep sr g2; replace q3 := H3c.keep q3 g2; clear x0 x1 x2 x3 x4 x5 r0 r1 r2 r3 r4 r5 y0 y1 y2 y3 y4 y5; obtain ⟨x0, x1, x2, x3, x4, x5⟩ := id sx; obtain ⟨r0, r1, r2, r3, r4, r5⟩ := id sr; obtain ⟨y0, y1, y2, y3, y4, y5⟩ := id q3) | (go_at_call 63; refine (rnai13_ _).mono ?_; rintro e w3 ⟨rfl, g3'⟩; replace kw := Kp.trans kw g3'; replace sx := H3c.keep sx g3'; replace sr := H3c.keep sr g3'; replace q3 := H3c.keep q3 g3'; clear x0 x1 x2 x3 x4 x5 r0 r1 r2 r3 r4 r5 y0 y1 y2 y3 y4 y5; obtain ⟨x0, x1, x2, x3, x4, x5⟩ := id sx; obtain ⟨r0, r1, r2, r3, r4, r5⟩ := id sr; obtain ⟨y0, y1, y2, y3, y4, y5⟩ := id q3))
  exact bodyPost_ret (v := .agg #[.int .u64 9218868437227405312, .int .u64 18442240474082181120, .int .i64 0]) (by simp [results, Try.results42, go_sem, r0, r1, r2]) rfl ⟨rfl, (((kw.setCell (by simp) _).setCell (by simp) _).setCell (by simp) _)⟩
set_option maxRecDepth 20000 in
set_option maxHeartbeats 2000000 in
theorem rreadB_ (X Y P Q D : Int) (t4 : (D != 4) = true) (t8 : (D != 8) = true) (t12 : (D != 12) = true) (t16 : (D != 16) = true) (hpl : ∀ w : World, Calls Try.prog 62 #[.agg #[.int .u64 X, .int .u64 Y]] w fun e w' => e = .returned (.agg #[.int .u64 P, .int .u64 Q]) ∧ Kp w w') (hv : ∀ w : World, Calls Try.prog 45 #[.agg #[.int .u64 P, .int .u64 Q]] w fun e w' => e = .returned (.bool true) ∧ Kp w w') (w : World) : Calls Try.prog 42 #[.agg #[.int .u64 X, .int .u64 Y, .int .i64 D]] w fun e w' => e = .returned (.agg #[.int .u64 9218868437227405312, .int .u64 18442240474082181120, .int .i64 0]) ∧ Kp w w' := by
  go_enter Try.func42, Try.ntmps42
  go_upto_region 1 with fail
  have sx : H3c ((w.alloc (.cells #[.int .u64 X, .int .u64 Y, .int .i64 D] 47)).alloc (.cells #[.int .u64 0, .int .u64 0, .int .i64 0] 47)) w.heap.size (.int .u64 X) (.int .u64 Y) (.int .i64 D) := H3c.keep (H3c.new w (.int .u64 X) (.int .u64 Y) (.int .i64 D) 47) ((Kp.refl _).alloc _)
  have sr := H3c.two w #[.int .u64 X, .int .u64 Y, .int .i64 D] (.int .u64 0) (.int .u64 0) (.int .i64 0) 47 47
  have kw : Kp w ((w.alloc (.cells #[.int .u64 X, .int .u64 Y, .int .i64 D] 47)).alloc (.cells #[.int .u64 0, .int .u64 0, .int .i64 0] 47)) := ((Kp.refl w).alloc _).alloc _
  have hsw : w.heap.size + 1 < ((w.alloc (.cells #[.int .u64 X, .int .u64 Y, .int .i64 D] 47)).alloc (.cells #[.int .u64 0, .int .u64 0, .int .i64 0] 47)).heap.size := by simp
  generalize (w.alloc (.cells #[.int .u64 X, .int .u64 Y, .int .i64 D] 47)).alloc (.cells #[.int .u64 0, .int .u64 0, .int .i64 0] 47) = W at sx sr kw hsw ⊢
  obtain ⟨x0, x1, x2, x3, x4, x5⟩ := id sx
  obtain ⟨r0, r1, r2, r3, r4, r5⟩ := id sr
  go_cut [3] (fun s3 wx => ∃ g : Nat, s3 = .pointer (some ⟨g, 0, none⟩) ∧ H3c wx g (.int .u64 P) (.int .u64 Q) (.int .i64 D) ∧ Kp W wx ∧ W.heap.size ≤ g)
  case first =>
    go_region_held3 (fun w' => w'.cell? ⟨w.heap.size, 0, none⟩ = some (.int .u64 X) ∧ w'.cell? ⟨w.heap.size, 1, none⟩ = some (.int .u64 Y) ∧ w'.cell? ⟨w.heap.size, 2, none⟩ = some (.int .i64 D)) (first | (with_reducible exact ⟨x0, x1, x2⟩) | (with_reducible exact ⟨cb0_0, cb0_1, cb0_2⟩) | (refine ⟨(kkeep (W := W) ?_ x0), (kkeep (W := W) ?_ x1), (kkeep (W := W) ?_ x2)⟩ <;> ((repeat (first | with_reducible exact Kp.refl _ | with_reducible apply Kp.drew | with_reducible apply Kp.alloc)); done)) | (refine ⟨(kkeep (W := w1) ?_ cb0_0), (kkeep (W := w1) ?_ cb0_1), (kkeep (W := w1) ?_ cb0_2)⟩ <;> ((repeat (first | with_reducible exact Kp.refl _ | with_reducible apply Kp.drew | with_reducible apply Kp.alloc)); done)) | (refine ⟨?_, ?_, ?_⟩ <;> (refine ((World.cell?_setCell_far _ _ _ _ ?_).trans ((World.cell?_setCell_far _ _ _ _ ?_).trans ((World.cell?_setCell_far _ _ _ _ ?_).trans ?_))) <;> first | assumption | (have h90 := cell_lt x0; have h91 := cell_lt x1; have h92 := cell_lt x2; have h80 := Below.size KB0; first | omega | (simp <;> omega))))) (first | (go_at_call 62; refine (hpl _).mono ?_; rintro e w1 ⟨rfl, g1⟩; have KB0 : Kp W w1 := Kp.trans (by (repeat (first | exact Kp.refl _ | apply Kp.drew | apply Kp.alloc)); done) g1; have cb0_0 := kkeep KB0 x0; have cb0_1 := kkeep KB0 x1; have cb0_2 := kkeep KB0 x2; first | ((with_reducible have hb9 := (H3c.keep (H3c.newD W (.int .u64 0) (.int .u64 0) (.int .i64 0) 47) g1)); obtain ⟨mb0, mb1, mb2, mb3, mb4, mb5⟩ := id hb9) | skip))
    all_goals go_wp2_with fail
    all_goals (
      go_meet
      refine ⟨_, rfl, ?_, ?_, ?_⟩
      · first | (with_reducible exact H3c.put hb9 _ _ _) | (with_reducible exact H3c.put (H3c.new w1 (.int .u64 0) (.int .u64 0) (.int .i64 0) 47) _ _ _) | (with_reducible exact H3c.new w1 _ _ _ 47) | (unfold H3c; simp [go_sem]; done)
      · have h80 := Below.size KB0
        first | (with_reducible exact (Kp.alloc KB0 _)) | ((with_reducible refine (Kp.setCell (Kp.setCell (Kp.setCell KB0 ?_ _) ?_ _) ?_ _)) <;> first | omega | (simp <;> omega)) | ((with_reducible refine (Kp.setCell (Kp.setCell (Kp.setCell (Kp.alloc KB0 _) ?_ _) ?_ _) ?_ _)) <;> first | omega | (simp <;> omega))
      · have h80 := Below.size KB0
        first | exact Nat.le_refl _ | omega | (simp <;> omega))
  case rest =>
  obtain ⟨g3, rfl, q3, gc, hg9⟩ := hcut
  replace kw := Kp.trans kw gc
  replace sx := H3c.keep sx gc
  replace sr := H3c.keep sr gc
  clear x0 x1 x2 x3 x4 x5 r0 r1 r2 r3 r4 r5
  obtain ⟨x0, x1, x2, x3, x4, x5⟩ := id sx
  obtain ⟨r0, r1, r2, r3, r4, r5⟩ := id sr
  obtain ⟨y0, y1, y2, y3, y4, y5⟩ := id q3
  have hne : g3 ≠ w.heap.size + 1 := by omega
  have hne2 : w.heap.size + 1 ≠ g3 := by omega
  have hwg : w.heap.size ≤ g3 := by omega
  clear hg9 hsw
  go_wp2_with (first | (go_at_call 45; refine (hv _).mono ?_; rintro e w2 ⟨rfl, g2⟩; replace kw := Kp.trans kw g2; replace sx := H3c.keep sx g2; replace sr := H3c.keep sr g2; replace q3 := H3c.keep q3 g2; clear x0 x1 x2 x3 x4 x5 r0 r1 r2 r3 r4 r5 y0 y1 y2 y3 y4 y5; obtain ⟨x0, x1, x2, x3, x4, x5⟩ := id sx; obtain ⟨r0, r1, r2, r3, r4, r5⟩ := id sr; obtain ⟨y0, y1, y2, y3, y4, y5⟩ := id q3) | (go_at_call 63; refine (rnai13_ _).mono ?_; rintro e w3 ⟨rfl, g3'⟩; replace kw := Kp.trans kw g3'; replace sx := H3c.keep sx g3'; replace sr := H3c.keep sr g3'; replace q3 := H3c.keep q3 g3'; clear x0 x1 x2 x3 x4 x5 r0 r1 r2 r3 r4 r5 y0 y1 y2 y3 y4 y5; obtain ⟨x0, x1, x2, x3, x4, x5⟩ := id sx; obtain ⟨r0, r1, r2, r3, r4, r5⟩ := id sr; obtain ⟨y0, y1, y2, y3, y4, y5⟩ := id q3))
  exact bodyPost_ret (v := .agg #[.int .u64 9218868437227405312, .int .u64 18442240474082181120, .int .i64 0]) (by simp [results, Try.results42, go_sem, r0, r1, r2]) rfl ⟨rfl, (((kw.setCell (by simp) _).setCell (by simp) _).setCell (by simp) _)⟩
end B8
end Go.Proofs.Ytbcjhmdkpkmieaa
namespace Go.Proofs.Ytbcjhmdkpkmieaa
open Go.RowKit
open Go
namespace B8
set_option maxRecDepth 20000 in
set_option maxHeartbeats 2000000 in
theorem rreadE4_ (X Y P Q : Int) (t1 : (P == 9218868437227405312) = true) (t2 : (Q == 18442240474082181120) = true) (hpl : ∀ w : World, Calls Try.prog 62 #[.agg #[.int .u64 X, .int .u64 Y]] w fun e w' => e = .returned (.agg #[.int .u64 P, .int .u64 Q]) ∧ Kp w w') (hv : ∀ w : World, Calls Try.prog 45 #[.agg #[.int .u64 P, .int .u64 Q]] w fun e w' => e = .returned (.bool true) ∧ Kp w w') (w : World) : Calls Try.prog 42 #[.agg #[.int .u64 X, .int .u64 Y, .int .i64 4]] w fun e w' => e = .returned (.agg #[.int .u64 P, .int .u64 Q, .int .i64 4]) ∧ Kp w w' := by
  go_enter Try.func42, Try.ntmps42
  go_upto_region 1 with fail
  have sx : H3c ((w.alloc (.cells #[.int .u64 X, .int .u64 Y, .int .i64 4] 47)).alloc (.cells #[.int .u64 0, .int .u64 0, .int .i64 0] 47)) w.heap.size (.int .u64 X) (.int .u64 Y) (.int .i64 4) := H3c.keep (H3c.new w (.int .u64 X) (.int .u64 Y) (.int .i64 4) 47) ((Kp.refl _).alloc _)
  have sr := H3c.two w #[.int .u64 X, .int .u64 Y, .int .i64 4] (.int .u64 0) (.int .u64 0) (.int .i64 0) 47 47
  have kw : Kp w ((w.alloc (.cells #[.int .u64 X, .int .u64 Y, .int .i64 4] 47)).alloc (.cells #[.int .u64 0, .int .u64 0, .int .i64 0] 47)) := ((Kp.refl w).alloc _).alloc _
  have hsw : w.heap.size + 1 < ((w.alloc (.cells #[.int .u64 X, .int .u64 Y, .int .i64 4] 47)).alloc (.cells #[.int .u64 0, .int .u64 0, .int .i64 0] 47)).heap.size := by simp
  generalize (w.alloc (.cells #[.int .u64 X, .int .u64 Y, .int .i64 4] 47)).alloc (.cells #[.int .u64 0, .int .u64 0, .int .i64 0] 47) = W at sx sr kw hsw ⊢
  obtain ⟨x0, x1, x2, x3, x4, x5⟩ := id sx
  obtain ⟨r0, r1, r2, r3, r4, r5⟩ := id sr
  go_cut [3] (fun s3 wx => ∃ g : Nat, s3 = .pointer (some ⟨g, 0, none⟩) ∧ H3c wx g (.int .u64 P) (.int .u64 Q) (.int .i64 4) ∧ Kp W wx ∧ W.heap.size ≤ g)
  case first =>
    go_region_held3 (fun w' => w'.cell? ⟨w.heap.size, 0, none⟩ = some (.int .u64 X) ∧ w'.cell? ⟨w.heap.size, 1, none⟩ = some (.int .u64 Y) ∧ w'.cell? ⟨w.heap.size, 2, none⟩ = some (.int .i64 4)) (first | (with_reducible exact ⟨x0, x1, x2⟩) | (with_reducible exact ⟨cb0_0, cb0_1, cb0_2⟩) | (refine ⟨(kkeep (W := W) ?_ x0), (kkeep (W := W) ?_ x1), (kkeep (W := W) ?_ x2)⟩ <;> ((repeat (first | with_reducible exact Kp.refl _ | with_reducible apply Kp.drew | with_reducible apply Kp.alloc)); done)) | (refine ⟨(kkeep (W := w1) ?_ cb0_0), (kkeep (W := w1) ?_ cb0_1), (kkeep (W := w1) ?_ cb0_2)⟩ <;> ((repeat (first | with_reducible exact Kp.refl _ | with_reducible apply Kp.drew | with_reducible apply Kp.alloc)); done)) | (refine ⟨?_, ?_, ?_⟩ <;> (refine ((World.cell?_setCell_far _ _ _ _ ?_).trans ((World.cell?_setCell_far _ _ _ _ ?_).trans ((World.cell?_setCell_far _ _ _ _ ?_).trans ?_))) <;> first | assumption | (have h90 := cell_lt x0; have h91 := cell_lt x1; have h92 := cell_lt x2; have h80 := Below.size KB0; first | omega | (simp <;> omega))))) (first | (go_at_call 62; refine (hpl _).mono ?_; rintro e w1 ⟨rfl, g1⟩; have KB0 : Kp W w1 := Kp.trans (by (repeat (first | exact Kp.refl _ | apply Kp.drew | apply Kp.alloc)); done) g1; have cb0_0 := kkeep KB0 x0; have cb0_1 := kkeep KB0 x1; have cb0_2 := kkeep KB0 x2; first | ((with_reducible have hb9 := (H3c.keep (H3c.newD W (.int .u64 0) (.int .u64 0) (.int .i64 0) 47) g1)); obtain ⟨mb0, mb1, mb2, mb3, mb4, mb5⟩ := id hb9) | skip))
    all_goals go_wp2_with fail
    all_goals (
      go_meet
      refine ⟨_, rfl, ?_, ?_, ?_⟩
      · first | (with_reducible exact H3c.put hb9 _ _ _) | (with_reducible exact H3c.put (H3c.new w1 (.int .u64 0) (.int .u64 0) (.int .i64 0) 47) _ _ _) | (with_reducible exact H3c.new w1 _ _ _ 47) | (unfold H3c; simp [go_sem]; done)
      · have h80 := Below.size KB0
        first | (with_reducible exact (Kp.alloc KB0 _)) | ((with_reducible refine (Kp.setCell (Kp.setCell (Kp.setCell KB0 ?_ _) ?_ _) ?_ _)) <;> first | omega | (simp <;> omega)) | ((with_reducible refine (Kp.setCell (Kp.setCell (Kp.setCell (Kp.alloc KB0 _) ?_ _) ?_ _) ?_ _)) <;> first | omega | (simp <;> omega))
      · have h80 := Below.size KB0
        first | exact Nat.le_refl _ | omega | (simp <;> omega))
  case rest =>
  obtain ⟨g3, rfl, q3, gc, hg9⟩ := hcut
  replace kw := Kp.trans kw gc
  replace sx := H3c.keep sx gc
  replace sr := H3c.keep sr gc
  clear x0 x1 x2 x3 x4 x5 r0 r1 r2 r3 r4 r5
  obtain ⟨x0, x1, x2, x3, x4, x5⟩ := id sx
  obtain ⟨r0, r1, r2, r3, r4, r5⟩ := id sr
  obtain ⟨y0, y1, y2, y3, y4, y5⟩ := id q3
  have hne : g3 ≠ w.heap.size + 1 := by omega
  have hne2 : w.heap.size + 1 ≠ g3 := by omega
  have hwg : w.heap.size ≤ g3 := by omega
  clear hg9 hsw
  go_upto_region 4 with (first | (go_at_call 45; refine (hv _).mono ?_; rintro e w2 ⟨rfl, g2⟩; replace kw := Kp.trans kw g2; replace sx := H3c.keep sx g2; replace sr := H3c.keep sr g2; replace q3 := H3c.keep q3 g2; clear x0 x1 x2 x3 x4 x5 r0 r1 r2 r3 r4 r5 y0 y1 y2 y3 y4 y5; obtain ⟨x0, x1, x2, x3, x4, x5⟩ := id sx; obtain ⟨r0, r1, r2, r3, r4, r5⟩ := id sr; obtain ⟨y0, y1, y2, y3, y4, y5⟩ := id q3))
  refine Fq.wp_region_grow (by kernel_rfl) (by kernel_rfl) (fun ι _ G hG hall => ?_)
  have cc0 : ∀ n, (G n).cell? ⟨g3, 0, none⟩ = some (.int .u64 P) := fun n => Fq.gkeep (hG n) y0
  have cc1 : ∀ n, (G n).cell? ⟨g3, 1, none⟩ = some (.int .u64 Q) := fun n => Fq.gkeep (hG n) y1
  have cc2 : ∀ n, (G n).cell? ⟨g3, 2, none⟩ = some (.int .i64 4) := fun n => Fq.gkeep (hG n) y2
  repeat (go_big_quiet_step (first | (go_at_call 60; exact (rempty9_ _).mono (fun e w' h => ⟨h.1, hall _ (Fq.gtrans (hG _) h.2)⟩))))
  refine wpQuiet_nil ?_
  rintro _ ⟨nq, rfl⟩
  have gq : Kp w2 (G nq) := hG nq
  clear cc0 cc1 cc2 hall hG
  replace kw := Kp.trans kw gq
  replace sx := H3c.keep sx gq
  replace sr := H3c.keep sr gq
  replace q3 := H3c.keep q3 gq
  clear x0 x1 x2 x3 x4 x5 r0 r1 r2 r3 r4 r5 y0 y1 y2 y3 y4 y5
  obtain ⟨x0, x1, x2, x3, x4, x5⟩ := id sx
  obtain ⟨r0, r1, r2, r3, r4, r5⟩ := id sr
  obtain ⟨y0, y1, y2, y3, y4, y5⟩ := id q3
  go_wp2
  exact bodyPost_ret (v := .agg #[.int .u64 P, .int .u64 Q, .int .i64 4]) (by simp [results, Try.results42, go_sem, r0, r1, r2]) rfl ⟨rfl, ((((kw.setCell hwg _).setCell (by simp) _).setCell (by simp) _).setCell (by simp) _)⟩
set_option maxRecDepth 20000 in
set_option maxHeartbeats 2000000 in
theorem rreadS4_ (X Y P Q : Int) (E1 E2 : Bool) (t1 : (P == 9218868437227405312) = E1) (t2 : (Q == 18442240474082181120) = E2) (u : (E1 && E2) = false) (hpl : ∀ w : World, Calls Try.prog 62 #[.agg #[.int .u64 X, .int .u64 Y]] w fun e w' => e = .returned (.agg #[.int .u64 P, .int .u64 Q]) ∧ Kp w w') (hv : ∀ w : World, Calls Try.prog 45 #[.agg #[.int .u64 P, .int .u64 Q]] w fun e w' => e = .returned (.bool true) ∧ Kp w w')  (w : World) : Calls Try.prog 42 #[.agg #[.int .u64 X, .int .u64 Y, .int .i64 4]] w fun e w' => e = .returned (.agg #[.int .u64 P, .int .u64 Q, .int .i64 4]) ∧ Kp w w' := by
  cases E1 <;> cases E2
  case true.true => cases u
  all_goals (
    clear u
    go_enter Try.func42, Try.ntmps42
    go_upto_region 1 with fail
    have sx : H3c ((w.alloc (.cells #[.int .u64 X, .int .u64 Y, .int .i64 4] 47)).alloc (.cells #[.int .u64 0, .int .u64 0, .int .i64 0] 47)) w.heap.size (.int .u64 X) (.int .u64 Y) (.int .i64 4) := H3c.keep (H3c.new w (.int .u64 X) (.int .u64 Y) (.int .i64 4) 47) ((Kp.refl _).alloc _)
    have sr := H3c.two w #[.int .u64 X, .int .u64 Y, .int .i64 4] (.int .u64 0) (.int .u64 0) (.int .i64 0) 47 47
    have kw : Kp w ((w.alloc (.cells #[.int .u64 X, .int .u64 Y, .int .i64 4] 47)).alloc (.cells #[.int .u64 0, .int .u64 0, .int .i64 0] 47)) := ((Kp.refl w).alloc _).alloc _
    have hsw : w.heap.size + 1 < ((w.alloc (.cells #[.int .u64 X, .int .u64 Y, .int .i64 4] 47)).alloc (.cells #[.int .u64 0, .int .u64 0, .int .i64 0] 47)).heap.size := by simp
    generalize (w.alloc (.cells #[.int .u64 X, .int .u64 Y, .int .i64 4] 47)).alloc (.cells #[.int .u64 0, .int .u64 0, .int .i64 0] 47) = W at sx sr kw hsw ⊢
    obtain ⟨x0, x1, x2, x3, x4, x5⟩ := id sx
    obtain ⟨r0, r1, r2, r3, r4, r5⟩ := id sr
    go_cut [3] (fun s3 wx => ∃ g : Nat, s3 = .pointer (some ⟨g, 0, none⟩) ∧ H3c wx g (.int .u64 P) (.int .u64 Q) (.int .i64 4) ∧ Kp W wx ∧ W.heap.size ≤ g)
    case first =>
      go_region_held3 (fun w' => w'.cell? ⟨w.heap.size, 0, none⟩ = some (.int .u64 X) ∧ w'.cell? ⟨w.heap.size, 1, none⟩ = some (.int .u64 Y) ∧ w'.cell? ⟨w.heap.size, 2, none⟩ = some (.int .i64 4)) (first | (with_reducible exact ⟨x0, x1, x2⟩) | (with_reducible exact ⟨cb0_0, cb0_1, cb0_2⟩) | (refine ⟨(kkeep (W := W) ?_ x0), (kkeep (W := W) ?_ x1), (kkeep (W := W) ?_ x2)⟩ <;> ((repeat (first | with_reducible exact Kp.refl _ | with_reducible apply Kp.drew | with_reducible apply Kp.alloc)); done)) | (refine ⟨(kkeep (W := w1) ?_ cb0_0), (kkeep (W := w1) ?_ cb0_1), (kkeep (W := w1) ?_ cb0_2)⟩ <;> ((repeat (first | with_reducible exact Kp.refl _ | with_reducible apply Kp.drew | with_reducible apply Kp.alloc)); done)) | (refine ⟨?_, ?_, ?_⟩ <;> (refine ((World.cell?_setCell_far _ _ _ _ ?_).trans ((World.cell?_setCell_far _ _ _ _ ?_).trans ((World.cell?_setCell_far _ _ _ _ ?_).trans ?_))) <;> first | assumption | (have h90 := cell_lt x0; have h91 := cell_lt x1; have h92 := cell_lt x2; have h80 := Below.size KB0; first | omega | (simp <;> omega))))) (first | (go_at_call 62; refine (hpl _).mono ?_; rintro e w1 ⟨rfl, g1⟩; have KB0 : Kp W w1 := Kp.trans (by (repeat (first | exact Kp.refl _ | apply Kp.drew | apply Kp.alloc)); done) g1; have cb0_0 := kkeep KB0 x0; have cb0_1 := kkeep KB0 x1; have cb0_2 := kkeep KB0 x2; first | ((with_reducible have hb9 := (H3c.keep (H3c.newD W (.int .u64 0) (.int .u64 0) (.int .i64 0) 47) g1)); obtain ⟨mb0, mb1, mb2, mb3, mb4, mb5⟩ := id hb9) | skip))
      all_goals go_wp2_with fail
      all_goals (
        go_meet
        refine ⟨_, rfl, ?_, ?_, ?_⟩
        · first | (with_reducible exact H3c.put hb9 _ _ _) | (with_reducible exact H3c.put (H3c.new w1 (.int .u64 0) (.int .u64 0) (.int .i64 0) 47) _ _ _) | (with_reducible exact H3c.new w1 _ _ _ 47) | (unfold H3c; simp [go_sem]; done)
        · have h80 := Below.size KB0
          first | (with_reducible exact (Kp.alloc KB0 _)) | ((with_reducible refine (Kp.setCell (Kp.setCell (Kp.setCell KB0 ?_ _) ?_ _) ?_ _)) <;> first | omega | (simp <;> omega)) | ((with_reducible refine (Kp.setCell (Kp.setCell (Kp.setCell (Kp.alloc KB0 _) ?_ _) ?_ _) ?_ _)) <;> first | omega | (simp <;> omega))
        · have h80 := Below.size KB0
          first | exact Nat.le_refl _ | omega | (simp <;> omega))
    case rest =>
    obtain ⟨g3, rfl, q3, gc, hg9⟩ := hcut
    replace kw := Kp.trans kw gc
    replace sx := H3c.keep sx gc
    replace sr := H3c.keep sr gc
    clear x0 x1 x2 x3 x4 x5 r0 r1 r2 r3 r4 r5
    obtain ⟨x0, x1, x2, x3, x4, x5⟩ := id sx
    obtain ⟨r0, r1, r2, r3, r4, r5⟩ := id sr
    obtain ⟨y0, y1, y2, y3, y4, y5⟩ := id q3
    have hne : g3 ≠ w.heap.size + 1 := by omega
    have hne2 : w.heap.size + 1 ≠ g3 := by omega
    have hwg : w.heap.size ≤ g3 := by omega
    clear hg9 hsw
    go_upto_region 4 with (first | (go_at_call 45; refine (hv _).mono ?_; rintro e w2 ⟨rfl, g2⟩; replace kw := Kp.trans kw g2; replace sx := H3c.keep sx g2; replace sr := H3c.keep sr g2; replace q3 := H3c.keep q3 g2; clear x0 x1 x2 x3 x4 x5 r0 r1 r2 r3 r4 r5 y0 y1 y2 y3 y4 y5; obtain ⟨x0, x1, x2, x3, x4, x5⟩ := id sx; obtain ⟨r0, r1, r2, r3, r4, r5⟩ := id sr; obtain ⟨y0, y1, y2, y3, y4, y5⟩ := id q3))
    refine Fq.wp_region_grow (by kernel_rfl) (by kernel_rfl) (fun ι _ G hG hall => ?_)
    have cc0 : ∀ n, (G n).cell? ⟨g3, 0, none⟩ = some (.int .u64 P) := fun n => Fq.gkeep (hG n) y0
    have cc1 : ∀ n, (G n).cell? ⟨g3, 1, none⟩ = some (.int .u64 Q) := fun n => Fq.gkeep (hG n) y1
    have cc2 : ∀ n, (G n).cell? ⟨g3, 2, none⟩ = some (.int .i64 4) := fun n => Fq.gkeep (hG n) y2
    repeat (go_big_quiet_step (first | (go_at_call 60; exact (rempty9_ _).mono (fun e w' h => ⟨h.1, hall _ (Fq.gtrans (hG _) h.2)⟩))))
    refine wpQuiet_nil ?_
    rintro _ ⟨nq, rfl⟩
    have gq : Kp w2 (G nq) := hG nq
    clear cc0 cc1 cc2 hall hG
    replace kw := Kp.trans kw gq
    replace sx := H3c.keep sx gq
    replace sr := H3c.keep sr gq
    replace q3 := H3c.keep q3 gq
    clear x0 x1 x2 x3 x4 x5 r0 r1 r2 r3 r4 r5 y0 y1 y2 y3 y4 y5
    obtain ⟨x0, x1, x2, x3, x4, x5⟩ := id sx
    obtain ⟨r0, r1, r2, r3, r4, r5⟩ := id sr
    obtain ⟨y0, y1, y2, y3, y4, y5⟩ := id q3
    go_wp2
    exact bodyPost_ret (v := .agg #[.int .u64 P, .int .u64 Q, .int .i64 4]) (by simp [results, Try.results42, go_sem, r0, r1, r2]) rfl ⟨rfl, (((kw.setCell (by simp) _).setCell (by simp) _).setCell (by simp) _)⟩)
end B8
end Go.Proofs.Ytbcjhmdkpkmieaa
namespace Go.Proofs.Ytbcjhmdkpkmieaa
open Go.RowKit
open Go
namespace B8
set_option maxRecDepth 20000 in
set_option maxHeartbeats 2000000 in
theorem rreadE8_ (X Y P Q : Int) (t1 : (P == 9218868437227405312) = true) (t2 : (Q == 18442240474082181120) = true) (hpl : ∀ w : World, Calls Try.prog 62 #[.agg #[.int .u64 X, .int .u64 Y]] w fun e w' => e = .returned (.agg #[.int .u64 P, .int .u64 Q]) ∧ Kp w w') (hv : ∀ w : World, Calls Try.prog 45 #[.agg #[.int .u64 P, .int .u64 Q]] w fun e w' => e = .returned (.bool true) ∧ Kp w w') (w : World) : Calls Try.prog 42 #[.agg #[.int .u64 X, .int .u64 Y, .int .i64 8]] w fun e w' => e = .returned (.agg #[.int .u64 P, .int .u64 Q, .int .i64 4]) ∧ Kp w w' := by
  go_enter Try.func42, Try.ntmps42
  go_upto_region 1 with fail
  have sx : H3c ((w.alloc (.cells #[.int .u64 X, .int .u64 Y, .int .i64 8] 47)).alloc (.cells #[.int .u64 0, .int .u64 0, .int .i64 0] 47)) w.heap.size (.int .u64 X) (.int .u64 Y) (.int .i64 8) := H3c.keep (H3c.new w (.int .u64 X) (.int .u64 Y) (.int .i64 8) 47) ((Kp.refl _).alloc _)
  have sr := H3c.two w #[.int .u64 X, .int .u64 Y, .int .i64 8] (.int .u64 0) (.int .u64 0) (.int .i64 0) 47 47
  have kw : Kp w ((w.alloc (.cells #[.int .u64 X, .int .u64 Y, .int .i64 8] 47)).alloc (.cells #[.int .u64 0, .int .u64 0, .int .i64 0] 47)) := ((Kp.refl w).alloc _).alloc _
  have hsw : w.heap.size + 1 < ((w.alloc (.cells #[.int .u64 X, .int .u64 Y, .int .i64 8] 47)).alloc (.cells #[.int .u64 0, .int .u64 0, .int .i64 0] 47)).heap.size := by simp
  generalize (w.alloc (.cells #[.int .u64 X, .int .u64 Y, .int .i64 8] 47)).alloc (.cells #[.int .u64 0, .int .u64 0, .int .i64 0] 47) = W at sx sr kw hsw ⊢
  obtain ⟨x0, x1, x2, x3, x4, x5⟩ := id sx
  obtain ⟨r0, r1, r2, r3, r4, r5⟩ := id sr
  go_cut [3] (fun s3 wx => ∃ g : Nat, s3 = .pointer (some ⟨g, 0, none⟩) ∧ H3c wx g (.int .u64 P) (.int .u64 Q) (.int .i64 8) ∧ Kp W wx ∧ W.heap.size ≤ g)
  case first =>
    go_region_held3 (fun w' => w'.cell? ⟨w.heap.size, 0, none⟩ = some (.int .u64 X) ∧ w'.cell? ⟨w.heap.size, 1, none⟩ = some (.int .u64 Y) ∧ w'.cell? ⟨w.heap.size, 2, none⟩ = some (.int .i64 8)) (first | (with_reducible exact ⟨x0, x1, x2⟩) | (with_reducible exact ⟨cb0_0, cb0_1, cb0_2⟩) | (refine ⟨(kkeep (W := W) ?_ x0), (kkeep (W := W) ?_ x1), (kkeep (W := W) ?_ x2)⟩ <;> ((repeat (first | with_reducible exact Kp.refl _ | with_reducible apply Kp.drew | with_reducible apply Kp.alloc)); done)) | (refine ⟨(kkeep (W := w1) ?_ cb0_0), (kkeep (W := w1) ?_ cb0_1), (kkeep (W := w1) ?_ cb0_2)⟩ <;> ((repeat (first | with_reducible exact Kp.refl _ | with_reducible apply Kp.drew | with_reducible apply Kp.alloc)); done)) | (refine ⟨?_, ?_, ?_⟩ <;> (refine ((World.cell?_setCell_far _ _ _ _ ?_).trans ((World.cell?_setCell_far _ _ _ _ ?_).trans ((World.cell?_setCell_far _ _ _ _ ?_).trans ?_))) <;> first | assumption | (have h90 := cell_lt x0; have h91 := cell_lt x1; have h92 := cell_lt x2; have h80 := Below.size KB0; first | omega | (simp <;> omega))))) (first | (go_at_call 62; refine (hpl _).mono ?_; rintro e w1 ⟨rfl, g1⟩; have KB0 : Kp W w1 := Kp.trans (by (repeat (first | exact Kp.refl _ | apply Kp.drew | apply Kp.alloc)); done) g1; have cb0_0 := kkeep KB0 x0; have cb0_1 := kkeep KB0 x1; have cb0_2 := kkeep KB0 x2; first | ((with_reducible have hb9 := (H3c.keep (H3c.newD W (.int .u64 0) (.int .u64 0) (.int .i64 0) 47) g1)); obtain ⟨mb0, mb1, mb2, mb3, mb4, mb5⟩ := id hb9) | skip))
    all_goals go_wp2_with fail
    all_goals (
      go_meet
      refine ⟨_, rfl, ?_, ?_, ?_⟩
      · first | (with_reducible exact H3c.put hb9 _ _ _) | (with_reducible exact H3c.put (H3c.new w1 (.int .u64 0) (.int .u64 0) (.int .i64 0) 47) _ _ _) | (with_reducible exact H3c.new w1 _ _ _ 47) | (unfold H3c; simp [go_sem]; done)
      · have h80 := Below.size KB0
        first | (with_reducible exact (Kp.alloc KB0 _)) | ((with_reducible refine (Kp.setCell (Kp.setCell (Kp.setCell KB0 ?_ _) ?_ _) ?_ _)) <;> first | omega | (simp <;> omega)) | ((with_reducible refine (Kp.setCell (Kp.setCell (Kp.setCell (Kp.alloc KB0 _) ?_ _) ?_ _) ?_ _)) <;> first | omega | (simp <;> omega))
      · have h80 := Below.size KB0
        first | exact Nat.le_refl _ | omega | (simp <;> omega))
  case rest =>
  obtain ⟨g3, rfl, q3, gc, hg9⟩ := hcut
  replace kw := Kp.trans kw gc
  replace sx := H3c.keep sx gc
  replace sr := H3c.keep sr gc
  clear x0 x1 x2 x3 x4 x5 r0 r1 r2 r3 r4 r5
  obtain ⟨x0, x1, x2, x3, x4, x5⟩ := id sx
  obtain ⟨r0, r1, r2, r3, r4, r5⟩ := id sr
  obtain ⟨y0, y1, y2, y3, y4, y5⟩ := id q3
  have hne : g3 ≠ w.heap.size + 1 := by omega
  have hne2 : w.heap.size + 1 ≠ g3 := by omega
  have hwg : w.heap.size ≤ g3 := by omega
  clear hg9 hsw
  go_upto_region 4 with (first | (go_at_call 45; refine (hv _).mono ?_; rintro e w2 ⟨rfl, g2⟩; replace kw := Kp.trans kw g2; replace sx := H3c.keep sx g2; replace sr := H3c.keep sr g2; replace q3 := H3c.keep q3 g2; clear x0 x1 x2 x3 x4 x5 r0 r1 r2 r3 r4 r5 y0 y1 y2 y3 y4 y5; obtain ⟨x0, x1, x2, x3, x4, x5⟩ := id sx; obtain ⟨r0, r1, r2, r3, r4, r5⟩ := id sr; obtain ⟨y0, y1, y2, y3, y4, y5⟩ := id q3))
  refine Fq.wp_region_grow (by kernel_rfl) (by kernel_rfl) (fun ι _ G hG hall => ?_)
  have cc0 : ∀ n, (G n).cell? ⟨g3, 0, none⟩ = some (.int .u64 P) := fun n => Fq.gkeep (hG n) y0
  have cc1 : ∀ n, (G n).cell? ⟨g3, 1, none⟩ = some (.int .u64 Q) := fun n => Fq.gkeep (hG n) y1
  have cc2 : ∀ n, (G n).cell? ⟨g3, 2, none⟩ = some (.int .i64 8) := fun n => Fq.gkeep (hG n) y2
  repeat (go_big_quiet_step (first | (go_at_call 60; exact (rempty9_ _).mono (fun e w' h => ⟨h.1, hall _ (Fq.gtrans (hG _) h.2)⟩))))
  refine wpQuiet_nil ?_
  rintro _ ⟨nq, rfl⟩
  have gq : Kp w2 (G nq) := hG nq
  clear cc0 cc1 cc2 hall hG
  replace kw := Kp.trans kw gq
  replace sx := H3c.keep sx gq
  replace sr := H3c.keep sr gq
  replace q3 := H3c.keep q3 gq
  clear x0 x1 x2 x3 x4 x5 r0 r1 r2 r3 r4 r5 y0 y1 y2 y3 y4 y5
  obtain ⟨x0, x1, x2, x3, x4, x5⟩ := id sx
  obtain ⟨r0, r1, r2, r3, r4, r5⟩ := id sr
  obtain ⟨y0, y1, y2, y3, y4, y5⟩ := id q3
  go_wp2
  exact bodyPost_ret (v := .agg #[.int .u64 P, .int .u64 Q, .int .i64 4]) (by simp [results, Try.results42, go_sem, r0, r1, r2]) rfl ⟨rfl, ((((kw.setCell hwg _).setCell (by simp) _).setCell (by simp) _).setCell (by simp) _)⟩
set_option maxRecDepth 20000 in
set_option maxHeartbeats 2000000 in
theorem rreadS8_ (X Y P Q : Int) (E1 E2 : Bool) (t1 : (P == 9218868437227405312) = E1) (t2 : (Q == 18442240474082181120) = E2) (u : (E1 && E2) = false) (hpl : ∀ w : World, Calls Try.prog 62 #[.agg #[.int .u64 X, .int .u64 Y]] w fun e w' => e = .returned (.agg #[.int .u64 P, .int .u64 Q]) ∧ Kp w w') (hv : ∀ w : World, Calls Try.prog 45 #[.agg #[.int .u64 P, .int .u64 Q]] w fun e w' => e = .returned (.bool true) ∧ Kp w w')  (w : World) : Calls Try.prog 42 #[.agg #[.int .u64 X, .int .u64 Y, .int .i64 8]] w fun e w' => e = .returned (.agg #[.int .u64 P, .int .u64 Q, .int .i64 8]) ∧ Kp w w' := by
  cases E1 <;> cases E2
  case true.true => cases u
  all_goals (
    clear u
    go_enter Try.func42, Try.ntmps42
    go_upto_region 1 with fail
    have sx : H3c ((w.alloc (.cells #[.int .u64 X, .int .u64 Y, .int .i64 8] 47)).alloc (.cells #[.int .u64 0, .int .u64 0, .int .i64 0] 47)) w.heap.size (.int .u64 X) (.int .u64 Y) (.int .i64 8) := H3c.keep (H3c.new w (.int .u64 X) (.int .u64 Y) (.int .i64 8) 47) ((Kp.refl _).alloc _)
    have sr := H3c.two w #[.int .u64 X, .int .u64 Y, .int .i64 8] (.int .u64 0) (.int .u64 0) (.int .i64 0) 47 47
    have kw : Kp w ((w.alloc (.cells #[.int .u64 X, .int .u64 Y, .int .i64 8] 47)).alloc (.cells #[.int .u64 0, .int .u64 0, .int .i64 0] 47)) := ((Kp.refl w).alloc _).alloc _
    have hsw : w.heap.size + 1 < ((w.alloc (.cells #[.int .u64 X, .int .u64 Y, .int .i64 8] 47)).alloc (.cells #[.int .u64 0, .int .u64 0, .int .i64 0] 47)).heap.size := by simp
    generalize (w.alloc (.cells #[.int .u64 X, .int .u64 Y, .int .i64 8] 47)).alloc (.cells #[.int .u64 0, .int .u64 0, .int .i64 0] 47) = W at sx sr kw hsw ⊢
    obtain ⟨x0, x1, x2, x3, x4, x5⟩ := id sx
    obtain ⟨r0, r1, r2, r3, r4, r5⟩ := id sr
    go_cut [3] (fun s3 wx => ∃ g : Nat, s3 = .pointer (some ⟨g, 0, none⟩) ∧ H3c wx g (.int .u64 P) (.int .u64 Q) (.int .i64 8) ∧ Kp W wx ∧ W.heap.size ≤ g)
    case first =>
      go_region_held3 (fun w' => w'.cell? ⟨w.heap.size, 0, none⟩ = some (.int .u64 X) ∧ w'.cell? ⟨w.heap.size, 1, none⟩ = some (.int .u64 Y) ∧ w'.cell? ⟨w.heap.size, 2, none⟩ = some (.int .i64 8)) (first | (with_reducible exact ⟨x0, x1, x2⟩) | (with_reducible exact ⟨cb0_0, cb0_1, cb0_2⟩) | (refine ⟨(kkeep (W := W) ?_ x0), (kkeep (W := W) ?_ x1), (kkeep (W := W) ?_ x2)⟩ <;> ((repeat (first | with_reducible exact Kp.refl _ | with_reducible apply Kp.drew | with_reducible apply Kp.alloc)); done)) | (refine ⟨(kkeep (W := w1) ?_ cb0_0), (kkeep (W := w1) ?_ cb0_1), (kkeep (W := w1) ?_ cb0_2)⟩ <;> ((repeat (first | with_reducible exact Kp.refl _ | with_reducible apply Kp.drew | with_reducible apply Kp.alloc)); done)) | (refine ⟨?_, ?_, ?_⟩ <;> (refine ((World.cell?_setCell_far _ _ _ _ ?_).trans ((World.cell?_setCell_far _ _ _ _ ?_).trans ((World.cell?_setCell_far _ _ _ _ ?_).trans ?_))) <;> first | assumption | (have h90 := cell_lt x0; have h91 := cell_lt x1; have h92 := cell_lt x2; have h80 := Below.size KB0; first | omega | (simp <;> omega))))) (first | (go_at_call 62; refine (hpl _).mono ?_; rintro e w1 ⟨rfl, g1⟩; have KB0 : Kp W w1 := Kp.trans (by (repeat (first | exact Kp.refl _ | apply Kp.drew | apply Kp.alloc)); done) g1; have cb0_0 := kkeep KB0 x0; have cb0_1 := kkeep KB0 x1; have cb0_2 := kkeep KB0 x2; first | ((with_reducible have hb9 := (H3c.keep (H3c.newD W (.int .u64 0) (.int .u64 0) (.int .i64 0) 47) g1)); obtain ⟨mb0, mb1, mb2, mb3, mb4, mb5⟩ := id hb9) | skip))
      all_goals go_wp2_with fail
      all_goals (
        go_meet
        refine ⟨_, rfl, ?_, ?_, ?_⟩
        · first | (with_reducible exact H3c.put hb9 _ _ _) | (with_reducible exact H3c.put (H3c.new w1 (.int .u64 0) (.int .u64 0) (.int .i64 0) 47) _ _ _) | (with_reducible exact H3c.new w1 _ _ _ 47) | (unfold H3c; simp [go_sem]; done)
        · have h80 := Below.size KB0
          first | (with_reducible exact (Kp.alloc KB0 _)) | ((with_reducible refine (Kp.setCell (Kp.setCell (Kp.setCell KB0 ?_ _) ?_ _) ?_ _)) <;> first | omega | (simp <;> omega)) | ((with_reducible refine (Kp.setCell (Kp.setCell (Kp.setCell (Kp.alloc KB0 _) ?_ _) ?_ _) ?_ _)) <;> first | omega | (simp <;> omega))
        · have h80 := Below.size KB0
          first | exact Nat.le_refl _ | omega | (simp <;> omega))
    case rest =>
    obtain ⟨g3, rfl, q3, gc, hg9⟩ := hcut
    replace kw := Kp.trans kw gc
    replace sx := H3c.keep sx gc
    replace sr := H3c.keep sr gc
    clear x0 x1 x2 x3 x4 x5 r0 r1 r2 r3 r4 r5
    obtain ⟨x0, x1, x2, x3, x4, x5⟩ := id sx
    obtain ⟨r0, r1, r2, r3, r4, r5⟩ := id sr
    obtain ⟨y0, y1, y2, y3, y4, y5⟩ := id q3
    have hne : g3 ≠ w.heap.size + 1 := by omega
    have hne2 : w.heap.size + 1 ≠ g3 := by omega
    have hwg : w.heap.size ≤ g3 := by omega
    clear hg9 hsw
    go_upto_region 4 with (first | (go_at_call 45; refine (hv _).mono ?_; rintro e w2 ⟨rfl, g2⟩; replace kw := Kp.trans kw g2; replace sx := H3c.keep sx g2; replace sr := H3c.keep sr g2; replace q3 := H3c.keep q3 g2; clear x0 x1 x2 x3 x4 x5 r0 r1 r2 r3 r4 r5 y0 y1 y2 y3 y4 y5; obtain ⟨x0, x1, x2, x3, x4, x5⟩ := id sx; obtain ⟨r0, r1, r2, r3, r4, r5⟩ := id sr; obtain ⟨y0, y1, y2, y3, y4, y5⟩ := id q3))
    refine Fq.wp_region_grow (by kernel_rfl) (by kernel_rfl) (fun ι _ G hG hall => ?_)
    have cc0 : ∀ n, (G n).cell? ⟨g3, 0, none⟩ = some (.int .u64 P) := fun n => Fq.gkeep (hG n) y0
    have cc1 : ∀ n, (G n).cell? ⟨g3, 1, none⟩ = some (.int .u64 Q) := fun n => Fq.gkeep (hG n) y1
    have cc2 : ∀ n, (G n).cell? ⟨g3, 2, none⟩ = some (.int .i64 8) := fun n => Fq.gkeep (hG n) y2
    repeat (go_big_quiet_step (first | (go_at_call 60; exact (rempty9_ _).mono (fun e w' h => ⟨h.1, hall _ (Fq.gtrans (hG _) h.2)⟩))))
    refine wpQuiet_nil ?_
    rintro _ ⟨nq, rfl⟩
    have gq : Kp w2 (G nq) := hG nq
    clear cc0 cc1 cc2 hall hG
    replace kw := Kp.trans kw gq
    replace sx := H3c.keep sx gq
    replace sr := H3c.keep sr gq
    replace q3 := H3c.keep q3 gq
    clear x0 x1 x2 x3 x4 x5 r0 r1 r2 r3 r4 r5 y0 y1 y2 y3 y4 y5
    obtain ⟨x0, x1, x2, x3, x4, x5⟩ := id sx
    obtain ⟨r0, r1, r2, r3, r4, r5⟩ := id sr
    obtain ⟨y0, y1, y2, y3, y4, y5⟩ := id q3
    go_wp2
    exact bodyPost_ret (v := .agg #[.int .u64 P, .int .u64 Q, .int .i64 8]) (by simp [results, Try.results42, go_sem, r0, r1, r2]) rfl ⟨rfl, (((kw.setCell (by simp) _).setCell (by simp) _).setCell (by simp) _)⟩)
end B8
end Go.Proofs.Ytbcjhmdkpkmieaa
namespace Go.Proofs.Ytbcjhmdkpkmieaa
open Go.RowKit
open Go
namespace B8
set_option maxRecDepth 20000 in
set_option maxHeartbeats 2000000 in
theorem rreadE12_ (X Y P Q : Int) (t1 : (P == 9218868437227405312) = true) (t2 : (Q == 18442240474082181120) = true) (hpl : ∀ w : World, Calls Try.prog 62 #[.agg #[.int .u64 X, .int .u64 Y]] w fun e w' => e = .returned (.agg #[.int .u64 P, .int .u64 Q]) ∧ Kp w w') (hv : ∀ w : World, Calls Try.prog 45 #[.agg #[.int .u64 P, .int .u64 Q]] w fun e w' => e = .returned (.bool true) ∧ Kp w w') (w : World) : Calls Try.prog 42 #[.agg #[.int .u64 X, .int .u64 Y, .int .i64 12]] w fun e w' => e = .returned (.agg #[.int .u64 P, .int .u64 Q, .int .i64 4]) ∧ Kp w w' := by
  go_enter Try.func42, Try.ntmps42
  go_upto_region 1 with fail
  have sx : H3c ((w.alloc (.cells #[.int .u64 X, .int .u64 Y, .int .i64 12] 47)).alloc (.cells #[.int .u64 0, .int .u64 0, .int .i64 0] 47)) w.heap.size (.int .u64 X) (.int .u64 Y) (.int .i64 12) := H3c.keep (H3c.new w (.int .u64 X) (.int .u64 Y) (.int .i64 12) 47) ((Kp.refl _).alloc _)
  have sr := H3c.two w #[.int .u64 X, .int .u64 Y, .int .i64 12] (.int .u64 0) (.int .u64 0) (.int .i64 0) 47 47
  have kw : Kp w ((w.alloc (.cells #[.int .u64 X, .int .u64 Y, .int .i64 12] 47)).alloc (.cells #[.int .u64 0, .int .u64 0, .int .i64 0] 47)) := ((Kp.refl w).alloc _).alloc _
  have hsw : w.heap.size + 1 < ((w.alloc (.cells #[.int .u64 X, .int .u64 Y, .int .i64 12] 47)).alloc (.cells #[.int .u64 0, .int .u64 0, .int .i64 0] 47)).heap.size := by simp
  generalize (w.alloc (.cells #[.int .u64 X, .int .u64 Y, .int .i64 12] 47)).alloc (.cells #[.int .u64 0, .int .u64 0, .int .i64 0] 47) = W at sx sr kw hsw ⊢
  obtain ⟨x0, x1, x2, x3, x4, x5⟩ := id sx
  obtain ⟨r0, r1, r2, r3, r4, r5⟩ := id sr
  go_cut [3] (fun s3 wx => ∃ g : Nat, s3 = .pointer (some ⟨g, 0, none⟩) ∧ H3c wx g (.int .u64 P) (.int .u64 Q) (.int .i64 12) ∧ Kp W wx ∧ W.heap.size ≤ g)
  case first =>
    go_region_held3 (fun w' => w'.cell? ⟨w.heap.size, 0, none⟩ = some (.int .u64 X) ∧ w'.cell? ⟨w.heap.size, 1, none⟩ = some (.int .u64 Y) ∧ w'.cell? ⟨w.heap.size, 2, none⟩ = some (.int .i64 12)) (first | (with_reducible exact ⟨x0, x1, x2⟩) | (with_reducible exact ⟨cb0_0, cb0_1, cb0_2⟩) | (refine ⟨(kkeep (W := W) ?_ x0), (kkeep (W := W) ?_ x1), (kkeep (W := W) ?_ x2)⟩ <;> ((repeat (first | with_reducible exact Kp.refl _ | with_reducible apply Kp.drew | with_reducible apply Kp.alloc)); done)) | (refine ⟨(kkeep (W := w1) ?_ cb0_0), (kkeep (W := w1) ?_ cb0_1), (kkeep (W := w1) ?_ cb0_2)⟩ <;> ((repeat (first | with_reducible exact Kp.refl _ | with_reducible apply Kp.drew | with_reducible apply Kp.alloc)); done)) | (refine ⟨?_, ?_, ?_⟩ <;> (refine ((World.cell?_setCell_far _ _ _ _ ?_).trans ((World.cell?_setCell_far _ _ _ _ ?_).trans ((World.cell?_setCell_far _ _ _ _ ?_).trans ?_))) <;> first | assumption | (have h90 := cell_lt x0; have h91 := cell_lt x1; have h92 := cell_lt x2; have h80 := Below.size KB0; first | omega | (simp <;> omega))))) (first | (go_at_call 62; refine (hpl _).mono ?_; rintro e w1 ⟨rfl, g1⟩; have KB0 : Kp W w1 := Kp.trans (by (repeat (first | exact Kp.refl _ | apply Kp.drew | apply Kp.alloc)); done) g1; have cb0_0 := kkeep KB0 x0; have cb0_1 := kkeep KB0 x1; have cb0_2 := kkeep KB0 x2; first | ((with_reducible have hb9 := (H3c.keep (H3c.newD W (.int .u64 0) (.int .u64 0) (.int .i64 0) 47) g1)); obtain ⟨mb0, mb1, mb2, mb3, mb4, mb5⟩ := id hb9) | skip))
    all_goals go_wp2_with fail
    all_goals (
      go_meet
      refine ⟨_, rfl, ?_, ?_, ?_⟩
      · first | (with_reducible exact H3c.put hb9 _ _ _) | (with_reducible exact H3c.put (H3c.new w1 (.int .u64 0) (.int .u64 0) (.int .i64 0) 47) _ _ _) | (with_reducible exact H3c.new w1 _ _ _ 47) | (unfold H3c; simp [go_sem]; done)
      · have h80 := Below.size KB0
        first | (with_reducible exact (Kp.alloc KB0 _)) | ((with_reducible refine (Kp.setCell (Kp.setCell (Kp.setCell KB0 ?_ _) ?_ _) ?_ _)) <;> first | omega | (simp <;> omega)) | ((with_reducible refine (Kp.setCell (Kp.setCell (Kp.setCell (Kp.alloc KB0 _) ?_ _) ?_ _) ?_ _)) <;> first | omega | (simp <;> omega))
      · have h80 := Below.size KB0
        first | exact Nat.le_refl _ | omega | (simp <;> omega))
  case rest =>
  obtain ⟨g3, rfl, q3, gc, hg9⟩ := hcut
  replace kw := Kp.trans kw gc
  replace sx := H3c.keep sx gc
  replace sr := H3c.keep sr gc
  clear x0 x1 x2 x3 x4 x5 r0 r1 r2 r3 r4 r5
  obtain ⟨x0, x1, x2, x3, x4, x5⟩ := id sx
  obtain ⟨r0, r1, r2, r3, r4, r5⟩ := id sr
  obtain ⟨y0, y1, y2, y3, y4, y5⟩ := id q3
  have hne : g3 ≠ w.heap.size + 1 := by omega
  have hne2 : w.heap.size + 1 ≠ g3 := by omega
  have hwg : w.heap.size ≤ g3 := by omega
  clear hg9 hsw
  go_upto_region 4 with (first | (go_at_call 45; refine (hv _).mono ?_; rintro e w2 ⟨rfl, g2⟩; replace kw := Kp.trans kw g2; replace sx := H3c.keep sx g2; replace sr := H3c.keep sr g2; replace q3 := H3c.keep q3 g2; clear x0 x1 x2 x3 x4 x5 r0 r1 r2 r3 r4 r5 y0 y1 y2 y3 y4 y5; obtain ⟨x0, x1, x2, x3, x4, x5⟩ := id sx; obtain ⟨r0, r1, r2, r3, r4, r5⟩ := id sr; obtain ⟨y0, y1, y2, y3, y4, y5⟩ := id q3))
  refine Fq.wp_region_grow (by kernel_rfl) (by kernel_rfl) (fun ι _ G hG hall => ?_)
  have cc0 : ∀ n, (G n).cell? ⟨g3, 0, none⟩ = some (.int .u64 P) := fun n => Fq.gkeep (hG n) y0
  have cc1 : ∀ n, (G n).cell? ⟨g3, 1, none⟩ = some (.int .u64 Q) := fun n => Fq.gkeep (hG n) y1
  have cc2 : ∀ n, (G n).cell? ⟨g3, 2, none⟩ = some (.int .i64 12) := fun n => Fq.gkeep (hG n) y2
  repeat (go_big_quiet_step (first | (go_at_call 60; exact (rempty9_ _).mono (fun e w' h => ⟨h.1, hall _ (Fq.gtrans (hG _) h.2)⟩))))
  refine wpQuiet_nil ?_
  rintro _ ⟨nq, rfl⟩
  have gq : Kp w2 (G nq) := hG nq
  clear cc0 cc1 cc2 hall hG
  replace kw := Kp.trans kw gq
  replace sx := H3c.keep sx gq
  replace sr := H3c.keep sr gq
  replace q3 := H3c.keep q3 gq
  clear x0 x1 x2 x3 x4 x5 r0 r1 r2 r3 r4 r5 y0 y1 y2 y3 y4 y5
  obtain ⟨x0, x1, x2, x3, x4, x5⟩ := id sx
  obtain ⟨r0, r1, r2, r3, r4, r5⟩ := id sr
  obtain ⟨y0, y1, y2, y3, y4, y5⟩ := id q3
  go_wp2
  exact bodyPost_ret (v := .agg #[.int .u64 P, .int .u64 Q, .int .i64 4]) (by simp [results, Try.results42, go_sem, r0, r1, r2]) rfl ⟨rfl, ((((kw.setCell hwg _).setCell (by simp) _).setCell (by simp) _).setCell (by simp) _)⟩
set_option maxRecDepth 20000 in
set_option maxHeartbeats 2000000 in
theorem rreadS12_ (X Y P Q : Int) (E1 E2 : Bool) (t1 : (P == 9218868437227405312) = E1) (t2 : (Q == 18442240474082181120) = E2) (u : (E1 && E2) = false) (hpl : ∀ w : World, Calls Try.prog 62 #[.agg #[.int .u64 X, .int .u64 Y]] w fun e w' => e = .returned (.agg #[.int .u64 P, .int .u64 Q]) ∧ Kp w w') (hv : ∀ w : World, Calls Try.prog 45 #[.agg #[.int .u64 P, .int .u64 Q]] w fun e w' => e = .returned (.bool true) ∧ Kp w w')  (w : World) : Calls Try.prog 42 #[.agg #[.int .u64 X, .int .u64 Y, .int .i64 12]] w fun e w' => e = .returned (.agg #[.int .u64 P, .int .u64 Q, .int .i64 12]) ∧ Kp w w' := by
  cases E1 <;> cases E2
  case true.true => cases u
  all_goals (
    clear u
    go_enter Try.func42, Try.ntmps42
    go_upto_region 1 with fail
    have sx : H3c ((w.alloc (.cells #[.int .u64 X, .int .u64 Y, .int .i64 12] 47)).alloc (.cells #[.int .u64 0, .int .u64 0, .int .i64 0] 47)) w.heap.size (.int .u64 X) (.int .u64 Y) (.int .i64 12) := H3c.keep (H3c.new w (.int .u64 X) (.int .u64 Y) (.int .i64 12) 47) ((Kp.refl _).alloc _)
    have sr := H3c.two w #[.int .u64 X, .int .u64 Y, .int .i64 12] (.int .u64 0) (.int .u64 0) (.int .i64 0) 47 47
    have kw : Kp w ((w.alloc (.cells #[.int .u64 X, .int .u64 Y, .int .i64 12] 47)).alloc (.cells #[.int .u64 0, .int .u64 0, .int .i64 0] 47)) := ((Kp.refl w).alloc _).alloc _
    have hsw : w.heap.size + 1 < ((w.alloc (.cells #[.int .u64 X, .int .u64 Y, .int .i64 12] 47)).alloc (.cells #[.int .u64 0, .int .u64 0, .int .i64 0] 47)).heap.size := by simp
    generalize (w.alloc (.cells #[.int .u64 X, .int .u64 Y, .int .i64 12] 47)).alloc (.cells #[.int .u64 0, .int .u64 0, .int .i64 0] 47) = W at sx sr kw hsw ⊢
    obtain ⟨x0, x1, x2, x3, x4, x5⟩ := id sx
    obtain ⟨r0, r1, r2, r3, r4, r5⟩ := id sr
    go_cut [3] (fun s3 wx => ∃ g : Nat, s3 = .pointer (some ⟨g, 0, none⟩) ∧ H3c wx g (.int .u64 P) (.int .u64 Q) (.int .i64 12) ∧ Kp W wx ∧ W.heap.size ≤ g)
    case first =>
      go_region_held3 (fun w' => w'.cell? ⟨w.heap.size, 0, none⟩ = some (.int .u64 X) ∧ w'.cell? ⟨w.heap.size, 1, none⟩ = some (.int .u64 Y) ∧ w'.cell? ⟨w.heap.size, 2, none⟩ = some (.int .i64 12)) (first | (with_reducible exact ⟨x0, x1, x2⟩) | (with_reducible exact ⟨cb0_0, cb0_1, cb0_2⟩) | (refine ⟨(kkeep (W := W) ?_ x0), (kkeep (W := W) ?_ x1), (kkeep (W := W) ?_ x2)⟩ <;> ((repeat (first | with_reducible exact Kp.refl _ | with_reducible apply Kp.drew | with_reducible apply Kp.alloc)); done)) | (refine ⟨(kkeep (W := w1) ?_ cb0_0), (kkeep (W := w1) ?_ cb0_1), (kkeep (W := w1) ?_ cb0_2)⟩ <;> ((repeat (first | with_reducible exact Kp.refl _ | with_reducible apply Kp.drew | with_reducible apply Kp.alloc)); done)) | (refine ⟨?_, ?_, ?_⟩ <;> (refine ((World.cell?_setCell_far _ _ _ _ ?_).trans ((World.cell?_setCell_far _ _ _ _ ?_).trans ((World.cell?_setCell_far _ _ _ _ ?_).trans ?_))) <;> first | assumption | (have h90 := cell_lt x0; have h91 := cell_lt x1; have h92 := cell_lt x2; have h80 := Below.size KB0; first | omega | (simp <;> omega))))) (first | (go_at_call 62; refine (hpl _).mono ?_; rintro e w1 ⟨rfl, g1⟩; have KB0 : Kp W w1 := Kp.trans (by (repeat (first | exact Kp.refl _ | apply Kp.drew | apply Kp.alloc)); done) g1; have cb0_0 := kkeep KB0 x0; have cb0_1 := kkeep KB0 x1; have cb0_2 := kkeep KB0 x2; first | ((with_reducible have hb9 := (H3c.keep (H3c.newD W (.int .u64 0) (.int .u64 0) (.int .i64 0) 47) g1)); obtain ⟨mb0, mb1, mb2, mb3, mb4, mb5⟩ := id hb9) | skip))
      all_goals go_wp2_with fail
      all_goals (
        go_meet
        refine ⟨_, rfl, ?_, ?_, ?_⟩
        · first | (with_reducible exact H3c.put hb9 _ _ _) | (with_reducible exact H3c.put (H3c.new w1 (.int .u64 0) (.int .u64 0) (.int .i64 0) 47) _ _ _) | (with_reducible exact H3c.new w1 _ _ _ 47) | (unfold H3c; simp [go_sem]; done)
        · have h80 := Below.size KB0
          first | (with_reducible exact (Kp.alloc KB0 _)) | ((with_reducible refine (Kp.setCell (Kp.setCell (Kp.setCell KB0 ?_ _) ?_ _) ?_ _)) <;> first | omega | (simp <;> omega)) | ((with_reducible refine (Kp.setCell (Kp.setCell (Kp.setCell (Kp.alloc KB0 _) ?_ _) ?_ _) ?_ _)) <;> first | omega | (simp <;> omega))
        · have h80 := Below.size KB0
          first | exact Nat.le_refl _ | omega | (simp <;> omega))
    case rest =>
    obtain ⟨g3, rfl, q3, gc, hg9⟩ := hcut
    replace kw := Kp.trans kw gc
    replace sx := H3c.keep sx gc
    replace sr := H3c.keep sr gc
    clear x0 x1 x2 x3 x4 x5 r0 r1 r2 r3 r4 r5
    obtain ⟨x0, x1, x2, x3, x4, x5⟩ := id sx
    obtain ⟨r0, r1, r2, r3, r4, r5⟩ := id sr
    obtain ⟨y0, y1, y2, y3, y4, y5⟩ := id q3
    have hne : g3 ≠ w.heap.size + 1 := by omega
    have hne2 : w.heap.size + 1 ≠ g3 := by omega
    have hwg : w.heap.size ≤ g3 := by omega
    clear hg9 hsw
    go_upto_region 4 with (first | (go_at_call 45; refine (hv _).mono ?_; rintro e w2 ⟨rfl, g2⟩; replace kw := Kp.trans kw g2; replace sx := H3c.keep sx g2; replace sr := H3c.keep sr g2; replace q3 := H3c.keep q3 g2; clear x0 x1 x2 x3 x4 x5 r0 r1 r2 r3 r4 r5 y0 y1 y2 y3 y4 y5; obtain ⟨x0, x1, x2, x3, x4, x5⟩ := id sx; obtain ⟨r0, r1, r2, r3, r4, r5⟩ := id sr; obtain ⟨y0, y1, y2, y3, y4, y5⟩ := id q3))
    refine Fq.wp_region_grow (by kernel_rfl) (by kernel_rfl) (fun ι _ G hG hall => ?_)
    have cc0 : ∀ n, (G n).cell? ⟨g3, 0, none⟩ = some (.int .u64 P) := fun n => Fq.gkeep (hG n) y0
    have cc1 : ∀ n, (G n).cell? ⟨g3, 1, none⟩ = some (.int .u64 Q) := fun n => Fq.gkeep (hG n) y1
    have cc2 : ∀ n, (G n).cell? ⟨g3, 2, none⟩ = some (.int .i64 12) := fun n => Fq.gkeep (hG n) y2
    repeat (go_big_quiet_step (first | (go_at_call 60; exact (rempty9_ _).mono (fun e w' h => ⟨h.1, hall _ (Fq.gtrans (hG _) h.2)⟩))))
    refine wpQuiet_nil ?_
    rintro _ ⟨nq, rfl⟩
    have gq : Kp w2 (G nq) := hG nq
    clear cc0 cc1 cc2 hall hG
    replace kw := Kp.trans kw gq
    replace sx := H3c.keep sx gq
    replace sr := H3c.keep sr gq
    replace q3 := H3c.keep q3 gq
    clear x0 x1 x2 x3 x4 x5 r0 r1 r2 r3 r4 r5 y0 y1 y2 y3 y4 y5
    obtain ⟨x0, x1, x2, x3, x4, x5⟩ := id sx
    obtain ⟨r0, r1, r2, r3, r4, r5⟩ := id sr
    obtain ⟨y0, y1, y2, y3, y4, y5⟩ := id q3
    go_wp2
    exact bodyPost_ret (v := .agg #[.int .u64 P, .int .u64 Q, .int .i64 12]) (by simp [results, Try.results42, go_sem, r0, r1, r2]) rfl ⟨rfl, (((kw.setCell (by simp) _).setCell (by simp) _).setCell (by simp) _)⟩)
end B8
end Go.Proofs.Ytbcjhmdkpkmieaa
namespace Go.Proofs.Ytbcjhmdkpkmieaa
open Go.RowKit
open Go
namespace B8
set_option maxRecDepth 20000 in
set_option maxHeartbeats 2000000 in
theorem rreadE16_ (X Y P Q : Int) (t1 : (P == 9218868437227405312) = true) (t2 : (Q == 18442240474082181120) = true) (hpl : ∀ w : World, Calls Try.prog 62 #[.agg #[.int .u64 X, .int .u64 Y]] w fun e w' => e = .returned (.agg #[.int .u64 P, .int .u64 Q]) ∧ Kp w w') (hv : ∀ w : World, Calls Try.prog 45 #[.agg #[.int .u64 P, .int .u64 Q]] w fun e w' => e = .returned (.bool true) ∧ Kp w w') (w : World) : Calls Try.prog 42 #[.agg #[.int .u64 X, .int .u64 Y, .int .i64 16]] w fun e w' => e = .returned (.agg #[.int .u64 P, .int .u64 Q, .int .i64 4]) ∧ Kp w w' := by
  go_enter Try.func42, Try.ntmps42
  go_upto_region 1 with fail
  have sx : H3c ((w.alloc (.cells #[.int .u64 X, .int .u64 Y, .int .i64 16] 47)).alloc (.cells #[.int .u64 0, .int .u64 0, .int .i64 0] 47)) w.heap.size (.int .u64 X) (.int .u64 Y) (.int .i64 16) := H3c.keep (H3c.new w (.int .u64 X) (.int .u64 Y) (.int .i64 16) 47) ((Kp.refl _).alloc _)
  have sr := H3c.two w #[.int .u64 X, .int .u64 Y, .int .i64 16] (.int .u64 0) (.int .u64 0) (.int .i64 0) 47 47
  have kw : Kp w ((w.alloc (.cells #[.int .u64 X, .int .u64 Y, .int .i64 16] 47)).alloc (.cells #[.int .u64 0, .int .u64 0, .int .i64 0] 47)) := ((Kp.refl w).alloc _).alloc _
  have hsw : w.heap.size + 1 < ((w.alloc (.cells #[.int .u64 X, .int .u64 Y, .int .i64 16] 47)).alloc (.cells #[.int .u64 0, .int .u64 0, .int .i64 0] 47)).heap.size := by simp
  generalize (w.alloc (.cells #[.int .u64 X, .int .u64 Y, .int .i64 16] 47)).alloc (.cells #[.int .u64 0, .int .u64 0, .int .i64 0] 47) = W at sx sr kw hsw ⊢
  obtain ⟨x0, x1, x2, x3, x4, x5⟩ := id sx
  obtain ⟨r0, r1, r2, r3, r4, r5⟩ := id sr
  go_cut [3] (fun s3 wx => ∃ g : Nat, s3 = .pointer (some ⟨g, 0, none⟩) ∧ H3c wx g (.int .u64 P) (.int .u64 Q) (.int .i64 16) ∧ Kp W wx ∧ W.heap.size ≤ g)
  case first =>
    go_region_held3 (fun w' => w'.cell? ⟨w.heap.size, 0, none⟩ = some (.int .u64 X) ∧ w'.cell? ⟨w.heap.size, 1, none⟩ = some (.int .u64 Y) ∧ w'.cell? ⟨w.heap.size, 2, none⟩ = some (.int .i64 16)) (first | (with_reducible exact ⟨x0, x1, x2⟩) | (with_reducible exact ⟨cb0_0, cb0_1, cb0_2⟩) | (refine ⟨(kkeep (W := W) ?_ x0), (kkeep (W := W) ?_ x1), (kkeep (W := W) ?_ x2)⟩ <;> ((repeat (first | with_reducible exact Kp.refl _ | with_reducible apply Kp.drew | with_reducible apply Kp.alloc)); done)) | (refine ⟨(kkeep (W := w1) ?_ cb0_0), (kkeep (W := w1) ?_ cb0_1), (kkeep (W := w1) ?_ cb0_2)⟩ <;> ((repeat (first | with_reducible exact Kp.refl _ | with_reducible apply Kp.drew | with_reducible apply Kp.alloc)); done)) | (refine ⟨?_, ?_, ?_⟩ <;> (refine ((World.cell?_setCell_far _ _ _ _ ?_).trans ((World.cell?_setCell_far _ _ _ _ ?_).trans ((World.cell?_setCell_far _ _ _ _ ?_).trans ?_))) <;> first | assumption | (have h90 := cell_lt x0; have h91 := cell_lt x1; have h92 := cell_lt x2; have h80 := Below.size KB0; first | omega | (simp <;> omega))))) (first | (go_at_call 62; refine (hpl _).mono ?_; rintro e w1 ⟨rfl, g1⟩; have KB0 : Kp W w1 := Kp.trans (by (repeat (first | exact Kp.refl _ | apply Kp.drew | apply Kp.alloc)); done) g1; have cb0_0 := kkeep KB0 x0; have cb0_1 := kkeep KB0 x1; have cb0_2 := kkeep KB0 x2; first | ((with_reducible have hb9 := (H3c.keep (H3c.newD W (.int .u64 0) (.int .u64 0) (.int .i64 0) 47) g1)); obtain ⟨mb0, mb1, mb2, mb3, mb4, mb5⟩ := id hb9) | skip))
    all_goals go_wp2_with fail
    all_goals (
      go_meet
      refine ⟨_, rfl, ?_, ?_, ?_⟩
      · first | (with_reducible exact H3c.put hb9 _ _ _) | (with_reducible exact H3c.put (H3c.new w1 (.int .u64 0) (.int .u64 0) (.int .i64 0) 47) _ _ _) | (with_reducible exact H3c.new w1 _ _ _ 47) | (unfold H3c; simp [go_sem]; done)
      · have h80 := Below.size KB0
        first | (with_reducible exact (Kp.alloc KB0 _)) | ((with_reducible refine (Kp.setCell (Kp.setCell (Kp.setCell KB0 ?_ _) ?_ _) ?_ _)) <;> first | omega | (simp <;> omega)) | ((with_reducible refine (Kp.setCell (Kp.setCell (Kp.setCell (Kp.alloc KB0 _) ?_ _) ?_ _) ?_ _)) <;> first | omega | (simp <;> omega))
      · have h80 := Below.size KB0
        first | exact Nat.le_refl _ | omega | (simp <;> omega))
  case rest =>
  obtain ⟨g3, rfl, q3, gc, hg9⟩ := hcut
  replace kw := Kp.trans kw gc
  replace sx := H3c.keep sx gc
  replace sr := H3c.keep sr gc
  clear x0 x1 x2 x3 x4 x5 r0 r1 r2 r3 r4 r5
  obtain ⟨x0, x1, x2, x3, x4, x5⟩ := id sx
  obtain ⟨r0, r1, r2, r3, r4, r5⟩ := id sr
  obtain ⟨y0, y1, y2, y3, y4, y5⟩ := id q3
  have hne : g3 ≠ w.heap.size + 1 := by omega
  have hne2 : w.heap.size + 1 ≠ g3 := by omega
  have hwg : w.heap.size ≤ g3 := by omega
  clear hg9 hsw
  go_upto_region 4 with (first | (go_at_call 45; refine (hv _).mono ?_; rintro e w2 ⟨rfl, g2⟩; replace kw := Kp.trans kw g2; replace sx := H3c.keep sx g2; replace sr := H3c.keep sr g2; replace q3 := H3c.keep q3 g2; clear x0 x1 x2 x3 x4 x5 r0 r1 r2 r3 r4 r5 y0 y1 y2 y3 y4 y5; obtain ⟨x0, x1, x2, x3, x4, x5⟩ := id sx; obtain ⟨r0, r1, r2, r3, r4, r5⟩ := id sr; obtain ⟨y0, y1, y2, y3, y4, y5⟩ := id q3))
  refine Fq.wp_region_grow (by kernel_rfl) (by kernel_rfl) (fun ι _ G hG hall => ?_)
  have cc0 : ∀ n, (G n).cell? ⟨g3, 0, none⟩ = some (.int .u64 P) := fun n => Fq.gkeep (hG n) y0
  have cc1 : ∀ n, (G n).cell? ⟨g3, 1, none⟩ = some (.int .u64 Q) := fun n => Fq.gkeep (hG n) y1
  have cc2 : ∀ n, (G n).cell? ⟨g3, 2, none⟩ = some (.int .i64 16) := fun n => Fq.gkeep (hG n) y2
  repeat (go_big_quiet_step (first | (go_at_call 60; exact (rempty9_ _).mono (fun e w' h => ⟨h.1, hall _ (Fq.gtrans (hG _) h.2)⟩))))
  refine wpQuiet_nil ?_
  rintro _ ⟨nq, rfl⟩
  have gq : Kp w2 (G nq) := hG nq
  clear cc0 cc1 cc2 hall hG
  replace kw := Kp.trans kw gq
  replace sx := H3c.keep sx gq
  replace sr := H3c.keep sr gq
  replace q3 := H3c.keep q3 gq
  clear x0 x1 x2 x3 x4 x5 r0 r1 r2 r3 r4 r5 y0 y1 y2 y3 y4 y5
  obtain ⟨x0, x1, x2, x3, x4, x5⟩ := id sx
  obtain ⟨r0, r1, r2, r3, r4, r5⟩ := id sr
  obtain ⟨y0, y1, y2, y3, y4, y5⟩ := id q3
  go_wp2
  exact bodyPost_ret (v := .agg #[.int .u64 P, .int .u64 Q, .int .i64 4]) (by simp [results, Try.results42, go_sem, r0, r1, r2]) rfl ⟨rfl, ((((kw.setCell hwg _).setCell (by simp) _).setCell (by simp) _).setCell (by simp) _)⟩
set_option maxRecDepth 20000 in
set_option maxHeartbeats 2000000 in
theorem rreadS16_ (X Y P Q : Int) (E1 E2 : Bool) (t1 : (P == 9218868437227405312) = E1) (t2 : (Q == 18442240474082181120) = E2) (u : (E1 && E2) = false) (hpl : ∀ w : World, Calls Try.prog 62 #[.agg #[.int .u64 X, .int .u64 Y]] w fun e w' => e = .returned (.agg #[.int .u64 P, .int .u64 Q]) ∧ Kp w w') (hv : ∀ w : World, Calls Try.prog 45 #[.agg #[.int .u64 P, .int .u64 Q]] w fun e w' => e = .returned (.bool true) ∧ Kp w w') (hw : ∀ w : World, Calls Try.prog 47 #[.agg #[.int .u64 P, .int .u64 Q, .int .i64 16]] w fun e w' => e = .returned (.bool true) ∧ Kp w w') (w : World) : Calls Try.prog 42 #[.agg #[.int .u64 X, .int .u64 Y, .int .i64 16]] w fun e w' => e = .returned (.agg #[.int .u64 P, .int .u64 Q, .int .i64 16]) ∧ Kp w w' := by
  cases E1 <;> cases E2
  case true.true => cases u
  all_goals (
    clear u
    go_enter Try.func42, Try.ntmps42
    go_upto_region 1 with fail
    have sx : H3c ((w.alloc (.cells #[.int .u64 X, .int .u64 Y, .int .i64 16] 47)).alloc (.cells #[.int .u64 0, .int .u64 0, .int .i64 0] 47)) w.heap.size (.int .u64 X) (.int .u64 Y) (.int .i64 16) := H3c.keep (H3c.new w (.int .u64 X) (.int .u64 Y) (.int .i64 16) 47) ((Kp.refl _).alloc _)
    have sr := H3c.two w #[.int .u64 X, .int .u64 Y, .int .i64 16] (.int .u64 0) (.int .u64 0) (.int .i64 0) 47 47
    have kw : Kp w ((w.alloc (.cells #[.int .u64 X, .int .u64 Y, .int .i64 16] 47)).alloc (.cells #[.int .u64 0, .int .u64 0, .int .i64 0] 47)) := ((Kp.refl w).alloc _).alloc _
    have hsw : w.heap.size + 1 < ((w.alloc (.cells #[.int .u64 X, .int .u64 Y, .int .i64 16] 47)).alloc (.cells #[.int .u64 0, .int .u64 0, .int .i64 0] 47)).heap.size := by simp
    generalize (w.alloc (.cells #[.int .u64 X, .int .u64 Y, .int .i64 16] 47)).alloc (.cells #[.int .u64 0, .int .u64 0, .int .i64 0] 47) = W at sx sr kw hsw ⊢
    obtain ⟨x0, x1, x2, x3, x4, x5⟩ := id sx
    obtain ⟨r0, r1, r2, r3, r4, r5⟩ := id sr
    go_cut [3] (fun s3 wx => ∃ g : Nat, s3 = .pointer (some ⟨g, 0, none⟩) ∧ H3c wx g (.int .u64 P) (.int .u64 Q) (.int .i64 16) ∧ Kp W wx ∧ W.heap.size ≤ g)
    case first =>
      go_region_held3 (fun w' => w'.cell? ⟨w.heap.size, 0, none⟩ = some (.int .u64 X) ∧ w'.cell? ⟨w.heap.size, 1, none⟩ = some (.int .u64 Y) ∧ w'.cell? ⟨w.heap.size, 2, none⟩ = some (.int .i64 16)) (first | (with_reducible exact ⟨x0, x1, x2⟩) | (with_reducible exact ⟨cb0_0, cb0_1, cb0_2⟩) | (refine ⟨(kkeep (W := W) ?_ x0), (kkeep (W := W) ?_ x1), (kkeep (W := W) ?_ x2)⟩ <;> ((repeat (first | with_reducible exact Kp.refl _ | with_reducible apply Kp.drew | with_reducible apply Kp.alloc)); done)) | (refine ⟨(kkeep (W := w1) ?_ cb0_0), (kkeep (W := w1) ?_ cb0_1), (kkeep (W := w1) ?_ cb0_2)⟩ <;> ((repeat (first | with_reducible exact Kp.refl _ | with_reducible apply Kp.drew | with_reducible apply Kp.alloc)); done)) | (refine ⟨?_, ?_, ?_⟩ <;> (refine ((World.cell?_setCell_far _ _ _ _ ?_).trans ((World.cell?_setCell_far _ _ _ _ ?_).trans ((World.cell?_setCell_far _ _ _ _ ?_).trans ?_))) <;> first | assumption | (have h90 := cell_lt x0; have h91 := cell_lt x1; have h92 := cell_lt x2; have h80 := Below.size KB0; first | omega | (simp <;> omega))))) (first | (go_at_call 62; refine (hpl _).mono ?_; rintro e w1 ⟨rfl, g1⟩; have KB0 : Kp W w1 := Kp.trans (by (repeat (first | exact Kp.refl _ | apply Kp.drew | apply Kp.alloc)); done) g1; have cb0_0 := kkeep KB0 x0; have cb0_1 := kkeep KB0 x1; have cb0_2 := kkeep KB0 x2; first | ((with_reducible have hb9 := (H3c.keep (H3c.newD W (.int .u64 0) (.int .u64 0) (.int .i64 0) 47) g1)); obtain ⟨mb0, mb1, mb2, mb3, mb4, mb5⟩ := id hb9) | skip))
      all_goals go_wp2_with fail
      all_goals (
        go_meet
        refine ⟨_, rfl, ?_, ?_, ?_⟩
        · first | (with_reducible exact H3c.put hb9 _ _ _) | (with_reducible exact H3c.put (H3c.new w1 (.int .u64 0) (.int .u64 0) (.int .i64 0) 47) _ _ _) | (with_reducible exact H3c.new w1 _ _ _ 47) | (unfold H3c; simp [go_sem]; done)
        · have h80 := Below.size KB0
          first | (with_reducible exact (Kp.alloc KB0 _)) | ((with_reducible refine (Kp.setCell (Kp.setCell (Kp.setCell KB0 ?_ _) ?_ _) ?_ _)) <;> first | omega | (simp <;> omega)) | ((with_reducible refine (Kp.setCell (Kp.setCell (Kp.setCell (Kp.alloc KB0 _) ?_ _) ?_ _) ?_ _)) <;> first | omega | (simp <;> omega))
        · have h80 := Below.size KB0
          first | exact Nat.le_refl _ | omega | (simp <;> omega))
    case rest =>
    obtain ⟨g3, rfl, q3, gc, hg9⟩ := hcut
    replace kw := Kp.trans kw gc
    replace sx := H3c.keep sx gc
    replace sr := H3c.keep sr gc
    clear x0 x1 x2 x3 x4 x5 r0 r1 r2 r3 r4 r5
    obtain ⟨x0, x1, x2, x3, x4, x5⟩ := id sx
    obtain ⟨r0, r1, r2, r3, r4, r5⟩ := id sr
    obtain ⟨y0, y1, y2, y3, y4, y5⟩ := id q3
    have hne : g3 ≠ w.heap.size + 1 := by omega
    have hne2 : w.heap.size + 1 ≠ g3 := by omega
    have hwg : w.heap.size ≤ g3 := by omega
    clear hg9 hsw
    go_upto_region 4 with (first | (go_at_call 45; refine (hv _).mono ?_; rintro e w2 ⟨rfl, g2⟩; replace kw := Kp.trans kw g2; replace sx := H3c.keep sx g2; replace sr := H3c.keep sr g2; replace q3 := H3c.keep q3 g2; clear x0 x1 x2 x3 x4 x5 r0 r1 r2 r3 r4 r5 y0 y1 y2 y3 y4 y5; obtain ⟨x0, x1, x2, x3, x4, x5⟩ := id sx; obtain ⟨r0, r1, r2, r3, r4, r5⟩ := id sr; obtain ⟨y0, y1, y2, y3, y4, y5⟩ := id q3))
    refine Fq.wp_region_grow (by kernel_rfl) (by kernel_rfl) (fun ι _ G hG hall => ?_)
    have cc0 : ∀ n, (G n).cell? ⟨g3, 0, none⟩ = some (.int .u64 P) := fun n => Fq.gkeep (hG n) y0
    have cc1 : ∀ n, (G n).cell? ⟨g3, 1, none⟩ = some (.int .u64 Q) := fun n => Fq.gkeep (hG n) y1
    have cc2 : ∀ n, (G n).cell? ⟨g3, 2, none⟩ = some (.int .i64 16) := fun n => Fq.gkeep (hG n) y2
    repeat (go_big_quiet_step (first | (go_at_call 60; exact (rempty9_ _).mono (fun e w' h => ⟨h.1, hall _ (Fq.gtrans (hG _) h.2)⟩))))
    refine wpQuiet_nil ?_
    rintro _ ⟨nq, rfl⟩
    have gq : Kp w2 (G nq) := hG nq
    clear cc0 cc1 cc2 hall hG
    replace kw := Kp.trans kw gq
    replace sx := H3c.keep sx gq
    replace sr := H3c.keep sr gq
    replace q3 := H3c.keep q3 gq
    clear x0 x1 x2 x3 x4 x5 r0 r1 r2 r3 r4 r5 y0 y1 y2 y3 y4 y5
    obtain ⟨x0, x1, x2, x3, x4, x5⟩ := id sx
    obtain ⟨r0, r1, r2, r3, r4, r5⟩ := id sr
    obtain ⟨y0, y1, y2, y3, y4, y5⟩ := id q3
    go_wp2_with (first | (go_at_call 47; refine (hw _).mono ?_; rintro e w4 ⟨rfl, g4⟩; replace kw := Kp.trans kw g4; replace sx := H3c.keep sx g4; replace sr := H3c.keep sr g4; replace q3 := H3c.keep q3 g4; clear x0 x1 x2 x3 x4 x5 r0 r1 r2 r3 r4 r5 y0 y1 y2 y3 y4 y5; obtain ⟨x0, x1, x2, x3, x4, x5⟩ := id sx; obtain ⟨r0, r1, r2, r3, r4, r5⟩ := id sr; obtain ⟨y0, y1, y2, y3, y4, y5⟩ := id q3))
    exact bodyPost_ret (v := .agg #[.int .u64 P, .int .u64 Q, .int .i64 16]) (by simp [results, Try.results42, go_sem, r0, r1, r2]) rfl ⟨rfl, (((kw.setCell (by simp) _).setCell (by simp) _).setCell (by simp) _)⟩)
set_option maxRecDepth 20000 in
set_option maxHeartbeats 2000000 in
theorem rreadT16_ (X Y P Q : Int) (E1 E2 : Bool) (t1 : (P == 9218868437227405312) = E1) (t2 : (Q == 18442240474082181120) = E2) (u : (E1 && E2) = false) (hpl : ∀ w : World, Calls Try.prog 62 #[.agg #[.int .u64 X, .int .u64 Y]] w fun e w' => e = .returned (.agg #[.int .u64 P, .int .u64 Q]) ∧ Kp w w') (hv : ∀ w : World, Calls Try.prog 45 #[.agg #[.int .u64 P, .int .u64 Q]] w fun e w' => e = .returned (.bool true) ∧ Kp w w') (hw : ∀ w : World, Calls Try.prog 47 #[.agg #[.int .u64 P, .int .u64 Q, .int .i64 16]] w fun e w' => e = .returned (.bool false) ∧ Kp w w') (w : World) : Calls Try.prog 42 #[.agg #[.int .u64 X, .int .u64 Y, .int .i64 16]] w fun e w' => e = .returned (.agg #[.int .u64 P, .int .u64 Q, .int .i64 12]) ∧ Kp w w' := by
  cases E1 <;> cases E2
  case true.true => cases u
  all_goals (
    clear u
    go_enter Try.func42, Try.ntmps42
    go_upto_region 1 with fail
    have sx : H3c ((w.alloc (.cells #[.int .u64 X, .int .u64 Y, .int .i64 16] 47)).alloc (.cells #[.int .u64 0, .int .u64 0, .int .i64 0] 47)) w.heap.size (.int .u64 X) (.int .u64 Y) (.int .i64 16) := H3c.keep (H3c.new w (.int .u64 X) (.int .u64 Y) (.int .i64 16) 47) ((Kp.refl _).alloc _)
    have sr := H3c.two w #[.int .u64 X, .int .u64 Y, .int .i64 16] (.int .u64 0) (.int .u64 0) (.int .i64 0) 47 47
    have kw : Kp w ((w.alloc (.cells #[.int .u64 X, .int .u64 Y, .int .i64 16] 47)).alloc (.cells #[.int .u64 0, .int .u64 0, .int .i64 0] 47)) := ((Kp.refl w).alloc _).alloc _
    have hsw : w.heap.size + 1 < ((w.alloc (.cells #[.int .u64 X, .int .u64 Y, .int .i64 16] 47)).alloc (.cells #[.int .u64 0, .int .u64 0, .int .i64 0] 47)).heap.size := by simp
    generalize (w.alloc (.cells #[.int .u64 X, .int .u64 Y, .int .i64 16] 47)).alloc (.cells #[.int .u64 0, .int .u64 0, .int .i64 0] 47) = W at sx sr kw hsw ⊢
    obtain ⟨x0, x1, x2, x3, x4, x5⟩ := id sx
    obtain ⟨r0, r1, r2, r3, r4, r5⟩ := id sr
    go_cut [3] (fun s3 wx => ∃ g : Nat, s3 = .pointer (some ⟨g, 0, none⟩) ∧ H3c wx g (.int .u64 P) (.int .u64 Q) (.int .i64 16) ∧ Kp W wx ∧ W.heap.size ≤ g)
    case first =>
      go_region_held3 (fun w' => w'.cell? ⟨w.heap.size, 0, none⟩ = some (.int .u64 X) ∧ w'.cell? ⟨w.heap.size, 1, none⟩ = some (.int .u64 Y) ∧ w'.cell? ⟨w.heap.size, 2, none⟩ = some (.int .i64 16)) (first | (with_reducible exact ⟨x0, x1, x2⟩) | (with_reducible exact ⟨cb0_0, cb0_1, cb0_2⟩) | (refine ⟨(kkeep (W := W) ?_ x0), (kkeep (W := W) ?_ x1), (kkeep (W := W) ?_ x2)⟩ <;> ((repeat (first | with_reducible exact Kp.refl _ | with_reducible apply Kp.drew | with_reducible apply Kp.alloc)); done)) | (refine ⟨(kkeep (W := w1) ?_ cb0_0), (kkeep (W := w1) ?_ cb0_1), (kkeep (W := w1) ?_ cb0_2)⟩ <;> ((repeat (first | with_reducible exact Kp.refl _ | with_reducible apply Kp.drew | with_reducible apply Kp.alloc)); done)) | (refine ⟨?_, ?_, ?_⟩ <;> (refine ((World.cell?_setCell_far _ _ _ _ ?_).trans ((World.cell?_setCell_far _ _ _ _ ?_).trans ((World.cell?_setCell_far _ _ _ _ ?_).trans ?_))) <;> first | assumption | (have h90 := cell_lt x0; have h91 := cell_lt x1; have h92 := cell_lt x2; have h80 := Below.size KB0; first | omega | (simp <;> omega))))) (first | (go_at_call 62; refine (hpl _).mono ?_; rintro e w1 ⟨rfl, g1⟩; have KB0 : Kp W w1 := Kp.trans (by (repeat (first | exact Kp.refl _ | apply Kp.drew | apply Kp.alloc)); done) g1; have cb0_0 := kkeep KB0 x0; have cb0_1 := kkeep KB0 x1; have cb0_2 := kkeep KB0 x2; first | ((with_reducible have hb9 := (H3c.keep (H3c.newD W (.int .u64 0) (.int .u64 0) (.int .i64 0) 47) g1)); obtain ⟨mb0, mb1, mb2, mb3, mb4, mb5⟩ := id hb9) | skip))
      all_goals go_wp2_with fail
      all_goals (
        go_meet
        refine ⟨_, rfl, ?_, ?_, ?_⟩
        · first | (with_reducible exact H3c.put hb9 _ _ _) | (with_reducible exact H3c.put (H3c.new w1 (.int .u64 0) (.int .u64 0) (.int .i64 0) 47) _ _ _) | (with_reducible exact H3c.new w1 _ _ _ 47) | (unfold H3c; simp [go_sem]; done)
        · have h80 := Below.size KB0
          first | (with_reducible exact (Kp.alloc KB0 _)) | ((with_reducible refine (Kp.setCell (Kp.setCell (Kp.setCell KB0 ?_ _) ?_ _) ?_ _)) <;> first | omega | (simp <;> omega)) | ((with_reducible refine (Kp.setCell (Kp.setCell (Kp.setCell (Kp.alloc KB0 _) ?_ _) ?_ _) ?_ _)) <;> first | omega | (simp <;> omega))
        · have h80 := Below.size KB0
          first | exact Nat.le_refl _ | omega | (simp <;> omega))
    case rest =>
    obtain ⟨g3, rfl, q3, gc, hg9⟩ := hcut
    replace kw := Kp.trans kw gc
    replace sx := H3c.keep sx gc
    replace sr := H3c.keep sr gc
    clear x0 x1 x2 x3 x4 x5 r0 r1 r2 r3 r4 r5
    obtain ⟨x0, x1, x2, x3, x4, x5⟩ := id sx
    obtain ⟨r0, r1, r2, r3, r4, r5⟩ := id sr
    obtain ⟨y0, y1, y2, y3, y4, y5⟩ := id q3
    have hne : g3 ≠ w.heap.size + 1 := by omega
    have hne2 : w.heap.size + 1 ≠ g3 := by omega
    have hwg : w.heap.size ≤ g3 := by omega
    clear hg9 hsw
    go_upto_region 4 with (first | (go_at_call 45; refine (hv _).mono ?_; rintro e w2 ⟨rfl, g2⟩; replace kw := Kp.trans kw g2; replace sx := H3c.keep sx g2; replace sr := H3c.keep sr g2; replace q3 := H3c.keep q3 g2; clear x0 x1 x2 x3 x4 x5 r0 r1 r2 r3 r4 r5 y0 y1 y2 y3 y4 y5; obtain ⟨x0, x1, x2, x3, x4, x5⟩ := id sx; obtain ⟨r0, r1, r2, r3, r4, r5⟩ := id sr; obtain ⟨y0, y1, y2, y3, y4, y5⟩ := id q3))
    refine Fq.wp_region_grow (by kernel_rfl) (by kernel_rfl) (fun ι _ G hG hall => ?_)
    have cc0 : ∀ n, (G n).cell? ⟨g3, 0, none⟩ = some (.int .u64 P) := fun n => Fq.gkeep (hG n) y0
    have cc1 : ∀ n, (G n).cell? ⟨g3, 1, none⟩ = some (.int .u64 Q) := fun n => Fq.gkeep (hG n) y1
    have cc2 : ∀ n, (G n).cell? ⟨g3, 2, none⟩ = some (.int .i64 16) := fun n => Fq.gkeep (hG n) y2
    repeat (go_big_quiet_step (first | (go_at_call 60; exact (rempty9_ _).mono (fun e w' h => ⟨h.1, hall _ (Fq.gtrans (hG _) h.2)⟩))))
    refine wpQuiet_nil ?_
    rintro _ ⟨nq, rfl⟩
    have gq : Kp w2 (G nq) := hG nq
    clear cc0 cc1 cc2 hall hG
    replace kw := Kp.trans kw gq
    replace sx := H3c.keep sx gq
    replace sr := H3c.keep sr gq
    replace q3 := H3c.keep q3 gq
    clear x0 x1 x2 x3 x4 x5 r0 r1 r2 r3 r4 r5 y0 y1 y2 y3 y4 y5
    obtain ⟨x0, x1, x2, x3, x4, x5⟩ := id sx
    obtain ⟨r0, r1, r2, r3, r4, r5⟩ := id sr
    obtain ⟨y0, y1, y2, y3, y4, y5⟩ := id q3
    go_wp2_with (first | (go_at_call 47; refine (hw _).mono ?_; rintro e w4 ⟨rfl, g4⟩; replace kw := Kp.trans kw g4; replace sx := H3c.keep sx g4; replace sr := H3c.keep sr g4; replace q3 := H3c.keep q3 g4; clear x0 x1 x2 x3 x4 x5 r0 r1 r2 r3 r4 r5 y0 y1 y2 y3 y4 y5; obtain ⟨x0, x1, x2, x3, x4, x5⟩ := id sx; obtain ⟨r0, r1, r2, r3, r4, r5⟩ := id sr; obtain ⟨y0, y1, y2, y3, y4, y5⟩ := id q3))
    exact bodyPost_ret (v := .agg #[.int .u64 P, .int .u64 Q, .int .i64 12]) (by simp [results, Try.results42, go_sem, r0, r1, r2]) rfl ⟨rfl, ((((kw.setCell hwg _).setCell (by simp) _).setCell (by simp) _).setCell (by simp) _)⟩)
end B8
end Go.Proofs.Ytbcjhmdkpkmieaa
namespace Go.Proofs.Ytbcjhmdkpkmieaa
open Go.RowKit
open Go
namespace B8
theorem bneI (D k : Int) (h : D ≠ k) : (D != k) = true := by simpa using h
theorem rplainN_ (a b : Nat) (w : World) : Calls Try.prog 62 #[.agg #[.int .u64 ((a : Nat) : Int), .int .u64 ((b : Nat) : Int)]] w fun e w' => e = .returned (.agg #[.int .u64 ((Fq.pla a : Nat) : Int), .int .u64 ((Fq.pla b : Nat) : Int)]) ∧ Kp w w' := by
  have h := rplain_ (a : Int) (b : Int) _ _ (beqN a 9223372036854775808) (beqN b 9223372036854775808) w
  have e : ∀ x : Nat, (if decide (x = 9223372036854775808) = true then (0 : Int) else (x : Int)) = ((Fq.pla x : Nat) : Int) := by
    intro x
    unfold Fq.pla
    by_cases c : x = 9223372036854775808
    · rw [if_pos c, decide_eq_true c]; rfl
    · rw [if_neg c, decide_eq_false c]; rfl
  rw [e a, e b] at h
  exact h
end B8
end Go.Proofs.Ytbcjhmdkpkmieaa
namespace Go.Proofs.Ytbcjhmdkpkmieaa
open Go.RowKit
open Go
namespace B8
theorem rread13_ (a b : Nat) (L H D : Int) (hx : Rd a b L H) (w : World) : Calls Try.prog 42 #[.agg #[.int .u64 ((a : Nat) : Int), .int .u64 ((b : Nat) : Int), .int .i64 D]] w fun e w' => e = .returned (.agg #[.int .u64 ((dL a b L (dN L H D) : Nat) : Int), .int .u64 ((dH a b L H (dN L H D) : Nat) : Int), .int .i64 (dR a b L (dN L H D))]) ∧ Kp w w' := by
  have hpl := rplainN_ a b
  have hv := rvalid9n_ (Fq.pla a) (Fq.pla b) (pla_lt a hx.1) (pla_lt b hx.2.1)
  rw [vld_pla a b L H hx] at hv
  unfold dL dH dR
  by_cases c : L = 9218868437227405312
  · have eH : H = -9218868437227405312 := by have := hx.vd; unfold VdZ at this; omega
    have eL2 : pw L = 9218868437227405312 := by rw [c]; exact pw_I
    have eH2 : pw H = 18442240474082181120 := by rw [eH]; exact pw_MI
    rw [decide_eq_true c] at hv
    by_cases e : a = 9218868437227405312 ∧ b = 18442240474082181120
    · rw [decide_eq_true e] at hv
      have p1 : Fq.pla a = 9218868437227405312 := (pla_eq a 9218868437227405312 (by decide) (by decide)).2 e.1
      have p2 : Fq.pla b = 18442240474082181120 := (pla_eq b 18442240474082181120 (by decide) (by decide)).2 e.2
      rw [p1, p2] at hv hpl
      rw [eL2, eH2]
      have hd : ∀ k : Int, k = 4 ∨ k = 8 ∨ k = 12 ∨ k = 16 → dN L H k = 4 := by
        intro k hk
        unfold dN fallN
        rw [decide_eq_true c]
        rcases hk with rfl | rfl | rfl | rfl <;> simp
      by_cases c4 : D = 4
      · subst c4; rw [hd 4 (by simp), if_neg (by simp [e]), if_neg (by simp [e]), if_neg (by simp [e])]
        exact rreadE4_ _ _ _ _ rfl rfl hpl hv w
      by_cases c8 : D = 8
      · subst c8; rw [hd 8 (by simp), if_neg (by simp [e]), if_neg (by simp [e]), if_neg (by simp [e])]
        exact rreadE8_ _ _ _ _ rfl rfl hpl hv w
      by_cases c12 : D = 12
      · subst c12; rw [hd 12 (by simp), if_neg (by simp [e]), if_neg (by simp [e]), if_neg (by simp [e])]
        exact rreadE12_ _ _ _ _ rfl rfl hpl hv w
      by_cases c16 : D = 16
      · subst c16; rw [hd 16 (by simp), if_neg (by simp [e]), if_neg (by simp [e]), if_neg (by simp [e])]
        exact rreadE16_ _ _ _ _ rfl rfl hpl hv w
      have h0 : dN L H D = 0 := by unfold dN fallN; rw [if_neg c16, if_neg c12, if_neg c8, if_neg c4]
      rw [h0, if_pos (Or.inl rfl), if_pos (Or.inl rfl), if_pos (Or.inl rfl)]
      exact rreadB_ _ _ _ _ D (bneI D 4 c4) (bneI D 8 c8) (bneI D 12 c12) (bneI D 16 c16) hpl hv w
    · rw [decide_eq_false e] at hv
      rw [if_pos (Or.inr ⟨c, e⟩), if_pos (Or.inr ⟨c, e⟩), if_pos (Or.inr ⟨c, e⟩)]
      exact rreadA_ _ _ _ _ D hpl hv w
  · have ep := rd_pla a b L H hx c
    rw [decide_eq_false c, Bool.not_false, Bool.true_or] at hv
    have hva := rval13_ (pw L) (pw H) 16 (pw_lt L hx.vd.lo) (pw_lt H hx.vd.hi)
    have hva2 : vdD (pw L) (pw H) 16 = (!decide (L = 9218868437227405312 ∨ L = -9218868437227405312) && !decide (H = 9218868437227405312 ∨ H = -9218868437227405312)) := by
      have i1 := pw_inj L 9218868437227405312 hx.vd.lo (by unfold BdZ; omega)
      have i2 := pw_inj L (-9218868437227405312) hx.vd.lo (by unfold BdZ; omega)
      have i3 := pw_inj H 9218868437227405312 hx.vd.hi (by unfold BdZ; omega)
      have i4 := pw_inj H (-9218868437227405312) hx.vd.hi (by unfold BdZ; omega)
      rw [pw_I] at i1 i3
      rw [pw_MI] at i2 i4
      have hvl : Fq.vld (pw L) (pw H) = true := by
        have := vld_pla a b L H hx
        rw [ep.1, ep.2, decide_eq_false c] at this
        rw [this]; rfl
      unfold vdD
      rw [hvl, decide_eq_false (fun h => c (i1.1 h.1) : ¬ (pw L = 9218868437227405312 ∧ pw H = 18442240474082181120 ∧ (16 : Int) = 0)), decide_eq_false (fun h => c (i1.1 h.1) : ¬ (pw L = 9218868437227405312 ∧ pw H = 18442240474082181120)), show decide (pw L = 9218868437227405312 ∨ pw L = 18442240474082181120) = decide (L = 9218868437227405312 ∨ L = -9218868437227405312) from by congr 1; apply propext; rw [i1, i2], show decide (pw H = 9218868437227405312 ∨ pw H = 18442240474082181120) = decide (H = 9218868437227405312 ∨ H = -9218868437227405312) from by congr 1; apply propext; rw [i3, i4]]
      cases decide (L = 9218868437227405312 ∨ L = -9218868437227405312) <;> cases decide (H = 9218868437227405312 ∨ H = -9218868437227405312) <;> rfl
    rw [hva2] at hva
    rw [ep.1, ep.2] at hv hpl
    have i1 := pw_inj L 9218868437227405312 hx.vd.lo (by unfold BdZ; omega)
    rw [pw_I] at i1
    have t1 : ((pw L : Int) == 9218868437227405312) = decide (pw L = 9218868437227405312) := beqN (pw L) 9218868437227405312
    rw [decide_eq_false (fun h => c (i1.1 h))] at t1
    have hd : ∀ k : Int, dN L H k = fallN k true true (!decide (L = 9218868437227405312 ∨ L = -9218868437227405312) && !decide (H = 9218868437227405312 ∨ H = -9218868437227405312)) := by
      intro k
      unfold dN
      rw [decide_eq_false c]; rfl
    rw [hd D]
    generalize (!decide (L = 9218868437227405312 ∨ L = -9218868437227405312) && !decide (H = 9218868437227405312 ∨ H = -9218868437227405312)) = C at hva
    by_cases c4 : D = 4
    · subst c4; rw [show fallN 4 true true C = 4 from rfl, if_neg (by simp [c]), if_neg (by simp [c]), if_neg (by simp [c])]
      exact rreadS4_ _ _ _ _ _ _ t1 rfl rfl hpl hv w
    by_cases c8 : D = 8
    · subst c8; rw [show fallN 8 true true C = 8 from rfl, if_neg (by simp [c]), if_neg (by simp [c]), if_neg (by simp [c])]
      exact rreadS8_ _ _ _ _ _ _ t1 rfl rfl hpl hv w
    by_cases c12 : D = 12
    · subst c12; rw [show fallN 12 true true C = 12 from rfl, if_neg (by simp [c]), if_neg (by simp [c]), if_neg (by simp [c])]
      exact rreadS12_ _ _ _ _ _ _ t1 rfl rfl hpl hv w
    by_cases c16 : D = 16
    · subst c16
      cases C
      · rw [show fallN 16 true true false = 12 from rfl, if_neg (by simp [c]), if_neg (by simp [c]), if_neg (by simp [c])]
        exact rreadT16_ _ _ _ _ _ _ t1 rfl rfl hpl hv hva w
      · rw [show fallN 16 true true true = 16 from rfl, if_neg (by simp [c]), if_neg (by simp [c]), if_neg (by simp [c])]
        exact rreadS16_ _ _ _ _ _ _ t1 rfl rfl hpl hv hva w
    have h0 : fallN D true true C = 0 := by unfold fallN; rw [if_neg c16, if_neg c12, if_neg c8, if_neg c4]
    rw [h0, if_pos (Or.inl rfl), if_pos (Or.inl rfl), if_pos (Or.inl rfl)]
    exact rreadB_ _ _ _ _ D (bneI D 4 c4) (bneI D 8 c8) (bneI D 12 c12) (bneI D 16 c16) hpl hv w
end B8
end Go.Proofs.Ytbcjhmdkpkmieaa
namespace Go.Proofs.Ytbcjhmdkpkmieaa
open Go.RowKit
open Go
namespace B8
theorem arr_one (w : World) (R : Int) : Arr (w.alloc (.cells #[.int .u8 R] 5)) (some ⟨w.heap.size, 0, none⟩) [R] := Or.inr ⟨_, 0, rfl, fun j hj => by
  have : j = 0 := by simp at hj; omega
  subst this; simp [go_sem]⟩
theorem arr_oneD (w : World) (R : Int) : Arr ((w.alloc (.cells #[.int .u8 R] 5)).drew) (some ⟨w.heap.size, 0, none⟩) [R] := (arr_one w R).grown ((Kp.refl _).drew)
set_option maxRecDepth 20000 in
set_option maxHeartbeats 1000000 in
theorem rputdecoA_ (X Y P Q D R : Int) (xs : List Int) (hxs : xs.length = 16) (hR0 : 0 ≤ R) (hR1 : R < 256) (hr : ∀ w : World, Calls Try.prog 42 #[.agg #[.int .u64 X, .int .u64 Y, .int .i64 D]] w fun e w' => e = .returned (.agg #[.int .u64 P, .int .u64 Q, .int .i64 R]) ∧ Kp w w') (hf : ∀ w : World, Calls Try.prog 40 #[.agg #[.int .u64 P, .int .u64 Q]] w fun e w' => ∃ v, e = .returned v ∧ Own w' w.heap.size v xs ∧ Kp w w') (w : World) : Calls Try.prog 20 #[.agg #[.int .u64 X, .int .u64 Y, .int .i64 D]] w fun e w' => ∃ v, e = .returned v ∧ Own w' w.heap.size v (xs ++ [R]) ∧ Kp w w' := by
  have hcw : IntKind.u8.wrap R = R := by rw [IntKind.wrap_u8]; omega
  have HJ : ∀ (p q : Option Addr) (c d : Nat) (W : World), Arr W p xs → Arr W q [IntKind.u8.wrap R] → Calls Try.prog 43 #[.slice p 16 c, .slice q 1 d] W fun e w' => ∃ v, e = .returned v ∧ Own w' W.heap.size v (xs ++ [R]) ∧ Kp W w' := by
    intro p q c d W h1 h2
    rw [hcw] at h2
    have := joined_ p q c d xs [R] W h1 h2 (by rw [hxs]; decide) (by simp)
    rw [hxs] at this
    exact this
  go_enter Try.func20, Try.ntmps20
  go_upto_region 2 with (first | (go_at_call 42; refine (hr _).mono ?_; rintro e w1 ⟨rfl, g1⟩; have kw : Kp w w1 := Kp.trans ((Kp.refl w).alloc _) g1))
  have sx := H3c.new w1 (.int .u64 P) (.int .u64 Q) (.int .i64 R) 47
  replace kw := kw.alloc (.cells #[.int .u64 P, .int .u64 Q, .int .i64 R] 47)
  generalize w1.alloc (.cells #[.int .u64 P, .int .u64 Q, .int .i64 R] 47) = w0 at sx kw ⊢
  generalize w1.heap.size = B at sx ⊢
  obtain ⟨z0, z1, z2, -, -, -⟩ := id sx
  clear g1 sx hr hcw
  go_region_held3 (fun w' => w'.cell? ⟨B, 0, none⟩ = some (.int .u64 P) ∧ w'.cell? ⟨B, 1, none⟩ = some (.int .u64 Q) ∧ w'.cell? ⟨B, 2, none⟩ = some (.int .i64 R)) (refine ⟨kkeep (W := w0) ?_ z0, kkeep (W := w0) ?_ z1, kkeep (W := w0) ?_ z2⟩ <;> ((repeat (first | with_reducible exact kk3 | with_reducible exact kk1 | with_reducible exact Kp.refl _ | with_reducible refine Kp.drew ?_ | with_reducible refine Kp.alloc ?_ _)); done)) (first | (go_at_call 43; have hh := a1; (first | refine (HJ _ _ _ _ _ a1 ((arr_oneD w0 (IntKind.u8.wrap R)).grown k1)).mono ?_ | refine (HJ _ _ _ _ _ (a1.grown ((Kp.refl _).alloc _)) (arr_one v1 (IntKind.u8.wrap R))).mono ?_); rintro e v3 ⟨v, rfl, o3, k3⟩; have kk3 : Kp w0 v3 := Kp.trans ?q3 k3; (case q3 => ((repeat (first | with_reducible exact kk3 | with_reducible exact kk1 | with_reducible exact Kp.refl _ | with_reducible refine Kp.drew ?_ | with_reducible refine Kp.alloc ?_ _)); done)); replace o3 := o3.mono (show w.heap.size ≤ _ from Nat.le_trans (Below.size kw) (Nat.le_trans (Below.size kk1) (by first | exact Nat.le_refl _ | simp)))) | (go_at_call 40; refine (hf _).mono ?_; rintro e v1 ⟨v, rfl, o1, k1⟩; have kk1 : Kp w0 v1 := Kp.trans ?q1 k1; (case q1 => ((repeat (first | with_reducible exact kk3 | with_reducible exact kk1 | with_reducible exact Kp.refl _ | with_reducible refine Kp.drew ?_ | with_reducible refine Kp.alloc ?_ _)); done)); obtain ⟨p1, c1, rfl, a1, -⟩ := o1.arr; rw [hxs]))
  all_goals (
    have hK := Kp.trans kw kk3
    clear kk3 kk1 k1 k3 a1 o1 hf HJ z0 z1 z2 kw
    go_wp2
    exact bodyPost_ret (v := v) (by simp [results, Try.results20, go_sem]) rfl ⟨_, rfl, o3, hK⟩)
end B8
end Go.Proofs.Ytbcjhmdkpkmieaa
namespace Go.Proofs.Ytbcjhmdkpkmieaa
open Go.RowKit
open Go
namespace B8
set_option maxRecDepth 20000 in
set_option maxHeartbeats 1000000 in
theorem decoslaw_ (a b : Nat) (D : Int) (ha : a < 18446744073709551616) (hb : b < 18446744073709551616) (w : World) : Calls Try.prog 5 #[.agg #[.int .u64 ((a : Nat) : Int), .int .u64 ((b : Nat) : Int), .int .i64 D]] w fun e w' => e = .returned (.bool true) ∧ Kp w w' := by
  obtain ⟨L, H, hx⟩ := Rd.ex a b ha hb
  have hr0 := dread_ a b L H D hx
  have hr1 := rread13_ a b L H D hx
  have hRb : 0 ≤ dR a b L (dN L H D) ∧ dR a b L (dN L H D) < 256 := by
    have h1 : 0 ≤ dN L H D ∧ dN L H D < 256 := by
      unfold dN fallN
      repeat' split
      all_goals omega
    unfold dR
    split <;> omega
  have hz : ∃ L2 H2, Rd (dL a b L (dN L H D)) (dH a b L H (dN L H D)) L2 H2 ∧ dL a b L (dN L H D) = pw L2 ∧ dH a b L H (dN L H D) = pw H2 := by
    unfold dL dH
    by_cases c : dN L H D = 0 ∨ (L = 9218868437227405312 ∧ ¬ (a = 9218868437227405312 ∧ b = 18442240474082181120))
    · rw [if_pos c, if_pos c]
      have v : VdZ 9218868437227405312 (-9218868437227405312) := Or.inl ⟨rfl, rfl⟩
      have r := Rd.of v
      rw [pw_I, pw_MI] at r
      exact ⟨_, _, r, pw_I.symm, pw_MI.symm⟩
    · rw [if_neg c, if_neg c]
      exact ⟨_, _, Rd.of hx.vd, rfl, rfl⟩
  obtain ⟨L2, H2, hz, e1, e2⟩ := hz
  have hp0 := put_ _ _ (pw L2) (pw H2) hz.call
  have hf0 := rform_ (pw L2) (pw H2) (pw_lt L2 hz.vd.lo) (pw_lt H2 hz.vd.hi)
  rw [← e1, ← e2] at hf0
  rw [← e1, ← e2] at hp0
  have hl0 : (by8 (dL a b L (dN L H D)) ++ by8 (dH a b L H (dN L H D))).length = 16 := by rw [List.length_append, by8_len, by8_len]
  have hp := putdecoA_ a b _ _ D _ _ hl0 hRb.1 hRb.2 hr0 hp0
  have hr := rputdecoA_ (a : Int) (b : Int) _ _ D _ _ hl0 hRb.1 hRb.2 hr1 hf0
  have hin := din_ a b D
  have hlen : (by8 (dL a b L (dN L H D)) ++ by8 (dH a b L H (dN L H D)) ++ [dR a b L (dN L H D)]).length = 17 := by rw [List.length_append, hl0]; rfl
  clear hx ha hb hr0 hr1 hRb hz e1 e2 hp0 hf0 hl0
  generalize by8 (dL a b L (dN L H D)) ++ by8 (dH a b L H (dN L H D)) ++ [dR a b L (dN L H D)] = xs at hp hr hlen
  generalize (a : Int) = X at hin hr ⊢
  generalize (b : Int) = Y at hin hr ⊢
  have hs : ∀ (p q : Option Addr) (c d : Nat) (W : World), Arr W p xs → Arr W q xs → Calls Try.prog 10 #[.slice p 17 c, .slice q 17 d] W fun e w' => e = .returned (.bool true) ∧ Kp W w' := by
    intro p q c d W h1 h2
    have := same_ p q c d xs xs W h1 h2 (by rw [hlen]; decide)
    rw [hlen, decide_eq_true rfl] at this
    exact this
  go_enter Try.func5, Try.ntmps5
  go_upto_region 1 with fail
  obtain ⟨B, hB⟩ : ∃ B, B = w.heap.size := ⟨_, rfl⟩
  obtain ⟨w0, hw0⟩ : ∃ w0, w0 = w.alloc (.cells #[.int .u64 X, .int .u64 Y, .int .i64 D] 47) := ⟨_, rfl⟩
  have x0 : w0.cell? ⟨B, 0, none⟩ = some (.int .u64 X) := by rw [hw0, hB]; simp [go_sem]
  have x1 : w0.cell? ⟨B, 1, none⟩ = some (.int .u64 Y) := by rw [hw0, hB]; simp [go_sem]
  have x2 : w0.cell? ⟨B, 2, none⟩ = some (.int .i64 D) := by rw [hw0, hB]; simp [go_sem]
  have kw : Kp w w0 := by rw [hw0]; exact (Kp.refl w).alloc _
  rw [← hB, ← hw0]
  clear hw0 hB
  go_region_held3 (fun w' => w'.cell? ⟨B, 0, none⟩ = some (.int .u64 X) ∧ w'.cell? ⟨B, 1, none⟩ = some (.int .u64 Y) ∧ w'.cell? ⟨B, 2, none⟩ = some (.int .i64 D)) (refine ⟨kkeep (W := w0) ?_ x0, kkeep (W := w0) ?_ x1, kkeep (W := w0) ?_ x2⟩ <;> ((repeat (first | with_reducible exact kk4 | with_reducible exact kk3 | with_reducible exact kk2 | with_reducible exact kk1 | with_reducible exact Kp.refl _ | with_reducible refine Kp.drew ?_)); done)) (first | (go_at_call 10; refine (hs _ _ _ _ _ ?q6 ?q7).mono ?_; (case q6 => exact a2); (case q7 => exact a3); rintro e v4 ⟨rfl, k4⟩; have kk4 : Kp w0 v4 := Kp.trans ?q4 k4; (case q4 => ((repeat (first | with_reducible exact kk4 | with_reducible exact kk3 | with_reducible exact kk2 | with_reducible exact kk1 | with_reducible exact Kp.refl _ | with_reducible refine Kp.drew ?_)); done))) | (go_at_call 20; refine (hr _).mono ?_; rintro e v3 ⟨vv, rfl, o3, k3⟩; have kk3 : Kp w0 v3 := Kp.trans ?q3 k3; (case q3 => ((repeat (first | with_reducible exact kk4 | with_reducible exact kk3 | with_reducible exact kk2 | with_reducible exact kk1 | with_reducible exact Kp.refl _ | with_reducible refine Kp.drew ?_)); done)); obtain ⟨p3, c3, rfl, a3, -⟩ := o3.arr; replace a2 : Arr v3 (some ⟨g, 0, none⟩) xs := a2.grown ?q5; (case q5 => first | exact k3 | exact Kp.trans ((Kp.refl _).drew) k3); rw [hlen]) | (go_at_call 12; refine (hp _).mono ?_; rintro e v2 ⟨g, rfl, hg, hR, k2⟩; have kk2 : Kp w0 v2 := Kp.trans ?q2 k2; (case q2 => ((repeat (first | with_reducible exact kk4 | with_reducible exact kk3 | with_reducible exact kk2 | with_reducible exact kk1 | with_reducible exact Kp.refl _ | with_reducible refine Kp.drew ?_)); done)); have a2 : Arr v2 (some ⟨g, 0, none⟩) xs := arr_all hR hlen) | (go_at_call 19; refine (hin _).mono ?_; rintro e v1 ⟨rfl, k1⟩; have kk1 : Kp w0 v1 := Kp.trans ?q1 k1; (case q1 => ((repeat (first | with_reducible exact kk4 | with_reducible exact kk3 | with_reducible exact kk2 | with_reducible exact kk1 | with_reducible exact Kp.refl _ | with_reducible refine Kp.drew ?_)); done))))
  have hK := Kp.trans kw kk4
  clear kk4 kk3 kk2 kk1 k1 k2 k3 k4 hs hin hp hr
  go_wp2
  exact bodyPost_ret (v := .bool true) (by simp [results, Try.results5, go_sem]) rfl ⟨rfl, hK⟩
end B8
end Go.Proofs.Ytbcjhmdkpkmieaa
