import Derived.Test.YtfdkgkpcocnfoaaProg
import Derived.Test.YtfdkgkpcocnfoaaKXA0
import Derived.Test.YtfdkgkpcocnfoaaKXQF
import Derived.Test.YtfdkgkpcocnfoaaKQA
import Derived.Test.YtfdkgkpcocnfoaaKXQU
import Derived.Test.YtfdkgkpcocnfoaaKXEA
import Derived.Test.YtfdkgkpcocnfoaaKXNR
import Derived.Test.YtfdkgkpcocnfoaaKXM
import Derived.Test.YtfdkgkpcocnfoaaKXY
import Derived.Test.YtfdkgkpcocnfoaaKXEE
import Derived.Test.YtfdkgkpcocnfoaaKMR7Q
import Derived.Test.YtfdkgkpcocnfoaaKXMR
import Derived.Test.YtfdkgkpcocnfoaaKXM3
import Derived.Test.YtfdkgkpcocnfoaaKXO
import Derived.Test.YtfdkgkpcocnfoaaKXO3
import Derived.Test.YtfdkgkpcocnfoaaKXT
import Derived.Test.YtfdkgkpcocnfoaaKXLB
import Derived.Test.YtfdkgkpcocnfoaaKRX
import Derived.Test.YtfdkgkpcocnfoaaKXRL
import Derived.Test.YtfdkgkpcocnfoaaKXCO
import Derived.Test.YtfdkgkpcocnfoaaKLN
import Derived.Test.YtfdkgkpcocnfoaaKXRN
import Derived.Test.YtfdkgkpcocnfoaaKW4
import Derived.Test.YtfdkgkpcocnfoaaKBY
import Derived.Test.YtfdkgkpcocnfoaaKBW
import Derived.Test.YtfdkgkpcocnfoaaKXTZ
import Derived.Test.YtfdkgkpcocnfoaaKXG1
import Derived.Test.YtfdkgkpcocnfoaaKNSm
import Derived.Test.YtfdkgkpcocnfoaaKXH2Q
import Derived.Test.YtfdkgkpcocnfoaaKXG4
import Derived.Test.YtfdkgkpcocnfoaaKEKF
import Derived.Test.YtfdkgkpcocnfoaaKXET
import Derived.Test.YtfdkgkpcocnfoaaKXEG
import Derived.Test.YtfdkgkpcocnfoaaKXEC
import Derived.Test.YtfdkgkpcocnfoaaKXWR
import Derived.Test.YtfdkgkpcocnfoaaKXNS9
import Derived.WalkKit
import Derived.ProofKit
import Derived.RowKit3
import Derived.WalkSpells
import Derived.StillTactics
import Derived.Deep.QuietTactic
import Derived.BigQuiet
import Derived.Below
import Derived.Deep.OwnRows
import Derived.OwnWalk
import Derived.Laws.BitsAllLaws
import Derived.Laws.Slices
import Derived.Laws.Bits64b
import Derived.Laws.FloatArith
import Derived.Deep.RegionHeld3
import Derived.Deep.CutRange
import Derived.Deep.DeepCutAuto
namespace Go.Proofs.Ytfdkgkpcocnfoaa
open Go.RowKit

def H3c (w : World) (b : Nat) (v0 v1 v2 : Value) : Prop := w.cell? ⟨b, 0, none⟩ = some v0 ∧ w.cell? ⟨b, 1, none⟩ = some v1 ∧ w.cell? ⟨b, 2, none⟩ = some v2 ∧ w.frozen? ⟨b, 0, none⟩ = false ∧ w.frozen? ⟨b, 1, none⟩ = false ∧ w.frozen? ⟨b, 2, none⟩ = false
theorem H3c.keep {W w : World} {b : Nat} {v0 v1 v2 : Value} (h : H3c W b v0 v1 v2) (g : Kp W w) : H3c w b v0 v1 v2 := by
  obtain ⟨h0, h1, h2, h3, h4, h5⟩ := h
  exact ⟨kkeep g h0, kkeep g h1, kkeep g h2, (kfro g (cell_lt h0)).trans h3, (kfro g (cell_lt h0)).trans h4, (kfro g (cell_lt h0)).trans h5⟩
theorem H3c.new (w : World) (v0 v1 v2 : Value) (t : TypeId) : H3c (w.alloc (.cells #[v0, v1, v2] t)) w.heap.size v0 v1 v2 := by
  unfold H3c; simp [go_sem]
theorem H3c.lt {w : World} {b : Nat} {v0 v1 v2 : Value} (h : H3c w b v0 v1 v2) : b < w.heap.size := cell_lt h.1
set_option maxRecDepth 20000 in
set_option maxHeartbeats 1000000 in
theorem H3c.put {w : World} {b : Nat} {v0 v1 v2 : Value} (h : H3c w b v0 v1 v2) (u0 u1 u2 : Value) : H3c ((((w.setCell ⟨b, 0, none⟩ u0).setCell ⟨b, 1, none⟩ u1).setCell ⟨b, 2, none⟩ u2)) b u0 u1 u2 := by
  obtain ⟨h0, h1, h2, h3, h4, h5⟩ := h
  unfold H3c; simp [go_sem, h0, h1, h2, h3, h4, h5]
theorem H3c.far1 {w : World} {b : Nat} {v0 v1 v2 : Value} (h : H3c w b v0 v1 v2) (x : Addr) (hne : x.block ≠ b) (u : Value) : H3c (w.setCell x u) b v0 v1 v2 := by
  obtain ⟨h0, h1, h2, h3, h4, h5⟩ := h
  exact ⟨(World.cell?_setCell_far _ _ _ _ hne).trans h0, (World.cell?_setCell_far _ _ _ _ hne).trans h1, (World.cell?_setCell_far _ _ _ _ hne).trans h2, (World.frozen?_setCell _ _ _ _).trans h3, (World.frozen?_setCell _ _ _ _).trans h4, (World.frozen?_setCell _ _ _ _).trans h5⟩
theorem Fq.H2.n1 (w : World) (c : Array Value) (s : TypeId) (u v : Value) (t : TypeId) : Fq.H2 ((w.alloc (.cells c s)).alloc (.cells #[u, v] t)) (w.heap.size + 1) u v := by
  unfold Fq.H2; simp [go_sem]
theorem H3c.n2 (w : World) (c c2 : Array Value) (s s2 : TypeId) (v0 v1 v2 : Value) (t : TypeId) : H3c (((w.alloc (.cells c s)).alloc (.cells c2 s2)).alloc (.cells #[v0, v1, v2] t)) (w.heap.size + 2) v0 v1 v2 := by
  unfold H3c; simp [go_sem]
theorem H3c.n3 (w : World) (c c2 c3 : Array Value) (s s2 s3 : TypeId) (v0 v1 v2 : Value) (t : TypeId) : H3c ((((w.alloc (.cells c s)).alloc (.cells c2 s2)).alloc (.cells c3 s3)).alloc (.cells #[v0, v1, v2] t)) (w.heap.size + 3) v0 v1 v2 := by
  unfold H3c; simp [go_sem]
theorem Fq.H2.keepK {W w : World} {b : Nat} {u v : Value} (h : Fq.H2 W b u v) (g : Kp W w) : Fq.H2 w b u v := Fq.H2.keep h g
theorem Fq.H2.newD (w : World) (u v : Value) (t : TypeId) : Fq.H2 ((w.alloc (.cells #[u, v] t)).drew) w.heap.size u v := by
  unfold Fq.H2; simp [go_sem]
set_option linter.unusedVariables false
set_option maxRecDepth 20000 in
set_option maxHeartbeats 4000000 in
theorem pointsZ_ (X1 X2 Y1 Y2 : Int) (A1 A2 B1 B2 M1 M2 N1 N2 : Nat) (I1 I2 H1 H2 P1 P2 Q1 Q2 : Int) (s3 : Bool) (p3 : Option Addr) (l3 c3 : Nat) (q3 : Option Addr) (k3 d3 : Nat) (ND : Nat) (RWp : World → Prop) (hkr : ∀ W W' : World, Kp W W' → RWp W → RWp W') (hin1 : ∀ w : World, Calls Try.prog 7 #[.agg #[.int .u64 X1, .int .u64 X2]] w fun e w' => e = .returned (.agg #[.float .f64 A1, .float .f64 A2]) ∧ Kp w w') (hin2 : ∀ w : World, Calls Try.prog 7 #[.agg #[.int .u64 Y1, .int .u64 Y2]] w fun e w' => e = .returned (.agg #[.float .f64 B1, .float .f64 B2]) ∧ Kp w w') (hme : ∀ w : World, Calls Try.prog 6 #[.agg #[.float .f64 A1, .float .f64 A2], .agg #[.float .f64 B1, .float .f64 B2]] w fun e w' => e = .returned (.agg #[.float .f64 M1, .float .f64 M2]) ∧ Kp w w') (hhu : ∀ w : World, Calls Try.prog 8 #[.agg #[.float .f64 A1, .float .f64 A2], .agg #[.float .f64 B1, .float .f64 B2]] w fun e w' => e = .returned (.agg #[.float .f64 N1, .float .f64 N2]) ∧ Kp w w') (ho1 : ∀ w : World, Calls Try.prog 5 #[.agg #[.float .f64 M1, .float .f64 M2]] w fun e w' => e = .returned (.agg #[.int .u64 I1, .int .u64 I2]) ∧ Kp w w') (ho2 : ∀ w : World, Calls Try.prog 5 #[.agg #[.float .f64 N1, .float .f64 N2]] w fun e w' => e = .returned (.agg #[.int .u64 H1, .int .u64 H2]) ∧ Kp w w') (hr1 : ∀ w : World, Calls Try.prog 9 #[.agg #[.int .u64 X1, .int .u64 X2]] w fun e w' => e = .returned (.agg #[.int .u64 P1, .int .u64 P2]) ∧ Kp w w') (hr2 : ∀ w : World, Calls Try.prog 9 #[.agg #[.int .u64 Y1, .int .u64 Y2]] w fun e w' => e = .returned (.agg #[.int .u64 Q1, .int .u64 Q2]) ∧ Kp w w') (hv1 : ∀ w : World, Calls Try.prog 10 #[.agg #[.int .u64 I1, .int .u64 I2]] w fun e w' => e = .returned (.bool true) ∧ Kp w w') (hv2 : ∀ w : World, Calls Try.prog 10 #[.agg #[.int .u64 H1, .int .u64 H2]] w fun e w' => e = .returned (.bool true) ∧ Kp w w') (e1 e2 e3 e4 : Bool) (t1 : (H1 != P1) = e1) (t2 : (H1 != Q1) = e2) (t3 : (H2 != P2) = e3) (t4 : (H2 != Q2) = e4) (u1 : (e1 && e2) = false) (u2 : (e3 && e4) = false) (hno : ∀ W : World, RWp W → Calls Try.prog 11 #[.slice q3 k3 d3] W fun e w' => ∃ (pn : Option Addr) (cn : Nat), e = .returned (.slice pn ND cn) ∧ Kp W w') (tz : (ND : Int) = 0) (w : World) (hz0 : RWp w) : Calls Try.prog 3 #[.agg #[.int .u64 X1, .int .u64 X2], .agg #[.int .u64 Y1, .int .u64 Y2], .agg #[.bool s3, .slice p3 l3 c3, .slice q3 k3 d3]] w fun e w' => e = .returned (.bool true) ∧ Kp w w' := by
  go_enter Try.func3, Try.ntmps3
  go_upto_region 3 with (first | (go_at_call 4; refine (awake9_ _).mono ?_; rintro e W ⟨rfl, g1⟩; have kW : Kp w W := Kp.trans ((((Kp.refl w).alloc _).alloc _).alloc _) g1; have sx := Fq.H2.keep (Fq.H2.new w (.int .u64 X1) (.int .u64 X2) 24) (Kp.trans (((Kp.refl _).alloc (.cells #[.int .u64 Y1, .int .u64 Y2] 24)).alloc (.cells #[.bool s3, .slice p3 l3 c3, .slice q3 k3 d3] 27)) g1); have sy := Fq.H2.keep (Fq.H2.n1 w #[.int .u64 X1, .int .u64 X2] 24 (.int .u64 Y1) (.int .u64 Y2) 24) (Kp.trans ((Kp.refl _).alloc (.cells #[.bool s3, .slice p3 l3 c3, .slice q3 k3 d3] 27)) g1); have sv := H3c.keep (H3c.n2 w #[.int .u64 X1, .int .u64 X2] #[.int .u64 Y1, .int .u64 Y2] 24 24 (.bool s3) (.slice p3 l3 c3) (.slice q3 k3 d3) 27) g1; have hz := hkr _ _ kW hz0))
  generalize w.heap.size + 2 = bv at sv ⊢
  generalize w.heap.size + 1 = by9 at sy ⊢
  generalize w.heap.size = bx at sx ⊢
  clear g1
  have y90 : W.cell? ⟨bx, 0, none⟩ = some (.int .u64 X1) := sx.1
  have y91 : W.cell? ⟨bx, 1, none⟩ = some (.int .u64 X2) := sx.2.1
  have y92 : W.cell? ⟨by9, 0, none⟩ = some (.int .u64 Y1) := sy.1
  have y93 : W.cell? ⟨by9, 1, none⟩ = some (.int .u64 Y2) := sy.2.1
  go_cut [7] (fun s7 wx => ∃ g : Nat, s7 = .pointer (some ⟨g, 0, none⟩) ∧ Fq.H2 wx g (.int .u64 I1) (.int .u64 I2) ∧ Kp W wx)
  case first =>
    go_region_held3 (fun w' => w'.cell? ⟨bx, 0, none⟩ = some (.int .u64 X1) ∧ w'.cell? ⟨bx, 1, none⟩ = some (.int .u64 X2) ∧ w'.cell? ⟨by9, 0, none⟩ = some (.int .u64 Y1) ∧ w'.cell? ⟨by9, 1, none⟩ = some (.int .u64 Y2)) (first | (with_reducible exact ⟨y90, y91, y92, y93⟩) | (with_reducible exact ⟨cb0_0, cb0_1, cb0_2, cb0_3⟩) | (with_reducible exact ⟨cb1_0, cb1_1, cb1_2, cb1_3⟩) | (with_reducible exact ⟨cb2_0, cb2_1, cb2_2, cb2_3⟩) | (with_reducible exact ⟨cb3_0, cb3_1, cb3_2, cb3_3⟩) | (refine ⟨(kkeep (W := W) ?_ y90), (kkeep (W := W) ?_ y91), (kkeep (W := W) ?_ y92), (kkeep (W := W) ?_ y93)⟩ <;> ((repeat (first | with_reducible exact Kp.refl _ | with_reducible apply Kp.drew | with_reducible apply Kp.alloc)); done)) | (refine ⟨(kkeep (W := w3) ?_ cb0_0), (kkeep (W := w3) ?_ cb0_1), (kkeep (W := w3) ?_ cb0_2), (kkeep (W := w3) ?_ cb0_3)⟩ <;> ((repeat (first | with_reducible exact Kp.refl _ | with_reducible apply Kp.drew | with_reducible apply Kp.alloc)); done)) | (refine ⟨(kkeep (W := w4) ?_ cb1_0), (kkeep (W := w4) ?_ cb1_1), (kkeep (W := w4) ?_ cb1_2), (kkeep (W := w4) ?_ cb1_3)⟩ <;> ((repeat (first | with_reducible exact Kp.refl _ | with_reducible apply Kp.drew | with_reducible apply Kp.alloc)); done)) | (refine ⟨(kkeep (W := w5) ?_ cb2_0), (kkeep (W := w5) ?_ cb2_1), (kkeep (W := w5) ?_ cb2_2), (kkeep (W := w5) ?_ cb2_3)⟩ <;> ((repeat (first | with_reducible exact Kp.refl _ | with_reducible apply Kp.drew | with_reducible apply Kp.alloc)); done)) | (refine ⟨(kkeep (W := w6) ?_ cb3_0), (kkeep (W := w6) ?_ cb3_1), (kkeep (W := w6) ?_ cb3_2), (kkeep (W := w6) ?_ cb3_3)⟩ <;> ((repeat (first | with_reducible exact Kp.refl _ | with_reducible apply Kp.drew | with_reducible apply Kp.alloc)); done)) | (refine ⟨?_, ?_, ?_, ?_⟩ <;> (refine ((World.cell?_setCell_far _ _ _ _ ?_).trans ((World.cell?_setCell_far _ _ _ _ ?_).trans ?_)) <;> first | assumption | (have h90 := cell_lt y90; have h91 := cell_lt y91; have h92 := cell_lt y92; have h93 := cell_lt y93; have h80 := Below.size KB0; have h81 := Below.size KB1; have h82 := Below.size KB2; have h83 := Below.size KB3; first | omega | (simp <;> omega))))) (first | (go_at_call_of 7 (Value.agg #[.int .u64 X1, .int .u64 X2]); refine (hin1 _).mono ?_; rintro e w3 ⟨rfl, g3⟩; have KB0 : Kp W w3 := Kp.trans (by (repeat (first | exact Kp.refl _ | apply Kp.drew | apply Kp.alloc)); done) g3; have cb0_0 := kkeep KB0 y90; have cb0_1 := kkeep KB0 y91; have cb0_2 := kkeep KB0 y92; have cb0_3 := kkeep KB0 y93) | (go_at_call_of 7 (Value.agg #[.int .u64 Y1, .int .u64 Y2]); refine (hin2 _).mono ?_; rintro e w4 ⟨rfl, g4⟩; have KB1 : Kp W w4 := Kp.trans (Kp.trans KB0 (by (repeat (first | exact Kp.refl _ | apply Kp.drew | apply Kp.alloc)); done)) g4; have cb1_0 := kkeep KB1 y90; have cb1_1 := kkeep KB1 y91; have cb1_2 := kkeep KB1 y92; have cb1_3 := kkeep KB1 y93) | (go_at_call 6; refine (hme _).mono ?_; rintro e w5 ⟨rfl, g5⟩; have KB2 : Kp W w5 := Kp.trans (Kp.trans KB1 (by (repeat (first | exact Kp.refl _ | apply Kp.drew | apply Kp.alloc)); done)) g5; have cb2_0 := kkeep KB2 y90; have cb2_1 := kkeep KB2 y91; have cb2_2 := kkeep KB2 y92; have cb2_3 := kkeep KB2 y93) | (go_at_call 5; refine (ho1 _).mono ?_; rintro e w6 ⟨rfl, g6⟩; have KB3 : Kp W w6 := Kp.trans (Kp.trans KB2 (by (repeat (first | exact Kp.refl _ | apply Kp.drew | apply Kp.alloc)); done)) g6; have cb3_0 := kkeep KB3 y90; have cb3_1 := kkeep KB3 y91; have cb3_2 := kkeep KB3 y92; have cb3_3 := kkeep KB3 y93; first | ((with_reducible have hb9 := (Fq.H2.keepK (Fq.H2.keepK (Fq.H2.keepK (Fq.H2.keepK (Fq.H2.newD W (.int .u64 0) (.int .u64 0) 24) g3) g4) g5) g6)); obtain ⟨mb0, mb1, mb2, mb3⟩ := id hb9) | ((with_reducible have hb9 := (Fq.H2.keepK (Fq.H2.keepK (Fq.H2.keepK (Fq.H2.new w3 (.int .u64 0) (.int .u64 0) 24) g4) g5) g6)); obtain ⟨mb0, mb1, mb2, mb3⟩ := id hb9) | ((with_reducible have hb9 := (Fq.H2.keepK (Fq.H2.keepK (Fq.H2.new w4 (.int .u64 0) (.int .u64 0) 24) g5) g6)); obtain ⟨mb0, mb1, mb2, mb3⟩ := id hb9) | ((with_reducible have hb9 := (Fq.H2.keepK (Fq.H2.new w5 (.int .u64 0) (.int .u64 0) 24) g6)); obtain ⟨mb0, mb1, mb2, mb3⟩ := id hb9) | skip))
    all_goals go_wp2_with fail
    all_goals (
      go_meet
      refine ⟨_, rfl, ?_, ?_⟩
      · first | (with_reducible exact Fq.H2.put hb9 _ _) | (with_reducible exact Fq.H2.put (Fq.H2.new w6 (.int .u64 0) (.int .u64 0) 24) _ _) | (with_reducible exact Fq.H2.new w6 _ _ 24) | (unfold Fq.H2; simp [go_sem]; done)
      · have h80 := Below.size KB0; have h81 := Below.size KB1; have h82 := Below.size KB2; have h83 := Below.size KB3
        first | (with_reducible exact (Kp.alloc KB3 _)) | ((with_reducible refine (Kp.setCell (Kp.setCell KB3 ?_ _) ?_ _)) <;> first | omega | (simp <;> omega)) | ((with_reducible refine (Kp.setCell (Kp.setCell (Kp.alloc KB3 _) ?_ _) ?_ _)) <;> first | omega | (simp <;> omega)))
  case rest =>
  obtain ⟨g7, rfl, q7, gc⟩ := hcut
  replace sx := Fq.H2.keep sx gc
  replace sy := Fq.H2.keep sy gc
  replace sv := H3c.keep sv gc
  replace hz := hkr _ _ gc hz
  replace kW := Kp.trans kW gc
  clear gc y90 y91 y92 y93
  generalize wc = W at sx sy sv hz kW q7 ⊢
  go_upto_region 4 with fail
  have y90 : W.cell? ⟨bx, 0, none⟩ = some (.int .u64 X1) := sx.1
  have y91 : W.cell? ⟨bx, 1, none⟩ = some (.int .u64 X2) := sx.2.1
  have y92 : W.cell? ⟨by9, 0, none⟩ = some (.int .u64 Y1) := sy.1
  have y93 : W.cell? ⟨by9, 1, none⟩ = some (.int .u64 Y2) := sy.2.1
  go_cut [8] (fun s8 wx => ∃ g : Nat, s8 = .pointer (some ⟨g, 0, none⟩) ∧ Fq.H2 wx g (.int .u64 H1) (.int .u64 H2) ∧ Kp W wx)
  case first =>
    go_region_held3 (fun w' => w'.cell? ⟨bx, 0, none⟩ = some (.int .u64 X1) ∧ w'.cell? ⟨bx, 1, none⟩ = some (.int .u64 X2) ∧ w'.cell? ⟨by9, 0, none⟩ = some (.int .u64 Y1) ∧ w'.cell? ⟨by9, 1, none⟩ = some (.int .u64 Y2)) (first | (with_reducible exact ⟨y90, y91, y92, y93⟩) | (with_reducible exact ⟨cb0_0, cb0_1, cb0_2, cb0_3⟩) | (with_reducible exact ⟨cb1_0, cb1_1, cb1_2, cb1_3⟩) | (with_reducible exact ⟨cb2_0, cb2_1, cb2_2, cb2_3⟩) | (with_reducible exact ⟨cb3_0, cb3_1, cb3_2, cb3_3⟩) | (refine ⟨(kkeep (W := W) ?_ y90), (kkeep (W := W) ?_ y91), (kkeep (W := W) ?_ y92), (kkeep (W := W) ?_ y93)⟩ <;> ((repeat (first | with_reducible exact Kp.refl _ | with_reducible apply Kp.drew | with_reducible apply Kp.alloc)); done)) | (refine ⟨(kkeep (W := w3) ?_ cb0_0), (kkeep (W := w3) ?_ cb0_1), (kkeep (W := w3) ?_ cb0_2), (kkeep (W := w3) ?_ cb0_3)⟩ <;> ((repeat (first | with_reducible exact Kp.refl _ | with_reducible apply Kp.drew | with_reducible apply Kp.alloc)); done)) | (refine ⟨(kkeep (W := w4) ?_ cb1_0), (kkeep (W := w4) ?_ cb1_1), (kkeep (W := w4) ?_ cb1_2), (kkeep (W := w4) ?_ cb1_3)⟩ <;> ((repeat (first | with_reducible exact Kp.refl _ | with_reducible apply Kp.drew | with_reducible apply Kp.alloc)); done)) | (refine ⟨(kkeep (W := w5) ?_ cb2_0), (kkeep (W := w5) ?_ cb2_1), (kkeep (W := w5) ?_ cb2_2), (kkeep (W := w5) ?_ cb2_3)⟩ <;> ((repeat (first | with_reducible exact Kp.refl _ | with_reducible apply Kp.drew | with_reducible apply Kp.alloc)); done)) | (refine ⟨(kkeep (W := w6) ?_ cb3_0), (kkeep (W := w6) ?_ cb3_1), (kkeep (W := w6) ?_ cb3_2), (kkeep (W := w6) ?_ cb3_3)⟩ <;> ((repeat (first | with_reducible exact Kp.refl _ | with_reducible apply Kp.drew | with_reducible apply Kp.alloc)); done)) | (refine ⟨?_, ?_, ?_, ?_⟩ <;> (refine ((World.cell?_setCell_far _ _ _ _ ?_).trans ((World.cell?_setCell_far _ _ _ _ ?_).trans ?_)) <;> first | assumption | (have h90 := cell_lt y90; have h91 := cell_lt y91; have h92 := cell_lt y92; have h93 := cell_lt y93; have h80 := Below.size KB0; have h81 := Below.size KB1; have h82 := Below.size KB2; have h83 := Below.size KB3; first | omega | (simp <;> omega))))) (first | (go_at_call_of 7 (Value.agg #[.int .u64 X1, .int .u64 X2]); refine (hin1 _).mono ?_; rintro e w3 ⟨rfl, g3⟩; have KB0 : Kp W w3 := Kp.trans (by (repeat (first | exact Kp.refl _ | apply Kp.drew | apply Kp.alloc)); done) g3; have cb0_0 := kkeep KB0 y90; have cb0_1 := kkeep KB0 y91; have cb0_2 := kkeep KB0 y92; have cb0_3 := kkeep KB0 y93) | (go_at_call_of 7 (Value.agg #[.int .u64 Y1, .int .u64 Y2]); refine (hin2 _).mono ?_; rintro e w4 ⟨rfl, g4⟩; have KB1 : Kp W w4 := Kp.trans (Kp.trans KB0 (by (repeat (first | exact Kp.refl _ | apply Kp.drew | apply Kp.alloc)); done)) g4; have cb1_0 := kkeep KB1 y90; have cb1_1 := kkeep KB1 y91; have cb1_2 := kkeep KB1 y92; have cb1_3 := kkeep KB1 y93) | (go_at_call 8; refine (hhu _).mono ?_; rintro e w5 ⟨rfl, g5⟩; have KB2 : Kp W w5 := Kp.trans (Kp.trans KB1 (by (repeat (first | exact Kp.refl _ | apply Kp.drew | apply Kp.alloc)); done)) g5; have cb2_0 := kkeep KB2 y90; have cb2_1 := kkeep KB2 y91; have cb2_2 := kkeep KB2 y92; have cb2_3 := kkeep KB2 y93) | (go_at_call 5; refine (ho2 _).mono ?_; rintro e w6 ⟨rfl, g6⟩; have KB3 : Kp W w6 := Kp.trans (Kp.trans KB2 (by (repeat (first | exact Kp.refl _ | apply Kp.drew | apply Kp.alloc)); done)) g6; have cb3_0 := kkeep KB3 y90; have cb3_1 := kkeep KB3 y91; have cb3_2 := kkeep KB3 y92; have cb3_3 := kkeep KB3 y93; first | ((with_reducible have hb9 := (Fq.H2.keepK (Fq.H2.keepK (Fq.H2.keepK (Fq.H2.keepK (Fq.H2.newD W (.int .u64 0) (.int .u64 0) 24) g3) g4) g5) g6)); obtain ⟨mb0, mb1, mb2, mb3⟩ := id hb9) | ((with_reducible have hb9 := (Fq.H2.keepK (Fq.H2.keepK (Fq.H2.keepK (Fq.H2.new w3 (.int .u64 0) (.int .u64 0) 24) g4) g5) g6)); obtain ⟨mb0, mb1, mb2, mb3⟩ := id hb9) | ((with_reducible have hb9 := (Fq.H2.keepK (Fq.H2.keepK (Fq.H2.new w4 (.int .u64 0) (.int .u64 0) 24) g5) g6)); obtain ⟨mb0, mb1, mb2, mb3⟩ := id hb9) | ((with_reducible have hb9 := (Fq.H2.keepK (Fq.H2.new w5 (.int .u64 0) (.int .u64 0) 24) g6)); obtain ⟨mb0, mb1, mb2, mb3⟩ := id hb9) | skip))
    all_goals go_wp2_with fail
    all_goals (
      go_meet
      refine ⟨_, rfl, ?_, ?_⟩
      · first | (with_reducible exact Fq.H2.put hb9 _ _) | (with_reducible exact Fq.H2.put (Fq.H2.new w6 (.int .u64 0) (.int .u64 0) 24) _ _) | (with_reducible exact Fq.H2.new w6 _ _ 24) | (unfold Fq.H2; simp [go_sem]; done)
      · have h80 := Below.size KB0; have h81 := Below.size KB1; have h82 := Below.size KB2; have h83 := Below.size KB3
        first | (with_reducible exact (Kp.alloc KB3 _)) | ((with_reducible refine (Kp.setCell (Kp.setCell KB3 ?_ _) ?_ _)) <;> first | omega | (simp <;> omega)) | ((with_reducible refine (Kp.setCell (Kp.setCell (Kp.alloc KB3 _) ?_ _) ?_ _)) <;> first | omega | (simp <;> omega)))
  case rest =>
  obtain ⟨g8, rfl, q8, gc⟩ := hcut
  replace sx := Fq.H2.keep sx gc
  replace sy := Fq.H2.keep sy gc
  replace sv := H3c.keep sv gc
  replace hz := hkr _ _ gc hz
  replace kW := Kp.trans kW gc
  replace q7 := Fq.H2.keep q7 gc
  clear gc y90 y91 y92 y93
  generalize wc = W at sx sy sv hz kW q7 q8 ⊢
  go_upto_region 5 with fail
  obtain ⟨x0, x1, x2, x3⟩ := id sx; obtain ⟨y0, y1, y2, y3⟩ := id sy; obtain ⟨v0, v1, v2, v3, v4, v5⟩ := id sv
  go_upto_region 7 with (first | (go_at_call_of 9 (Value.agg #[.int .u64 X1, .int .u64 X2]); refine (hr1 _).mono ?_; rintro e wa ⟨rfl, ga⟩; have ga2 := Kp.trans ga ((Kp.refl _).alloc (.cells #[.int .u64 P1, .int .u64 P2] 24)); replace sx := Fq.H2.keep sx ga2; replace sy := Fq.H2.keep sy ga2; replace sv := H3c.keep sv ga2; replace hz := hkr _ _ ga2 hz; replace kW := Kp.trans kW ga2; replace q7 := Fq.H2.keep q7 ga2; replace q8 := Fq.H2.keep q8 ga2; have q9 := Fq.H2.new wa (.int .u64 P1) (.int .u64 P2) 24; clear x0 x1 x2 x3 y0 y1 y2 y3 v0 v1 v2 v3 v4 v5; obtain ⟨x0, x1, x2, x3⟩ := id sx; obtain ⟨y0, y1, y2, y3⟩ := id sy; obtain ⟨v0, v1, v2, v3, v4, v5⟩ := id sv) | (go_at_call_of 9 (Value.agg #[.int .u64 Y1, .int .u64 Y2]); refine (hr2 _).mono ?_; rintro e wb ⟨rfl, gb⟩; have gb2 := Kp.trans gb ((Kp.refl _).alloc (.cells #[.int .u64 Q1, .int .u64 Q2] 24)); replace sx := Fq.H2.keep sx gb2; replace sy := Fq.H2.keep sy gb2; replace sv := H3c.keep sv gb2; replace hz := hkr _ _ gb2 hz; replace kW := Kp.trans kW gb2; replace q7 := Fq.H2.keep q7 gb2; replace q8 := Fq.H2.keep q8 gb2; replace q9 := Fq.H2.keep q9 gb2; have q10 := Fq.H2.new wb (.int .u64 Q1) (.int .u64 Q2) 24; clear x0 x1 x2 x3 y0 y1 y2 y3 v0 v1 v2 v3 v4 v5; obtain ⟨x0, x1, x2, x3⟩ := id sx; obtain ⟨y0, y1, y2, y3⟩ := id sy; obtain ⟨v0, v1, v2, v3, v4, v5⟩ := id sv))
  generalize wb.alloc (.cells #[.int .u64 Q1, .int .u64 Q2] 24) = W at sx sy sv hz kW q7 q8 q9 q10 x0 x1 x2 x3 y0 y1 y2 y3 v0 v1 v2 v3 v4 v5 ⊢
  generalize wb.heap.size = gb9 at q10 ⊢
  generalize wa.heap.size = ga9 at q9 ⊢
  have HT : Hid ((H1 != P1) = e1 ∧ (H1 != Q1) = e2 ∧ (H2 != P2) = e3 ∧ (H2 != Q2) = e4 ∧ (e1 && e2) = false ∧ (e3 && e4) = false) := ⟨t1, t2, t3, t4, u1, u2⟩
  clear t1 t2 t3 t4 u1 u2
  go_cut [66] (fun s66 wx => s66 = .bool false ∧ Kp W wx)
  case first =>
    obtain ⟨t1, t2, t3, t4, u1, u2⟩ := HT.out
    clear HT
    have gq : Kp W W := Kp.refl W
    obtain ⟨i0, i1, i2, i3⟩ := id q7
    obtain ⟨h0, h1, h2, h3⟩ := id q8
    obtain ⟨a0, a1, a2, a3⟩ := id q9
    obtain ⟨b0, b1, b2, b3⟩ := id q10
    have uu : (e1 = false ∨ (e1 = true ∧ e2 = false)) ∧ (e3 = false ∨ (e3 = true ∧ e4 = false)) := by
      cases e1 <;> cases e2 <;> cases e3 <;> cases e4 <;> simp at u1 u2 ⊢
    clear u1 u2 x0 x1 x2 x3 y0 y1 y2 y3 v0 v1 v2 v3 v4 v5 sx sy sv hz
    obtain ⟨uu1, uu2⟩ := uu
    rcases uu1 with rfl | ⟨rfl, rfl⟩
    all_goals (
      rcases uu2 with rfl | ⟨rfl, rfl⟩
      all_goals (
        go_wp2_with (first | (go_at_call_of 10 (Value.agg #[.int .u64 I1, .int .u64 I2]); refine (hv1 _).mono ?_; rintro e wv ⟨rfl, gv⟩; replace gq := Kp.trans gq gv; replace q7 := Fq.H2.keep q7 gv; replace q8 := Fq.H2.keep q8 gv; replace q9 := Fq.H2.keep q9 gv; replace q10 := Fq.H2.keep q10 gv; clear gv i0 i1 i2 i3 h0 h1 h2 h3 a0 a1 a2 a3 b0 b1 b2 b3; obtain ⟨i0, i1, i2, i3⟩ := id q7; obtain ⟨h0, h1, h2, h3⟩ := id q8; obtain ⟨a0, a1, a2, a3⟩ := id q9; obtain ⟨b0, b1, b2, b3⟩ := id q10) | (go_at_call_of 10 (Value.agg #[.int .u64 H1, .int .u64 H2]); refine (hv2 _).mono ?_; rintro e wv ⟨rfl, gv⟩; replace gq := Kp.trans gq gv; replace q7 := Fq.H2.keep q7 gv; replace q8 := Fq.H2.keep q8 gv; replace q9 := Fq.H2.keep q9 gv; replace q10 := Fq.H2.keep q10 gv; clear gv i0 i1 i2 i3 h0 h1 h2 h3 a0 a1 a2 a3 b0 b1 b2 b3; obtain ⟨i0, i1, i2, i3⟩ := id q7; obtain ⟨h0, h1, h2, h3⟩ := id q8; obtain ⟨a0, a1, a2, a3⟩ := id q9; obtain ⟨b0, b1, b2, b3⟩ := id q10))
        go_meet
        exact ⟨rfl, gq⟩))
  case rest =>
  obtain ⟨rfl, gc⟩ := hcut
  replace sx := Fq.H2.keep sx gc; replace sy := Fq.H2.keep sy gc; replace sv := H3c.keep sv gc; replace hz := hkr _ _ gc hz; replace kW := Kp.trans kW gc; replace q7 := Fq.H2.keep q7 gc; replace q8 := Fq.H2.keep q8 gc
  clear gc HT q9 q10 x0 x1 x2 x3 y0 y1 y2 y3 v0 v1 v2 v3 v4 v5
  generalize wc = W at sx sy sv hz kW q7 q8 ⊢
  obtain ⟨x0, x1, x2, x3⟩ := id sx; obtain ⟨y0, y1, y2, y3⟩ := id sy; obtain ⟨v0, v1, v2, v3, v4, v5⟩ := id sv
  go_wp2_with (first | (go_at_call 11; refine (hno _ hz).mono ?_; rintro e wn ⟨pn, cn, rfl, gn⟩; replace sx := Fq.H2.keep sx gn; replace sy := Fq.H2.keep sy gn; replace sv := H3c.keep sv gn; replace hz := hkr _ _ gn hz; replace kW := Kp.trans kW gn; replace q7 := Fq.H2.keep q7 gn; replace q8 := Fq.H2.keep q8 gn; clear gn; clear x0 x1 x2 x3 y0 y1 y2 y3 v0 v1 v2 v3 v4 v5; obtain ⟨x0, x1, x2, x3⟩ := id sx; obtain ⟨y0, y1, y2, y3⟩ := id sy; obtain ⟨v0, v1, v2, v3, v4, v5⟩ := id sv; obtain ⟨i0, i1, i2, i3⟩ := id q7; obtain ⟨h0, h1, h2, h3⟩ := id q8))
  exact bodyPost_ret (v := .bool true) (by simp [results, Try.results3, go_sem]) rfl ⟨rfl, kW⟩
set_option maxRecDepth 20000 in
set_option maxHeartbeats 4000000 in
theorem pointsT_ (X1 X2 Y1 Y2 : Int) (A1 A2 B1 B2 M1 M2 N1 N2 : Nat) (I1 I2 H1 H2 P1 P2 Q1 Q2 : Int) (s3 : Bool) (p3 : Option Addr) (l3 c3 : Nat) (q3 : Option Addr) (k3 d3 : Nat) (ND : Nat) (RWp : World → Prop) (hkr : ∀ W W' : World, Kp W W' → RWp W → RWp W') (hin1 : ∀ w : World, Calls Try.prog 7 #[.agg #[.int .u64 X1, .int .u64 X2]] w fun e w' => e = .returned (.agg #[.float .f64 A1, .float .f64 A2]) ∧ Kp w w') (hin2 : ∀ w : World, Calls Try.prog 7 #[.agg #[.int .u64 Y1, .int .u64 Y2]] w fun e w' => e = .returned (.agg #[.float .f64 B1, .float .f64 B2]) ∧ Kp w w') (hme : ∀ w : World, Calls Try.prog 6 #[.agg #[.float .f64 A1, .float .f64 A2], .agg #[.float .f64 B1, .float .f64 B2]] w fun e w' => e = .returned (.agg #[.float .f64 M1, .float .f64 M2]) ∧ Kp w w') (hhu : ∀ w : World, Calls Try.prog 8 #[.agg #[.float .f64 A1, .float .f64 A2], .agg #[.float .f64 B1, .float .f64 B2]] w fun e w' => e = .returned (.agg #[.float .f64 N1, .float .f64 N2]) ∧ Kp w w') (ho1 : ∀ w : World, Calls Try.prog 5 #[.agg #[.float .f64 M1, .float .f64 M2]] w fun e w' => e = .returned (.agg #[.int .u64 I1, .int .u64 I2]) ∧ Kp w w') (ho2 : ∀ w : World, Calls Try.prog 5 #[.agg #[.float .f64 N1, .float .f64 N2]] w fun e w' => e = .returned (.agg #[.int .u64 H1, .int .u64 H2]) ∧ Kp w w') (hr1 : ∀ w : World, Calls Try.prog 9 #[.agg #[.int .u64 X1, .int .u64 X2]] w fun e w' => e = .returned (.agg #[.int .u64 P1, .int .u64 P2]) ∧ Kp w w') (hr2 : ∀ w : World, Calls Try.prog 9 #[.agg #[.int .u64 Y1, .int .u64 Y2]] w fun e w' => e = .returned (.agg #[.int .u64 Q1, .int .u64 Q2]) ∧ Kp w w') (hv1 : ∀ w : World, Calls Try.prog 10 #[.agg #[.int .u64 I1, .int .u64 I2]] w fun e w' => e = .returned (.bool true) ∧ Kp w w') (hv2 : ∀ w : World, Calls Try.prog 10 #[.agg #[.int .u64 H1, .int .u64 H2]] w fun e w' => e = .returned (.bool true) ∧ Kp w w') (e1 e2 e3 e4 : Bool) (t1 : (H1 != P1) = e1) (t2 : (H1 != Q1) = e2) (t3 : (H2 != P2) = e3) (t4 : (H2 != Q2) = e4) (u1 : (e1 && e2) = false) (u2 : (e3 && e4) = false) (hno : ∀ W : World, RWp W → Calls Try.prog 11 #[.slice q3 k3 d3] W fun e w' => ∃ (pn : Option Addr) (cn : Nat), e = .returned (.slice pn ND cn) ∧ Kp W w') (tz : ¬ ((ND : Int) = 0)) (PH : Int → Int → Bool → Prop) (hH : ∀ X Y V, PH X Y V → ∀ W : World, RWp W → Calls Try.prog 12 #[.agg #[.int .u64 X, .int .u64 Y], .agg #[.bool s3, .slice p3 l3 c3, .slice q3 k3 d3]] W fun e w' => e = .returned (.bool V) ∧ Kp W w') (C1 C2 C3 C4 : Bool) (f1 : PH X1 X2 C1) (f2 : PH Y1 Y2 C2) (f3 : PH I1 I2 C3) (f4 : PH H1 H2 C4) (hc3 : C3 = (C1 && C2)) (hc4 : ((!C1 && !C2) || C4) = true) (w : World) (hz0 : RWp w) : Calls Try.prog 3 #[.agg #[.int .u64 X1, .int .u64 X2], .agg #[.int .u64 Y1, .int .u64 Y2], .agg #[.bool s3, .slice p3 l3 c3, .slice q3 k3 d3]] w fun e w' => e = .returned (.bool true) ∧ Kp w w' := by
  have HC : Hid (C3 = (C1 && C2) ∧ ((!C1 && !C2) || C4) = true) := ⟨hc3, hc4⟩
  clear hc3 hc4
  go_enter Try.func3, Try.ntmps3
  go_upto_region 3 with (first | (go_at_call 4; refine (awake9_ _).mono ?_; rintro e W ⟨rfl, g1⟩; have kW : Kp w W := Kp.trans ((((Kp.refl w).alloc _).alloc _).alloc _) g1; have sx := Fq.H2.keep (Fq.H2.new w (.int .u64 X1) (.int .u64 X2) 24) (Kp.trans (((Kp.refl _).alloc (.cells #[.int .u64 Y1, .int .u64 Y2] 24)).alloc (.cells #[.bool s3, .slice p3 l3 c3, .slice q3 k3 d3] 27)) g1); have sy := Fq.H2.keep (Fq.H2.n1 w #[.int .u64 X1, .int .u64 X2] 24 (.int .u64 Y1) (.int .u64 Y2) 24) (Kp.trans ((Kp.refl _).alloc (.cells #[.bool s3, .slice p3 l3 c3, .slice q3 k3 d3] 27)) g1); have sv := H3c.keep (H3c.n2 w #[.int .u64 X1, .int .u64 X2] #[.int .u64 Y1, .int .u64 Y2] 24 24 (.bool s3) (.slice p3 l3 c3) (.slice q3 k3 d3) 27) g1; have hz := hkr _ _ kW hz0))
  generalize w.heap.size + 2 = bv at sv ⊢
  generalize w.heap.size + 1 = by9 at sy ⊢
  generalize w.heap.size = bx at sx ⊢
  clear g1
  have y90 : W.cell? ⟨bx, 0, none⟩ = some (.int .u64 X1) := sx.1
  have y91 : W.cell? ⟨bx, 1, none⟩ = some (.int .u64 X2) := sx.2.1
  have y92 : W.cell? ⟨by9, 0, none⟩ = some (.int .u64 Y1) := sy.1
  have y93 : W.cell? ⟨by9, 1, none⟩ = some (.int .u64 Y2) := sy.2.1
  go_cut [7] (fun s7 wx => ∃ g : Nat, s7 = .pointer (some ⟨g, 0, none⟩) ∧ Fq.H2 wx g (.int .u64 I1) (.int .u64 I2) ∧ Kp W wx)
  case first =>
    go_region_held3 (fun w' => w'.cell? ⟨bx, 0, none⟩ = some (.int .u64 X1) ∧ w'.cell? ⟨bx, 1, none⟩ = some (.int .u64 X2) ∧ w'.cell? ⟨by9, 0, none⟩ = some (.int .u64 Y1) ∧ w'.cell? ⟨by9, 1, none⟩ = some (.int .u64 Y2)) (first | (with_reducible exact ⟨y90, y91, y92, y93⟩) | (with_reducible exact ⟨cb0_0, cb0_1, cb0_2, cb0_3⟩) | (with_reducible exact ⟨cb1_0, cb1_1, cb1_2, cb1_3⟩) | (with_reducible exact ⟨cb2_0, cb2_1, cb2_2, cb2_3⟩) | (with_reducible exact ⟨cb3_0, cb3_1, cb3_2, cb3_3⟩) | (refine ⟨(kkeep (W := W) ?_ y90), (kkeep (W := W) ?_ y91), (kkeep (W := W) ?_ y92), (kkeep (W := W) ?_ y93)⟩ <;> ((repeat (first | with_reducible exact Kp.refl _ | with_reducible apply Kp.drew | with_reducible apply Kp.alloc)); done)) | (refine ⟨(kkeep (W := w3) ?_ cb0_0), (kkeep (W := w3) ?_ cb0_1), (kkeep (W := w3) ?_ cb0_2), (kkeep (W := w3) ?_ cb0_3)⟩ <;> ((repeat (first | with_reducible exact Kp.refl _ | with_reducible apply Kp.drew | with_reducible apply Kp.alloc)); done)) | (refine ⟨(kkeep (W := w4) ?_ cb1_0), (kkeep (W := w4) ?_ cb1_1), (kkeep (W := w4) ?_ cb1_2), (kkeep (W := w4) ?_ cb1_3)⟩ <;> ((repeat (first | with_reducible exact Kp.refl _ | with_reducible apply Kp.drew | with_reducible apply Kp.alloc)); done)) | (refine ⟨(kkeep (W := w5) ?_ cb2_0), (kkeep (W := w5) ?_ cb2_1), (kkeep (W := w5) ?_ cb2_2), (kkeep (W := w5) ?_ cb2_3)⟩ <;> ((repeat (first | with_reducible exact Kp.refl _ | with_reducible apply Kp.drew | with_reducible apply Kp.alloc)); done)) | (refine ⟨(kkeep (W := w6) ?_ cb3_0), (kkeep (W := w6) ?_ cb3_1), (kkeep (W := w6) ?_ cb3_2), (kkeep (W := w6) ?_ cb3_3)⟩ <;> ((repeat (first | with_reducible exact Kp.refl _ | with_reducible apply Kp.drew | with_reducible apply Kp.alloc)); done)) | (refine ⟨?_, ?_, ?_, ?_⟩ <;> (refine ((World.cell?_setCell_far _ _ _ _ ?_).trans ((World.cell?_setCell_far _ _ _ _ ?_).trans ?_)) <;> first | assumption | (have h90 := cell_lt y90; have h91 := cell_lt y91; have h92 := cell_lt y92; have h93 := cell_lt y93; have h80 := Below.size KB0; have h81 := Below.size KB1; have h82 := Below.size KB2; have h83 := Below.size KB3; first | omega | (simp <;> omega))))) (first | (go_at_call_of 7 (Value.agg #[.int .u64 X1, .int .u64 X2]); refine (hin1 _).mono ?_; rintro e w3 ⟨rfl, g3⟩; have KB0 : Kp W w3 := Kp.trans (by (repeat (first | exact Kp.refl _ | apply Kp.drew | apply Kp.alloc)); done) g3; have cb0_0 := kkeep KB0 y90; have cb0_1 := kkeep KB0 y91; have cb0_2 := kkeep KB0 y92; have cb0_3 := kkeep KB0 y93) | (go_at_call_of 7 (Value.agg #[.int .u64 Y1, .int .u64 Y2]); refine (hin2 _).mono ?_; rintro e w4 ⟨rfl, g4⟩; have KB1 : Kp W w4 := Kp.trans (Kp.trans KB0 (by (repeat (first | exact Kp.refl _ | apply Kp.drew | apply Kp.alloc)); done)) g4; have cb1_0 := kkeep KB1 y90; have cb1_1 := kkeep KB1 y91; have cb1_2 := kkeep KB1 y92; have cb1_3 := kkeep KB1 y93) | (go_at_call 6; refine (hme _).mono ?_; rintro e w5 ⟨rfl, g5⟩; have KB2 : Kp W w5 := Kp.trans (Kp.trans KB1 (by (repeat (first | exact Kp.refl _ | apply Kp.drew | apply Kp.alloc)); done)) g5; have cb2_0 := kkeep KB2 y90; have cb2_1 := kkeep KB2 y91; have cb2_2 := kkeep KB2 y92; have cb2_3 := kkeep KB2 y93) | (go_at_call 5; refine (ho1 _).mono ?_; rintro e w6 ⟨rfl, g6⟩; have KB3 : Kp W w6 := Kp.trans (Kp.trans KB2 (by (repeat (first | exact Kp.refl _ | apply Kp.drew | apply Kp.alloc)); done)) g6; have cb3_0 := kkeep KB3 y90; have cb3_1 := kkeep KB3 y91; have cb3_2 := kkeep KB3 y92; have cb3_3 := kkeep KB3 y93; first | ((with_reducible have hb9 := (Fq.H2.keepK (Fq.H2.keepK (Fq.H2.keepK (Fq.H2.keepK (Fq.H2.newD W (.int .u64 0) (.int .u64 0) 24) g3) g4) g5) g6)); obtain ⟨mb0, mb1, mb2, mb3⟩ := id hb9) | ((with_reducible have hb9 := (Fq.H2.keepK (Fq.H2.keepK (Fq.H2.keepK (Fq.H2.new w3 (.int .u64 0) (.int .u64 0) 24) g4) g5) g6)); obtain ⟨mb0, mb1, mb2, mb3⟩ := id hb9) | ((with_reducible have hb9 := (Fq.H2.keepK (Fq.H2.keepK (Fq.H2.new w4 (.int .u64 0) (.int .u64 0) 24) g5) g6)); obtain ⟨mb0, mb1, mb2, mb3⟩ := id hb9) | ((with_reducible have hb9 := (Fq.H2.keepK (Fq.H2.new w5 (.int .u64 0) (.int .u64 0) 24) g6)); obtain ⟨mb0, mb1, mb2, mb3⟩ := id hb9) | skip))
    all_goals go_wp2_with fail
    all_goals (
      go_meet
      refine ⟨_, rfl, ?_, ?_⟩
      · first | (with_reducible exact Fq.H2.put hb9 _ _) | (with_reducible exact Fq.H2.put (Fq.H2.new w6 (.int .u64 0) (.int .u64 0) 24) _ _) | (with_reducible exact Fq.H2.new w6 _ _ 24) | (unfold Fq.H2; simp [go_sem]; done)
      · have h80 := Below.size KB0; have h81 := Below.size KB1; have h82 := Below.size KB2; have h83 := Below.size KB3
        first | (with_reducible exact (Kp.alloc KB3 _)) | ((with_reducible refine (Kp.setCell (Kp.setCell KB3 ?_ _) ?_ _)) <;> first | omega | (simp <;> omega)) | ((with_reducible refine (Kp.setCell (Kp.setCell (Kp.alloc KB3 _) ?_ _) ?_ _)) <;> first | omega | (simp <;> omega)))
  case rest =>
  obtain ⟨g7, rfl, q7, gc⟩ := hcut
  replace sx := Fq.H2.keep sx gc
  replace sy := Fq.H2.keep sy gc
  replace sv := H3c.keep sv gc
  replace hz := hkr _ _ gc hz
  replace kW := Kp.trans kW gc
  clear gc y90 y91 y92 y93
  generalize wc = W at sx sy sv hz kW q7 ⊢
  go_upto_region 4 with fail
  have y90 : W.cell? ⟨bx, 0, none⟩ = some (.int .u64 X1) := sx.1
  have y91 : W.cell? ⟨bx, 1, none⟩ = some (.int .u64 X2) := sx.2.1
  have y92 : W.cell? ⟨by9, 0, none⟩ = some (.int .u64 Y1) := sy.1
  have y93 : W.cell? ⟨by9, 1, none⟩ = some (.int .u64 Y2) := sy.2.1
  go_cut [8] (fun s8 wx => ∃ g : Nat, s8 = .pointer (some ⟨g, 0, none⟩) ∧ Fq.H2 wx g (.int .u64 H1) (.int .u64 H2) ∧ Kp W wx)
  case first =>
    go_region_held3 (fun w' => w'.cell? ⟨bx, 0, none⟩ = some (.int .u64 X1) ∧ w'.cell? ⟨bx, 1, none⟩ = some (.int .u64 X2) ∧ w'.cell? ⟨by9, 0, none⟩ = some (.int .u64 Y1) ∧ w'.cell? ⟨by9, 1, none⟩ = some (.int .u64 Y2)) (first | (with_reducible exact ⟨y90, y91, y92, y93⟩) | (with_reducible exact ⟨cb0_0, cb0_1, cb0_2, cb0_3⟩) | (with_reducible exact ⟨cb1_0, cb1_1, cb1_2, cb1_3⟩) | (with_reducible exact ⟨cb2_0, cb2_1, cb2_2, cb2_3⟩) | (with_reducible exact ⟨cb3_0, cb3_1, cb3_2, cb3_3⟩) | (refine ⟨(kkeep (W := W) ?_ y90), (kkeep (W := W) ?_ y91), (kkeep (W := W) ?_ y92), (kkeep (W := W) ?_ y93)⟩ <;> ((repeat (first | with_reducible exact Kp.refl _ | with_reducible apply Kp.drew | with_reducible apply Kp.alloc)); done)) | (refine ⟨(kkeep (W := w3) ?_ cb0_0), (kkeep (W := w3) ?_ cb0_1), (kkeep (W := w3) ?_ cb0_2), (kkeep (W := w3) ?_ cb0_3)⟩ <;> ((repeat (first | with_reducible exact Kp.refl _ | with_reducible apply Kp.drew | with_reducible apply Kp.alloc)); done)) | (refine ⟨(kkeep (W := w4) ?_ cb1_0), (kkeep (W := w4) ?_ cb1_1), (kkeep (W := w4) ?_ cb1_2), (kkeep (W := w4) ?_ cb1_3)⟩ <;> ((repeat (first | with_reducible exact Kp.refl _ | with_reducible apply Kp.drew | with_reducible apply Kp.alloc)); done)) | (refine ⟨(kkeep (W := w5) ?_ cb2_0), (kkeep (W := w5) ?_ cb2_1), (kkeep (W := w5) ?_ cb2_2), (kkeep (W := w5) ?_ cb2_3)⟩ <;> ((repeat (first | with_reducible exact Kp.refl _ | with_reducible apply Kp.drew | with_reducible apply Kp.alloc)); done)) | (refine ⟨(kkeep (W := w6) ?_ cb3_0), (kkeep (W := w6) ?_ cb3_1), (kkeep (W := w6) ?_ cb3_2), (kkeep (W := w6) ?_ cb3_3)⟩ <;> ((repeat (first | with_reducible exact Kp.refl _ | with_reducible apply Kp.drew | with_reducible apply Kp.alloc)); done)) | (refine ⟨?_, ?_, ?_, ?_⟩ <;> (refine ((World.cell?_setCell_far _ _ _ _ ?_).trans ((World.cell?_setCell_far _ _ _ _ ?_).trans ?_)) <;> first | assumption | (have h90 := cell_lt y90; have h91 := cell_lt y91; have h92 := cell_lt y92; have h93 := cell_lt y93; have h80 := Below.size KB0; have h81 := Below.size KB1; have h82 := Below.size KB2; have h83 := Below.size KB3; first | omega | (simp <;> omega))))) (first | (go_at_call_of 7 (Value.agg #[.int .u64 X1, .int .u64 X2]); refine (hin1 _).mono ?_; rintro e w3 ⟨rfl, g3⟩; have KB0 : Kp W w3 := Kp.trans (by (repeat (first | exact Kp.refl _ | apply Kp.drew | apply Kp.alloc)); done) g3; have cb0_0 := kkeep KB0 y90; have cb0_1 := kkeep KB0 y91; have cb0_2 := kkeep KB0 y92; have cb0_3 := kkeep KB0 y93) | (go_at_call_of 7 (Value.agg #[.int .u64 Y1, .int .u64 Y2]); refine (hin2 _).mono ?_; rintro e w4 ⟨rfl, g4⟩; have KB1 : Kp W w4 := Kp.trans (Kp.trans KB0 (by (repeat (first | exact Kp.refl _ | apply Kp.drew | apply Kp.alloc)); done)) g4; have cb1_0 := kkeep KB1 y90; have cb1_1 := kkeep KB1 y91; have cb1_2 := kkeep KB1 y92; have cb1_3 := kkeep KB1 y93) | (go_at_call 8; refine (hhu _).mono ?_; rintro e w5 ⟨rfl, g5⟩; have KB2 : Kp W w5 := Kp.trans (Kp.trans KB1 (by (repeat (first | exact Kp.refl _ | apply Kp.drew | apply Kp.alloc)); done)) g5; have cb2_0 := kkeep KB2 y90; have cb2_1 := kkeep KB2 y91; have cb2_2 := kkeep KB2 y92; have cb2_3 := kkeep KB2 y93) | (go_at_call 5; refine (ho2 _).mono ?_; rintro e w6 ⟨rfl, g6⟩; have KB3 : Kp W w6 := Kp.trans (Kp.trans KB2 (by (repeat (first | exact Kp.refl _ | apply Kp.drew | apply Kp.alloc)); done)) g6; have cb3_0 := kkeep KB3 y90; have cb3_1 := kkeep KB3 y91; have cb3_2 := kkeep KB3 y92; have cb3_3 := kkeep KB3 y93; first | ((with_reducible have hb9 := (Fq.H2.keepK (Fq.H2.keepK (Fq.H2.keepK (Fq.H2.keepK (Fq.H2.newD W (.int .u64 0) (.int .u64 0) 24) g3) g4) g5) g6)); obtain ⟨mb0, mb1, mb2, mb3⟩ := id hb9) | ((with_reducible have hb9 := (Fq.H2.keepK (Fq.H2.keepK (Fq.H2.keepK (Fq.H2.new w3 (.int .u64 0) (.int .u64 0) 24) g4) g5) g6)); obtain ⟨mb0, mb1, mb2, mb3⟩ := id hb9) | ((with_reducible have hb9 := (Fq.H2.keepK (Fq.H2.keepK (Fq.H2.new w4 (.int .u64 0) (.int .u64 0) 24) g5) g6)); obtain ⟨mb0, mb1, mb2, mb3⟩ := id hb9) | ((with_reducible have hb9 := (Fq.H2.keepK (Fq.H2.new w5 (.int .u64 0) (.int .u64 0) 24) g6)); obtain ⟨mb0, mb1, mb2, mb3⟩ := id hb9) | skip))
    all_goals go_wp2_with fail
    all_goals (
      go_meet
      refine ⟨_, rfl, ?_, ?_⟩
      · first | (with_reducible exact Fq.H2.put hb9 _ _) | (with_reducible exact Fq.H2.put (Fq.H2.new w6 (.int .u64 0) (.int .u64 0) 24) _ _) | (with_reducible exact Fq.H2.new w6 _ _ 24) | (unfold Fq.H2; simp [go_sem]; done)
      · have h80 := Below.size KB0; have h81 := Below.size KB1; have h82 := Below.size KB2; have h83 := Below.size KB3
        first | (with_reducible exact (Kp.alloc KB3 _)) | ((with_reducible refine (Kp.setCell (Kp.setCell KB3 ?_ _) ?_ _)) <;> first | omega | (simp <;> omega)) | ((with_reducible refine (Kp.setCell (Kp.setCell (Kp.alloc KB3 _) ?_ _) ?_ _)) <;> first | omega | (simp <;> omega)))
  case rest =>
  obtain ⟨g8, rfl, q8, gc⟩ := hcut
  replace sx := Fq.H2.keep sx gc
  replace sy := Fq.H2.keep sy gc
  replace sv := H3c.keep sv gc
  replace hz := hkr _ _ gc hz
  replace kW := Kp.trans kW gc
  replace q7 := Fq.H2.keep q7 gc
  clear gc y90 y91 y92 y93
  generalize wc = W at sx sy sv hz kW q7 q8 ⊢
  go_upto_region 5 with fail
  obtain ⟨x0, x1, x2, x3⟩ := id sx; obtain ⟨y0, y1, y2, y3⟩ := id sy; obtain ⟨v0, v1, v2, v3, v4, v5⟩ := id sv
  go_upto_region 7 with (first | (go_at_call_of 9 (Value.agg #[.int .u64 X1, .int .u64 X2]); refine (hr1 _).mono ?_; rintro e wa ⟨rfl, ga⟩; have ga2 := Kp.trans ga ((Kp.refl _).alloc (.cells #[.int .u64 P1, .int .u64 P2] 24)); replace sx := Fq.H2.keep sx ga2; replace sy := Fq.H2.keep sy ga2; replace sv := H3c.keep sv ga2; replace hz := hkr _ _ ga2 hz; replace kW := Kp.trans kW ga2; replace q7 := Fq.H2.keep q7 ga2; replace q8 := Fq.H2.keep q8 ga2; have q9 := Fq.H2.new wa (.int .u64 P1) (.int .u64 P2) 24; clear x0 x1 x2 x3 y0 y1 y2 y3 v0 v1 v2 v3 v4 v5; obtain ⟨x0, x1, x2, x3⟩ := id sx; obtain ⟨y0, y1, y2, y3⟩ := id sy; obtain ⟨v0, v1, v2, v3, v4, v5⟩ := id sv) | (go_at_call_of 9 (Value.agg #[.int .u64 Y1, .int .u64 Y2]); refine (hr2 _).mono ?_; rintro e wb ⟨rfl, gb⟩; have gb2 := Kp.trans gb ((Kp.refl _).alloc (.cells #[.int .u64 Q1, .int .u64 Q2] 24)); replace sx := Fq.H2.keep sx gb2; replace sy := Fq.H2.keep sy gb2; replace sv := H3c.keep sv gb2; replace hz := hkr _ _ gb2 hz; replace kW := Kp.trans kW gb2; replace q7 := Fq.H2.keep q7 gb2; replace q8 := Fq.H2.keep q8 gb2; replace q9 := Fq.H2.keep q9 gb2; have q10 := Fq.H2.new wb (.int .u64 Q1) (.int .u64 Q2) 24; clear x0 x1 x2 x3 y0 y1 y2 y3 v0 v1 v2 v3 v4 v5; obtain ⟨x0, x1, x2, x3⟩ := id sx; obtain ⟨y0, y1, y2, y3⟩ := id sy; obtain ⟨v0, v1, v2, v3, v4, v5⟩ := id sv))
  generalize wb.alloc (.cells #[.int .u64 Q1, .int .u64 Q2] 24) = W at sx sy sv hz kW q7 q8 q9 q10 x0 x1 x2 x3 y0 y1 y2 y3 v0 v1 v2 v3 v4 v5 ⊢
  generalize wb.heap.size = gb9 at q10 ⊢
  generalize wa.heap.size = ga9 at q9 ⊢
  have HT : Hid ((H1 != P1) = e1 ∧ (H1 != Q1) = e2 ∧ (H2 != P2) = e3 ∧ (H2 != Q2) = e4 ∧ (e1 && e2) = false ∧ (e3 && e4) = false) := ⟨t1, t2, t3, t4, u1, u2⟩
  clear t1 t2 t3 t4 u1 u2
  go_cut [66] (fun s66 wx => s66 = .bool false ∧ Kp W wx)
  case first =>
    obtain ⟨t1, t2, t3, t4, u1, u2⟩ := HT.out
    clear HT
    have gq : Kp W W := Kp.refl W
    obtain ⟨i0, i1, i2, i3⟩ := id q7
    obtain ⟨h0, h1, h2, h3⟩ := id q8
    obtain ⟨a0, a1, a2, a3⟩ := id q9
    obtain ⟨b0, b1, b2, b3⟩ := id q10
    have uu : (e1 = false ∨ (e1 = true ∧ e2 = false)) ∧ (e3 = false ∨ (e3 = true ∧ e4 = false)) := by
      cases e1 <;> cases e2 <;> cases e3 <;> cases e4 <;> simp at u1 u2 ⊢
    clear u1 u2 x0 x1 x2 x3 y0 y1 y2 y3 v0 v1 v2 v3 v4 v5 sx sy sv hz
    obtain ⟨uu1, uu2⟩ := uu
    rcases uu1 with rfl | ⟨rfl, rfl⟩
    all_goals (
      rcases uu2 with rfl | ⟨rfl, rfl⟩
      all_goals (
        go_wp2_with (first | (go_at_call_of 10 (Value.agg #[.int .u64 I1, .int .u64 I2]); refine (hv1 _).mono ?_; rintro e wv ⟨rfl, gv⟩; replace gq := Kp.trans gq gv; replace q7 := Fq.H2.keep q7 gv; replace q8 := Fq.H2.keep q8 gv; replace q9 := Fq.H2.keep q9 gv; replace q10 := Fq.H2.keep q10 gv; clear gv i0 i1 i2 i3 h0 h1 h2 h3 a0 a1 a2 a3 b0 b1 b2 b3; obtain ⟨i0, i1, i2, i3⟩ := id q7; obtain ⟨h0, h1, h2, h3⟩ := id q8; obtain ⟨a0, a1, a2, a3⟩ := id q9; obtain ⟨b0, b1, b2, b3⟩ := id q10) | (go_at_call_of 10 (Value.agg #[.int .u64 H1, .int .u64 H2]); refine (hv2 _).mono ?_; rintro e wv ⟨rfl, gv⟩; replace gq := Kp.trans gq gv; replace q7 := Fq.H2.keep q7 gv; replace q8 := Fq.H2.keep q8 gv; replace q9 := Fq.H2.keep q9 gv; replace q10 := Fq.H2.keep q10 gv; clear gv i0 i1 i2 i3 h0 h1 h2 h3 a0 a1 a2 a3 b0 b1 b2 b3; obtain ⟨i0, i1, i2, i3⟩ := id q7; obtain ⟨h0, h1, h2, h3⟩ := id q8; obtain ⟨a0, a1, a2, a3⟩ := id q9; obtain ⟨b0, b1, b2, b3⟩ := id q10))
        go_meet
        exact ⟨rfl, gq⟩))
  case rest =>
  obtain ⟨rfl, gc⟩ := hcut
  replace sx := Fq.H2.keep sx gc; replace sy := Fq.H2.keep sy gc; replace sv := H3c.keep sv gc; replace hz := hkr _ _ gc hz; replace kW := Kp.trans kW gc; replace q7 := Fq.H2.keep q7 gc; replace q8 := Fq.H2.keep q8 gc
  clear gc HT q9 q10 x0 x1 x2 x3 y0 y1 y2 y3 v0 v1 v2 v3 v4 v5
  generalize wc = W at sx sy sv hz kW q7 q8 ⊢
  obtain ⟨x0, x1, x2, x3⟩ := id sx; obtain ⟨y0, y1, y2, y3⟩ := id sy; obtain ⟨v0, v1, v2, v3, v4, v5⟩ := id sv
  go_upto_region 11 with (first | (go_at_call 11; refine (hno _ hz).mono ?_; rintro e wn ⟨pn, cn, rfl, gn⟩; replace sx := Fq.H2.keep sx gn; replace sy := Fq.H2.keep sy gn; replace sv := H3c.keep sv gn; replace hz := hkr _ _ gn hz; replace kW := Kp.trans kW gn; replace q7 := Fq.H2.keep q7 gn; replace q8 := Fq.H2.keep q8 gn; clear gn; clear x0 x1 x2 x3 y0 y1 y2 y3 v0 v1 v2 v3 v4 v5; obtain ⟨x0, x1, x2, x3⟩ := id sx; obtain ⟨y0, y1, y2, y3⟩ := id sy; obtain ⟨v0, v1, v2, v3, v4, v5⟩ := id sv; obtain ⟨i0, i1, i2, i3⟩ := id q7; obtain ⟨h0, h1, h2, h3⟩ := id q8))
  obtain ⟨hc3, hc4⟩ := HC.out
  clear HC tz
  cases C1 <;> cases C2 <;> cases C3 <;> cases C4
  all_goals (first | (cases hc3; done) | (cases hc4; done) | skip)
  all_goals (
    clear hc3 hc4
    go_wp2_with (first | (go_at_call_of 12 (Value.agg #[.int .u64 X1, .int .u64 X2]); refine (hH _ _ _ f1 _ hz).mono ?_; rintro e wn ⟨rfl, gn⟩; replace sx := Fq.H2.keep sx gn; replace sy := Fq.H2.keep sy gn; replace sv := H3c.keep sv gn; replace hz := hkr _ _ gn hz; replace kW := Kp.trans kW gn; replace q7 := Fq.H2.keep q7 gn; replace q8 := Fq.H2.keep q8 gn; clear gn; clear i0 i1 i2 i3 h0 h1 h2 h3; clear x0 x1 x2 x3 y0 y1 y2 y3 v0 v1 v2 v3 v4 v5; obtain ⟨x0, x1, x2, x3⟩ := id sx; obtain ⟨y0, y1, y2, y3⟩ := id sy; obtain ⟨v0, v1, v2, v3, v4, v5⟩ := id sv; obtain ⟨i0, i1, i2, i3⟩ := id q7; obtain ⟨h0, h1, h2, h3⟩ := id q8) | (go_at_call_of 12 (Value.agg #[.int .u64 Y1, .int .u64 Y2]); refine (hH _ _ _ f2 _ hz).mono ?_; rintro e wn ⟨rfl, gn⟩; replace sx := Fq.H2.keep sx gn; replace sy := Fq.H2.keep sy gn; replace sv := H3c.keep sv gn; replace hz := hkr _ _ gn hz; replace kW := Kp.trans kW gn; replace q7 := Fq.H2.keep q7 gn; replace q8 := Fq.H2.keep q8 gn; clear gn; clear i0 i1 i2 i3 h0 h1 h2 h3; clear x0 x1 x2 x3 y0 y1 y2 y3 v0 v1 v2 v3 v4 v5; obtain ⟨x0, x1, x2, x3⟩ := id sx; obtain ⟨y0, y1, y2, y3⟩ := id sy; obtain ⟨v0, v1, v2, v3, v4, v5⟩ := id sv; obtain ⟨i0, i1, i2, i3⟩ := id q7; obtain ⟨h0, h1, h2, h3⟩ := id q8) | (go_at_call_of 12 (Value.agg #[.int .u64 I1, .int .u64 I2]); refine (hH _ _ _ f3 _ hz).mono ?_; rintro e wn ⟨rfl, gn⟩; replace sx := Fq.H2.keep sx gn; replace sy := Fq.H2.keep sy gn; replace sv := H3c.keep sv gn; replace hz := hkr _ _ gn hz; replace kW := Kp.trans kW gn; replace q7 := Fq.H2.keep q7 gn; replace q8 := Fq.H2.keep q8 gn; clear gn; clear i0 i1 i2 i3 h0 h1 h2 h3; clear x0 x1 x2 x3 y0 y1 y2 y3 v0 v1 v2 v3 v4 v5; obtain ⟨x0, x1, x2, x3⟩ := id sx; obtain ⟨y0, y1, y2, y3⟩ := id sy; obtain ⟨v0, v1, v2, v3, v4, v5⟩ := id sv; obtain ⟨i0, i1, i2, i3⟩ := id q7; obtain ⟨h0, h1, h2, h3⟩ := id q8) | (go_at_call_of 12 (Value.agg #[.int .u64 H1, .int .u64 H2]); refine (hH _ _ _ f4 _ hz).mono ?_; rintro e wn ⟨rfl, gn⟩; replace sx := Fq.H2.keep sx gn; replace sy := Fq.H2.keep sy gn; replace sv := H3c.keep sv gn; replace hz := hkr _ _ gn hz; replace kW := Kp.trans kW gn; replace q7 := Fq.H2.keep q7 gn; replace q8 := Fq.H2.keep q8 gn; clear gn; clear i0 i1 i2 i3 h0 h1 h2 h3; clear x0 x1 x2 x3 y0 y1 y2 y3 v0 v1 v2 v3 v4 v5; obtain ⟨x0, x1, x2, x3⟩ := id sx; obtain ⟨y0, y1, y2, y3⟩ := id sy; obtain ⟨v0, v1, v2, v3, v4, v5⟩ := id sv; obtain ⟨i0, i1, i2, i3⟩ := id q7; obtain ⟨h0, h1, h2, h3⟩ := id q8))
    exact bodyPost_ret (v := .bool true) (by simp [results, Try.results3, go_sem]) rfl ⟨rfl, kW⟩)
theorem valid9_ (L H : Int) (d : VdZ L H) (w : World) : Calls Try.prog 10 #[.agg #[.int .u64 (pI L), .int .u64 (pI H)]] w fun e w' => e = .returned (.bool true) ∧ Kp w w' := by
  have al := abs_pw L d.lo
  have ah := abs_pw H d.hi
  have g := Fq.rvalid_ (decide (L < 0)) (decide (H < 0)) L.natAbs H.natAbs (by omega) (by omega) w
  have hv : Fq.vld (pw L) (pw H) = true := by
    unfold Fq.vld
    rcases d with ⟨rfl, rfl⟩ | d'
    · decide
    · rw [snd_pw L H (by unfold BdZ; omega) (by unfold BdZ; omega), decide_eq_true (show L ≤ H ∧ L ≠ 9218868437227405312 ∧ H ≠ -9218868437227405312 by omega), decide_eq_false (pw_ne L (by unfold BdZ; omega)), decide_eq_false (pw_ne H (by unfold BdZ; omega))]
      simp
  rw [show Fq.vld (Fq.wD (decide (L < 0)) L.natAbs) (Fq.wD (decide (H < 0)) H.natAbs) = true from hv] at g
  exact g
set_option maxHeartbeats 2000000 in
theorem normW_ (v : Value) (y : Nat) (W : World) (h : LN9 W v y) : Calls Try.prog 11 #[v] W fun e w' => ∃ (pn : Option Addr) (cn : Nat), e = .returned (.slice pn (dig y).length cn) ∧ Kp W w' := by
  obtain ⟨L, h1, h2, h3, h4⟩ := h
  have g := normR v L W h1 h2 h3
  rw [h4] at g
  exact g.mono fun e w' ⟨v', e1, ⟨p, c, e2, _, _⟩, k⟩ => ⟨p, c, by rw [e1, e2], k⟩
theorem points_ (a b c d : Nat) (ha : a < 18446744073709551616) (hb : b < 18446744073709551616) (hc : c < 18446744073709551616) (hd : d < 18446744073709551616) (s3 : Bool) (p3 : Option Addr) (c3 : Nat) (xs : List Int) (q3 : Option Addr) (d3 : Nat) (ys : List Int) (w : World) (ax : Arr w p3 xs) (wx : Wd xs) (kx : xs.length ≤ c3) (lx : xs.length ≤ 1048576) (ay : Arr w q3 ys) (wy : Wd ys) (ky : ys.length ≤ d3) (ly : ys.length ≤ 1048576) : Calls Try.prog 3 #[.agg #[.int .u64 ((a : Nat) : Int), .int .u64 ((b : Nat) : Int)], .agg #[.int .u64 ((c : Nat) : Int), .int .u64 ((d : Nat) : Int)], .agg #[.bool s3, .slice p3 xs.length c3, .slice q3 ys.length d3]] w fun e w' => e = .returned (.bool true) ∧ Kp w w' := by
  obtain ⟨L1, H1, r1⟩ := Rd.ex a b ha hb
  obtain ⟨L2, H2, r2⟩ := Rd.ex c d hc hd
  obtain ⟨K, hK⟩ : ∃ K : Nat, K = 1074 := ⟨_, rfl⟩
  have d1 := r1.vd
  have d2 := r2.vd
  have dm := vd_meet L1 H1 L2 H2 d1 d2
  have dh := vd_hull L1 H1 L2 H2 d1 d2
  have hz0 : (fun W => LN9 W (.slice p3 xs.length c3) (val xs) ∧ LN9 W (.slice q3 ys.length d3) (val ys)) w := ⟨⟨xs, ⟨p3, c3, rfl, ax, kx⟩, wx, lx, rfl⟩, ⟨ys, ⟨q3, d3, rfl, ay, ky⟩, wy, ly, rfl⟩⟩
  have hkr : ∀ W W' : World, Kp W W' → (fun W => LN9 W (.slice p3 xs.length c3) (val xs) ∧ LN9 W (.slice q3 ys.length d3) (val ys)) W → (fun W => LN9 W (.slice p3 xs.length c3) (val xs) ∧ LN9 W (.slice q3 ys.length d3) (val ys)) W' := fun W W' g h => ⟨h.1.kp g, h.2.kp g⟩
  have u1 : ((pI (min L1 L2) != pI L1) && (pI (min L1 L2) != pI L2)) = false := by
    rcases Int.le_total L1 L2 with t | t
    · rw [show min L1 L2 = L1 from by omega]; simp
    · rw [show min L1 L2 = L2 from by omega]; simp
  have u2 : ((pI (max H1 H2) != pI H1) && (pI (max H1 H2) != pI H2)) = false := by
    rcases Int.le_total H1 H2 with t | t
    · rw [show max H1 H2 = H2 from by omega]; simp
    · rw [show max H1 H2 = H1 from by omega]; simp
  have hno : ∀ W : World, (fun W => LN9 W (.slice p3 xs.length c3) (val xs) ∧ LN9 W (.slice q3 ys.length d3) (val ys)) W → Calls Try.prog 11 #[.slice q3 ys.length d3] W fun e w' => ∃ (pn : Option Addr) (cn : Nat), e = .returned (.slice pn (dig (val ys)).length cn) ∧ Kp W w' := fun W h => normW_ _ _ W h.2
  have hlz := dig_len_zero (val ys)
  have o1 := out9_ (pw (iL L1 H1 L2 H2)) (pw (iH L1 H1 L2 H2))
  have o2 := out9_ (pw (min L1 L2)) (pw (max H1 H2))
  by_cases zy : val ys = 0
  · exact pointsZ_ _ _ _ _ a b c d _ _ _ _ (pI (iL L1 H1 L2 H2)) (pI (iH L1 H1 L2 H2)) (pI (min L1 L2)) (pI (max H1 H2)) (pI L1) (pI H1) (pI L2) (pI H2) s3 p3 xs.length c3 q3 ys.length d3 _ _ hkr (in9_ a b) (in9_ c d) (meet9_ a b c d L1 H1 L2 H2 r1 r2) (hull9_ a b c d L1 H1 L2 H2 r1 r2) o1 o2 (rread9_ a b L1 H1 r1) (rread9_ c d L2 H2 r2) (valid9_ _ _ dm) (valid9_ _ _ dh) _ _ _ _ rfl rfl rfl rfl u1 u2 hno (by rw [hlz.2 zy]; rfl) w hz0
  · exact pointsT_ _ _ _ _ a b c d _ _ _ _ (pI (iL L1 H1 L2 H2)) (pI (iH L1 H1 L2 H2)) (pI (min L1 L2)) (pI (max H1 H2)) (pI L1) (pI H1) (pI L2) (pI H2) s3 p3 xs.length c3 q3 ys.length d3 _ _ hkr (in9_ a b) (in9_ c d) (meet9_ a b c d L1 H1 L2 H2 r1 r2) (hull9_ a b c d L1 H1 L2 H2 r1 r2) o1 o2 (rread9_ a b L1 H1 r1) (rread9_ c d L2 H2 r2) (valid9_ _ _ dm) (valid9_ _ _ dh) _ _ _ _ rfl rfl rfl rfl u1 u2 hno (by have := mt hlz.1 zy; omega) (fun X Y V => ∀ W : World, (fun W => LN9 W (.slice p3 xs.length c3) (val xs) ∧ LN9 W (.slice q3 ys.length d3) (val ys)) W → Calls Try.prog 12 #[.agg #[.int .u64 X, .int .u64 Y], .agg #[.bool s3, .slice p3 xs.length c3, .slice q3 ys.length d3]] W fun e w' => e = .returned (.bool V) ∧ Kp W w') (fun X Y V h => h) _ _ _ _ (fun W h => holdsW_ K hK a b L1 H1 r1 s3 p3 xs.length c3 q3 ys.length d3 (val xs) (val ys) W ⟨h.1, h.2, zy⟩) (fun W h => holdsW_ K hK c d L2 H2 r2 s3 p3 xs.length c3 q3 ys.length d3 (val xs) (val ys) W ⟨h.1, h.2, zy⟩) (fun W h => holdsW_ K hK (pw (iL L1 H1 L2 H2)) (pw (iH L1 H1 L2 H2)) _ _ (Rd.of dm) s3 p3 xs.length c3 q3 ys.length d3 (val xs) (val ys) W ⟨h.1, h.2, zy⟩) (fun W h => holdsW_ K hK (pw (min L1 L2)) (pw (max H1 H2)) _ _ (Rd.of dh) s3 p3 xs.length c3 q3 ys.length d3 (val xs) (val ys) W ⟨h.1, h.2, zy⟩) (holds_meet K s3 (val xs) (val ys) zy L1 H1 L2 H2 d1 d2) (holds_hull K s3 (val xs) (val ys) L1 H1 L2 H2 d1 d2) w hz0
end Go.Proofs.Ytfdkgkpcocnfoaa
