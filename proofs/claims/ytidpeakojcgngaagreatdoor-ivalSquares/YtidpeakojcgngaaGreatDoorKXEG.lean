import Derived.Test.YtidpeakojcgngaaGreatDoorProg
import Derived.Test.YtidpeakojcgngaaGreatDoorKXA0
import Derived.Test.YtidpeakojcgngaaGreatDoorKXM
import Derived.Test.YtidpeakojcgngaaGreatDoorKXY
import Derived.Test.YtidpeakojcgngaaGreatDoorKXQF
import Derived.Test.YtidpeakojcgngaaGreatDoorKQA
import Derived.Test.YtidpeakojcgngaaGreatDoorKQP
import Derived.Test.YtidpeakojcgngaaGreatDoorKXQU
import Derived.Test.YtidpeakojcgngaaGreatDoorKQB
import Derived.Test.YtidpeakojcgngaaGreatDoorKQBT
import Derived.Test.YtidpeakojcgngaaGreatDoorKQJd
import Derived.Test.YtidpeakojcgngaaGreatDoorKXEA
import Derived.Test.YtidpeakojcgngaaGreatDoorKXED
import Derived.Test.YtidpeakojcgngaaGreatDoorKMR7Q
import Derived.Test.YtidpeakojcgngaaGreatDoorKXMR
import Derived.Test.YtidpeakojcgngaaGreatDoorKXM3
import Derived.Test.YtidpeakojcgngaaGreatDoorKXO
import Derived.Test.YtidpeakojcgngaaGreatDoorKXO3
import Derived.Test.YtidpeakojcgngaaGreatDoorKXT
import Derived.Test.YtidpeakojcgngaaGreatDoorKXLX
import Derived.Test.YtidpeakojcgngaaGreatDoorKRX
import Derived.Test.YtidpeakojcgngaaGreatDoorKXRL
import Derived.Test.YtidpeakojcgngaaGreatDoorKXCO
import Derived.Test.YtidpeakojcgngaaGreatDoorKLN
import Derived.Test.YtidpeakojcgngaaGreatDoorKXRN
import Derived.Test.YtidpeakojcgngaaGreatDoorKXW4
import Derived.Test.YtidpeakojcgngaaGreatDoorKXBY
import Derived.Test.YtidpeakojcgngaaGreatDoorKXTZ
import Derived.Test.YtidpeakojcgngaaGreatDoorKXG1
import Derived.Test.YtidpeakojcgngaaGreatDoorKXH2Q
import Derived.Test.YtidpeakojcgngaaGreatDoorKXG4
import Derived.Test.YtidpeakojcgngaaGreatDoorKXS1
import Derived.Test.YtidpeakojcgngaaGreatDoorKXET
import Derived.WalkKit
import Derived.ProofKit
import Derived.RowKit3
import Derived.WalkSpells
import Derived.StillTactics
import Derived.Deep.QuietTactic
import Derived.BigQuiet
import Derived.Below
import Derived.Deep.OwnRows
import Derived.OwnWalk
import Derived.Laws.BitsAllLaws
import Derived.Laws.Slices
import Derived.Laws.Bits64b
import Derived.Laws.FloatArith
import Derived.Deep.RegionHeld3
namespace Go.Proofs.YtidpeakojcgngaaGreatDoor
open Go.RowKit
set_option maxRecDepth 20000 in
set_option maxHeartbeats 1000000 in
theorem fin0_ (w : World) : Calls Tryz.prog 36 #[.int .i64 0] w fun e w' => ∃ (s : Bool) (p : Option Addr) (l c : Nat) (q : Option Addr) (k d : Nat), e = .returned (.agg #[.int .i64 0, .bool s, .slice p l c, .slice q k d]) ∧ RP w.heap.size w' s p l c q k d false 0 ∧ Kp w w' := by
  go_enter Tryz.func36, Tryz.ntmps36
  go_wp2_with (first | (go_at_call 49; refine (int0_ _).mono ?_; rintro e w1 ⟨s, p, l, c, q, k, d, rfl, hp, g1⟩; have r0 := kkeep g1 (b := w.heap.size) (o := 0) (v := .int .i64 0) (by simp [go_sem]); have rz0 : w1.frozen? ⟨w.heap.size, 0, none⟩ = false := (kfro g1 (by simp <;> omega)).trans (by simp [go_sem]); have r1 := kkeep g1 (b := w.heap.size) (o := 1) (v := .bool false) (by simp [go_sem]); have rz1 : w1.frozen? ⟨w.heap.size, 1, none⟩ = false := (kfro g1 (by simp <;> omega)).trans (by simp [go_sem]); have r2 := kkeep g1 (b := w.heap.size) (o := 2) (v := .slice none 0 0) (by simp [go_sem]); have rz2 : w1.frozen? ⟨w.heap.size, 2, none⟩ = false := (kfro g1 (by simp <;> omega)).trans (by simp [go_sem]); have r3 := kkeep g1 (b := w.heap.size) (o := 3) (v := .slice none 0 0) (by simp [go_sem]); have rz3 : w1.frozen? ⟨w.heap.size, 3, none⟩ = false := (kfro g1 (by simp <;> omega)).trans (by simp [go_sem])))
  exact bodyPost_ret (v := .agg #[.int .i64 0, .bool s, .slice p l c, .slice q k d]) (by simp [results, Tryz.results36, go_sem, r0, r1, r2, r3]) rfl ⟨s, p, l, c, q, k, d, rfl, RP.mono (((((hp).set (x := ⟨w.heap.size, 0, none⟩) (by simp) (.int .i64 0)).set (x := ⟨w.heap.size, 1, none⟩) (by simp) (.bool s)).set (x := ⟨w.heap.size, 2, none⟩) (by simp) (.slice p l c)).set (x := ⟨w.heap.size, 3, none⟩) (by simp) (.slice q k d)) (by simp), (((((Kp.trans ((Kp.refl w).alloc _) g1)).setCell (Nat.le_refl _) _).setCell (Nat.le_refl _) _).setCell (Nat.le_refl _) _).setCell (Nat.le_refl _) _⟩
set_option maxRecDepth 20000 in
set_option maxHeartbeats 1000000 in
theorem ofS_ (X Y LO HI i j : Int) (N1 N2 : Bool) (M1 M2 : Nat) (hr : ∀ w : World, Calls Tryz.prog 38 #[.agg #[.int .u64 X, .int .u64 Y]] w fun e w' => e = .returned (.agg #[.int .u64 LO, .int .u64 HI]) ∧ Kp w w') (hb1 : ∀ w : World, Calls Tryz.prog 39 #[.int .u64 LO] w fun e w' => ∃ (s : Bool) (p : Option Addr) (l c : Nat) (q : Option Addr) (k d : Nat), e = .returned (.agg #[.int .i64 i, .bool s, .slice p l c, .slice q k d]) ∧ RP w.heap.size w' s p l c q k d N1 M1 ∧ Kp w w') (hb2 : ∀ w : World, Calls Tryz.prog 39 #[.int .u64 HI] w fun e w' => ∃ (s : Bool) (p : Option Addr) (l c : Nat) (q : Option Addr) (k d : Nat), e = .returned (.agg #[.int .i64 j, .bool s, .slice p l c, .slice q k d]) ∧ RP w.heap.size w' s p l c q k d N2 M2 ∧ Kp w w') (t1 : (LO == 9218868437227405312) = false) (w : World) : Calls Tryz.prog 17 #[.agg #[.int .u64 X, .int .u64 Y]] w fun e w' => ∃ (s : Bool) (p : Option Addr) (l c : Nat) (q : Option Addr) (k d : Nat) (s2 : Bool) (p2 : Option Addr) (l2 c2 : Nat) (q2 : Option Addr) (k2 d2 : Nat), e = .returned (.agg #[.bool false, .int .i64 i, .bool s, .slice p l c, .slice q k d, .int .i64 j, .bool s2, .slice p2 l2 c2, .slice q2 k2 d2]) ∧ RP w.heap.size w' s p l c q k d N1 M1 ∧ RP w.heap.size w' s2 p2 l2 c2 q2 k2 d2 N2 M2 ∧ Kp w w' := by
  go_enter Tryz.func17, Tryz.ntmps17
  go_wp2_with (first | (go_at_call 38; refine (hr _).mono ?_; rintro e w1 ⟨rfl, g1⟩; have r0 := kkeep g1 (b := w.heap.size + 1) (o := 0) (v := .bool false) (by simp [go_sem]); have rz0 : w1.frozen? ⟨w.heap.size + 1, 0, none⟩ = false := (kfro g1 (by simp <;> omega)).trans (by simp [go_sem]); have r1 := kkeep g1 (b := w.heap.size + 1) (o := 1) (v := .int .i64 0) (by simp [go_sem]); have rz1 : w1.frozen? ⟨w.heap.size + 1, 1, none⟩ = false := (kfro g1 (by simp <;> omega)).trans (by simp [go_sem]); have r2 := kkeep g1 (b := w.heap.size + 1) (o := 2) (v := .bool false) (by simp [go_sem]); have rz2 : w1.frozen? ⟨w.heap.size + 1, 2, none⟩ = false := (kfro g1 (by simp <;> omega)).trans (by simp [go_sem]); have r3 := kkeep g1 (b := w.heap.size + 1) (o := 3) (v := .slice none 0 0) (by simp [go_sem]); have rz3 : w1.frozen? ⟨w.heap.size + 1, 3, none⟩ = false := (kfro g1 (by simp <;> omega)).trans (by simp [go_sem]); have r4 := kkeep g1 (b := w.heap.size + 1) (o := 4) (v := .slice none 0 0) (by simp [go_sem]); have rz4 : w1.frozen? ⟨w.heap.size + 1, 4, none⟩ = false := (kfro g1 (by simp <;> omega)).trans (by simp [go_sem]); have r5 := kkeep g1 (b := w.heap.size + 1) (o := 5) (v := .int .i64 0) (by simp [go_sem]); have rz5 : w1.frozen? ⟨w.heap.size + 1, 5, none⟩ = false := (kfro g1 (by simp <;> omega)).trans (by simp [go_sem]); have r6 := kkeep g1 (b := w.heap.size + 1) (o := 6) (v := .bool false) (by simp [go_sem]); have rz6 : w1.frozen? ⟨w.heap.size + 1, 6, none⟩ = false := (kfro g1 (by simp <;> omega)).trans (by simp [go_sem]); have r7 := kkeep g1 (b := w.heap.size + 1) (o := 7) (v := .slice none 0 0) (by simp [go_sem]); have rz7 : w1.frozen? ⟨w.heap.size + 1, 7, none⟩ = false := (kfro g1 (by simp <;> omega)).trans (by simp [go_sem]); have r8 := kkeep g1 (b := w.heap.size + 1) (o := 8) (v := .slice none 0 0) (by simp [go_sem]); have rz8 : w1.frozen? ⟨w.heap.size + 1, 8, none⟩ = false := (kfro g1 (by simp <;> omega)).trans (by simp [go_sem])))
  go_region_held3 (fun w' => w'.cell? ⟨w1.heap.size, 0, none⟩ = some (.int .u64 LO) ∧ w'.cell? ⟨w1.heap.size, 1, none⟩ = some (.int .u64 HI)) (simp [go_sem]) (first | (go_at_call 30; refine (Fq.rempty_ _).mono ?_; rintro e w' ⟨rfl, rfl⟩))
  have y0 : (((w1.alloc (.cells #[.int .u64 LO, .int .u64 HI] 24)).alloc (.cells #[.int .u64 9218868437227405312, .int .u64 18442240474082181120] 24)).drew).cell? ⟨w1.heap.size, 0, none⟩ = some (.int .u64 LO) := by simp [go_sem]
  have y1 : (((w1.alloc (.cells #[.int .u64 LO, .int .u64 HI] 24)).alloc (.cells #[.int .u64 9218868437227405312, .int .u64 18442240474082181120] 24)).drew).cell? ⟨w1.heap.size, 1, none⟩ = some (.int .u64 HI) := by simp [go_sem]
  have kW : Kp w1 (((w1.alloc (.cells #[.int .u64 LO, .int .u64 HI] 24)).alloc (.cells #[.int .u64 9218868437227405312, .int .u64 18442240474082181120] 24)).drew) := (((Kp.refl w1).alloc _).alloc _).drew
  have kw : Kp w w1 := Kp.trans (((Kp.refl w).alloc _).alloc _) g1
  have hB1 : w.heap.size + 1 < w1.heap.size := cell_lt r0
  have hne : w.heap.size + 1 ≠ w1.heap.size := Nat.ne_of_lt hB1
  go_wp2
  generalize (((w1.alloc (.cells #[.int .u64 LO, .int .u64 HI] 24)).alloc (.cells #[.int .u64 9218868437227405312, .int .u64 18442240474082181120] 24)).drew) = W at y0 y1 kW ⊢
  generalize hby : w1.heap.size = by9 at y0 y1 hne ⊢
  have hBW : w.heap.size + 1 < W.heap.size := Nat.lt_of_lt_of_le hB1 (Below.size kW)
  have y2 : W.drew.cell? ⟨by9, 0, none⟩ = some (.int .u64 LO) := y0
  have y3 : W.drew.cell? ⟨by9, 1, none⟩ = some (.int .u64 HI) := y1
  replace r0 := kkeep kW r0
  replace rz0 := (kfro kW hB1).trans rz0
  replace r1 := kkeep kW r1
  replace rz1 := (kfro kW hB1).trans rz1
  replace r2 := kkeep kW r2
  replace rz2 := (kfro kW hB1).trans rz2
  replace r3 := kkeep kW r3
  replace rz3 := (kfro kW hB1).trans rz3
  replace r4 := kkeep kW r4
  replace rz4 := (kfro kW hB1).trans rz4
  replace r5 := kkeep kW r5
  replace rz5 := (kfro kW hB1).trans rz5
  replace r6 := kkeep kW r6
  replace rz6 := (kfro kW hB1).trans rz6
  replace r7 := kkeep kW r7
  replace rz7 := (kfro kW hB1).trans rz7
  replace r8 := kkeep kW r8
  replace rz8 := (kfro kW hB1).trans rz8
  go_region_held3 (fun w' => w'.cell? ⟨by9, 0, none⟩ = some (.int .u64 LO) ∧ w'.cell? ⟨by9, 1, none⟩ = some (.int .u64 HI)) (first | (with_reducible exact ⟨y0, y1⟩) | (with_reducible exact ⟨y2, y3⟩) | (with_reducible exact ⟨a0, a1⟩) | (with_reducible exact ⟨b0, b1⟩) | (exact ⟨((World.cell?_setCell_far _ _ _ _ hne).trans ((World.cell?_setCell_far _ _ _ _ hne).trans ((World.cell?_setCell_far _ _ _ _ hne).trans ((World.cell?_setCell_far _ _ _ _ hne).trans ((World.cell?_setCell_far _ _ _ _ hne).trans ((World.cell?_setCell_far _ _ _ _ hne).trans ((World.cell?_setCell_far _ _ _ _ hne).trans ((World.cell?_setCell_far _ _ _ _ hne).trans ((World.cell?_setCell_far _ _ _ _ hne).trans b0))))))))), ((World.cell?_setCell_far _ _ _ _ hne).trans ((World.cell?_setCell_far _ _ _ _ hne).trans ((World.cell?_setCell_far _ _ _ _ hne).trans ((World.cell?_setCell_far _ _ _ _ hne).trans ((World.cell?_setCell_far _ _ _ _ hne).trans ((World.cell?_setCell_far _ _ _ _ hne).trans ((World.cell?_setCell_far _ _ _ _ hne).trans ((World.cell?_setCell_far _ _ _ _ hne).trans ((World.cell?_setCell_far _ _ _ _ hne).trans b1)))))))))⟩)) (first | (go_at_call_of 39 (Value.int .u64 LO); refine (hb1 _).mono ?_; rintro e wl ⟨s, p, l, c, q, k, d, rfl, hp, gl⟩; have kl : Kp W wl := Kp.trans (Kp.drew (Kp.refl _)) gl; have a0 := kkeep kl y0; have a1 := kkeep kl y1) | (go_at_call_of 39 (Value.int .u64 HI); refine (hb2 _).mono ?_; rintro e wh ⟨s2, p2, l2, c2, q2, k2, d2, rfl, hp2, gh⟩; have kh := Kp.trans kl gh; have b0 := kkeep kh y0; have b1 := kkeep kh y1; have R0 := kkeep kh r0; have Rz0 : wh.frozen? ⟨w.heap.size + 1, 0, none⟩ = false := (kfro kh (cell_lt r0)).trans rz0; have R1 := kkeep kh r1; have Rz1 : wh.frozen? ⟨w.heap.size + 1, 1, none⟩ = false := (kfro kh (cell_lt r1)).trans rz1; have R2 := kkeep kh r2; have Rz2 : wh.frozen? ⟨w.heap.size + 1, 2, none⟩ = false := (kfro kh (cell_lt r2)).trans rz2; have R3 := kkeep kh r3; have Rz3 : wh.frozen? ⟨w.heap.size + 1, 3, none⟩ = false := (kfro kh (cell_lt r3)).trans rz3; have R4 := kkeep kh r4; have Rz4 : wh.frozen? ⟨w.heap.size + 1, 4, none⟩ = false := (kfro kh (cell_lt r4)).trans rz4; have R5 := kkeep kh r5; have Rz5 : wh.frozen? ⟨w.heap.size + 1, 5, none⟩ = false := (kfro kh (cell_lt r5)).trans rz5; have R6 := kkeep kh r6; have Rz6 : wh.frozen? ⟨w.heap.size + 1, 6, none⟩ = false := (kfro kh (cell_lt r6)).trans rz6; have R7 := kkeep kh r7; have Rz7 : wh.frozen? ⟨w.heap.size + 1, 7, none⟩ = false := (kfro kh (cell_lt r7)).trans rz7; have R8 := kkeep kh r8; have Rz8 : wh.frozen? ⟨w.heap.size + 1, 8, none⟩ = false := (kfro kh (cell_lt r8)).trans rz8))
  go_wp2
  have hP1 : RP W.heap.size wh s p l c q k d N1 M1 := (RP.mono hp (Nat.le_refl _)).kp gh
  have hP2 : RP W.heap.size wh s2 p2 l2 c2 q2 k2 d2 N2 M2 := RP.mono hp2 (Below.size kl)
  have hle : w.heap.size ≤ W.heap.size := Nat.le_of_lt (Nat.lt_trans (Nat.lt_succ_self _) hBW)
  exact bodyPost_ret (v := .agg #[.bool false, .int .i64 i, .bool s, .slice p l c, .slice q k d, .int .i64 j, .bool s2, .slice p2 l2 c2, .slice q2 k2 d2]) (by simp [results, Tryz.results17, go_sem, R0, R1, R2, R3, R4, R5, R6, R7, R8]) rfl ⟨s, p, l, c, q, k, d, s2, p2, l2, c2, q2, k2, d2, rfl, RP.mono ((((((((((hP1).set (x := ⟨w.heap.size + 1, 0, none⟩) hBW (.bool false)).set (x := ⟨w.heap.size + 1, 1, none⟩) hBW (.int .i64 i)).set (x := ⟨w.heap.size + 1, 2, none⟩) hBW (.bool s)).set (x := ⟨w.heap.size + 1, 3, none⟩) hBW (.slice p l c)).set (x := ⟨w.heap.size + 1, 4, none⟩) hBW (.slice q k d)).set (x := ⟨w.heap.size + 1, 5, none⟩) hBW (.int .i64 j)).set (x := ⟨w.heap.size + 1, 6, none⟩) hBW (.bool s2)).set (x := ⟨w.heap.size + 1, 7, none⟩) hBW (.slice p2 l2 c2)).set (x := ⟨w.heap.size + 1, 8, none⟩) hBW (.slice q2 k2 d2)) hle, RP.mono ((((((((((hP2).set (x := ⟨w.heap.size + 1, 0, none⟩) hBW (.bool false)).set (x := ⟨w.heap.size + 1, 1, none⟩) hBW (.int .i64 i)).set (x := ⟨w.heap.size + 1, 2, none⟩) hBW (.bool s)).set (x := ⟨w.heap.size + 1, 3, none⟩) hBW (.slice p l c)).set (x := ⟨w.heap.size + 1, 4, none⟩) hBW (.slice q k d)).set (x := ⟨w.heap.size + 1, 5, none⟩) hBW (.int .i64 j)).set (x := ⟨w.heap.size + 1, 6, none⟩) hBW (.bool s2)).set (x := ⟨w.heap.size + 1, 7, none⟩) hBW (.slice p2 l2 c2)).set (x := ⟨w.heap.size + 1, 8, none⟩) hBW (.slice q2 k2 d2)) hle, ((((((((((Kp.trans (Kp.trans kw kW) kh)).setCell (Nat.le_succ _) _).setCell (Nat.le_succ _) _).setCell (Nat.le_succ _) _).setCell (Nat.le_succ _) _).setCell (Nat.le_succ _) _).setCell (Nat.le_succ _) _).setCell (Nat.le_succ _) _).setCell (Nat.le_succ _) _).setCell (Nat.le_succ _) _⟩
set_option maxRecDepth 20000 in
set_option maxHeartbeats 1000000 in
theorem ofE_ (X Y : Int) (hr : ∀ w : World, Calls Tryz.prog 38 #[.agg #[.int .u64 X, .int .u64 Y]] w fun e w' => e = .returned (.agg #[.int .u64 9218868437227405312, .int .u64 18442240474082181120]) ∧ Kp w w') (w : World) : Calls Tryz.prog 17 #[.agg #[.int .u64 X, .int .u64 Y]] w fun e w' => ∃ (s : Bool) (p : Option Addr) (l c : Nat) (q : Option Addr) (k d : Nat) (s2 : Bool) (p2 : Option Addr) (l2 c2 : Nat) (q2 : Option Addr) (k2 d2 : Nat), e = .returned (.agg #[.bool true, .int .i64 0, .bool s, .slice p l c, .slice q k d, .int .i64 0, .bool s2, .slice p2 l2 c2, .slice q2 k2 d2]) ∧ RP w.heap.size w' s p l c q k d false 0 ∧ RP w.heap.size w' s2 p2 l2 c2 q2 k2 d2 false 0 ∧ Kp w w' := by
  go_enter Tryz.func17, Tryz.ntmps17
  go_wp2_with (first | (go_at_call 38; refine (hr _).mono ?_; rintro e w1 ⟨rfl, g1⟩; have r0 := kkeep g1 (b := w.heap.size + 1) (o := 0) (v := .bool false) (by simp [go_sem]); have rz0 : w1.frozen? ⟨w.heap.size + 1, 0, none⟩ = false := (kfro g1 (by simp <;> omega)).trans (by simp [go_sem]); have r1 := kkeep g1 (b := w.heap.size + 1) (o := 1) (v := .int .i64 0) (by simp [go_sem]); have rz1 : w1.frozen? ⟨w.heap.size + 1, 1, none⟩ = false := (kfro g1 (by simp <;> omega)).trans (by simp [go_sem]); have r2 := kkeep g1 (b := w.heap.size + 1) (o := 2) (v := .bool false) (by simp [go_sem]); have rz2 : w1.frozen? ⟨w.heap.size + 1, 2, none⟩ = false := (kfro g1 (by simp <;> omega)).trans (by simp [go_sem]); have r3 := kkeep g1 (b := w.heap.size + 1) (o := 3) (v := .slice none 0 0) (by simp [go_sem]); have rz3 : w1.frozen? ⟨w.heap.size + 1, 3, none⟩ = false := (kfro g1 (by simp <;> omega)).trans (by simp [go_sem]); have r4 := kkeep g1 (b := w.heap.size + 1) (o := 4) (v := .slice none 0 0) (by simp [go_sem]); have rz4 : w1.frozen? ⟨w.heap.size + 1, 4, none⟩ = false := (kfro g1 (by simp <;> omega)).trans (by simp [go_sem]); have r5 := kkeep g1 (b := w.heap.size + 1) (o := 5) (v := .int .i64 0) (by simp [go_sem]); have rz5 : w1.frozen? ⟨w.heap.size + 1, 5, none⟩ = false := (kfro g1 (by simp <;> omega)).trans (by simp [go_sem]); have r6 := kkeep g1 (b := w.heap.size + 1) (o := 6) (v := .bool false) (by simp [go_sem]); have rz6 : w1.frozen? ⟨w.heap.size + 1, 6, none⟩ = false := (kfro g1 (by simp <;> omega)).trans (by simp [go_sem]); have r7 := kkeep g1 (b := w.heap.size + 1) (o := 7) (v := .slice none 0 0) (by simp [go_sem]); have rz7 : w1.frozen? ⟨w.heap.size + 1, 7, none⟩ = false := (kfro g1 (by simp <;> omega)).trans (by simp [go_sem]); have r8 := kkeep g1 (b := w.heap.size + 1) (o := 8) (v := .slice none 0 0) (by simp [go_sem]); have rz8 : w1.frozen? ⟨w.heap.size + 1, 8, none⟩ = false := (kfro g1 (by simp <;> omega)).trans (by simp [go_sem])))
  go_region_held3 (fun w' => w'.cell? ⟨w1.heap.size, 0, none⟩ = some (.int .u64 9218868437227405312) ∧ w'.cell? ⟨w1.heap.size, 1, none⟩ = some (.int .u64 18442240474082181120)) (simp [go_sem]) (first | (go_at_call 30; refine (Fq.rempty_ _).mono ?_; rintro e w' ⟨rfl, rfl⟩))
  have kW : Kp w1 (((w1.alloc (.cells #[.int .u64 9218868437227405312, .int .u64 18442240474082181120] 24)).alloc (.cells #[.int .u64 9218868437227405312, .int .u64 18442240474082181120] 24)).drew) := (((Kp.refl w1).alloc _).alloc _).drew
  have kw : Kp w w1 := Kp.trans (((Kp.refl w).alloc _).alloc _) g1
  have hB1 : w.heap.size + 1 < w1.heap.size := cell_lt r0
  generalize (((w1.alloc (.cells #[.int .u64 9218868437227405312, .int .u64 18442240474082181120] 24)).alloc (.cells #[.int .u64 9218868437227405312, .int .u64 18442240474082181120] 24)).drew) = W at kW ⊢
  have hBW : w.heap.size + 1 < W.heap.size := Nat.lt_of_lt_of_le hB1 (Below.size kW)
  replace r0 := kkeep kW r0
  replace rz0 := (kfro kW hB1).trans rz0
  replace r1 := kkeep kW r1
  replace rz1 := (kfro kW hB1).trans rz1
  replace r2 := kkeep kW r2
  replace rz2 := (kfro kW hB1).trans rz2
  replace r3 := kkeep kW r3
  replace rz3 := (kfro kW hB1).trans rz3
  replace r4 := kkeep kW r4
  replace rz4 := (kfro kW hB1).trans rz4
  replace r5 := kkeep kW r5
  replace rz5 := (kfro kW hB1).trans rz5
  replace r6 := kkeep kW r6
  replace rz6 := (kfro kW hB1).trans rz6
  replace r7 := kkeep kW r7
  replace rz7 := (kfro kW hB1).trans rz7
  replace r8 := kkeep kW r8
  replace rz8 := (kfro kW hB1).trans rz8
  go_wp2_with (first | (go_at_call 36; refine (fin0_ _).mono ?_; rintro e wh ⟨s2, p2, l2, c2, q2, k2, d2, rfl, hp2, gh⟩; have kh := Kp.trans kl gh; have R0 := kkeep kh r0; have Rz0 : wh.frozen? ⟨w.heap.size + 1, 0, none⟩ = false := (kfro kh (cell_lt r0)).trans rz0; have R1 := kkeep kh r1; have Rz1 : wh.frozen? ⟨w.heap.size + 1, 1, none⟩ = false := (kfro kh (cell_lt r1)).trans rz1; have R2 := kkeep kh r2; have Rz2 : wh.frozen? ⟨w.heap.size + 1, 2, none⟩ = false := (kfro kh (cell_lt r2)).trans rz2; have R3 := kkeep kh r3; have Rz3 : wh.frozen? ⟨w.heap.size + 1, 3, none⟩ = false := (kfro kh (cell_lt r3)).trans rz3; have R4 := kkeep kh r4; have Rz4 : wh.frozen? ⟨w.heap.size + 1, 4, none⟩ = false := (kfro kh (cell_lt r4)).trans rz4; have R5 := kkeep kh r5; have Rz5 : wh.frozen? ⟨w.heap.size + 1, 5, none⟩ = false := (kfro kh (cell_lt r5)).trans rz5; have R6 := kkeep kh r6; have Rz6 : wh.frozen? ⟨w.heap.size + 1, 6, none⟩ = false := (kfro kh (cell_lt r6)).trans rz6; have R7 := kkeep kh r7; have Rz7 : wh.frozen? ⟨w.heap.size + 1, 7, none⟩ = false := (kfro kh (cell_lt r7)).trans rz7; have R8 := kkeep kh r8; have Rz8 : wh.frozen? ⟨w.heap.size + 1, 8, none⟩ = false := (kfro kh (cell_lt r8)).trans rz8) | (go_at_call 36; refine (fin0_ _).mono ?_; rintro e wl ⟨s, p, l, c, q, k, d, rfl, hp, kl⟩))
  have hP1 : RP W.heap.size wh s p l c q k d false 0 := hp.kp gh
  have hP2 : RP W.heap.size wh s2 p2 l2 c2 q2 k2 d2 false 0 := RP.mono hp2 (Below.size kl)
  have hle : w.heap.size ≤ W.heap.size := Nat.le_of_lt (Nat.lt_trans (Nat.lt_succ_self _) hBW)
  exact bodyPost_ret (v := .agg #[.bool true, .int .i64 0, .bool s, .slice p l c, .slice q k d, .int .i64 0, .bool s2, .slice p2 l2 c2, .slice q2 k2 d2]) (by simp [results, Tryz.results17, go_sem, R0, R1, R2, R3, R4, R5, R6, R7, R8]) rfl ⟨s, p, l, c, q, k, d, s2, p2, l2, c2, q2, k2, d2, rfl, RP.mono ((((((((((hP1).set (x := ⟨w.heap.size + 1, 0, none⟩) hBW (.bool true)).set (x := ⟨w.heap.size + 1, 1, none⟩) hBW (.int .i64 0)).set (x := ⟨w.heap.size + 1, 2, none⟩) hBW (.bool s)).set (x := ⟨w.heap.size + 1, 3, none⟩) hBW (.slice p l c)).set (x := ⟨w.heap.size + 1, 4, none⟩) hBW (.slice q k d)).set (x := ⟨w.heap.size + 1, 5, none⟩) hBW (.int .i64 0)).set (x := ⟨w.heap.size + 1, 6, none⟩) hBW (.bool s2)).set (x := ⟨w.heap.size + 1, 7, none⟩) hBW (.slice p2 l2 c2)).set (x := ⟨w.heap.size + 1, 8, none⟩) hBW (.slice q2 k2 d2)) hle, RP.mono ((((((((((hP2).set (x := ⟨w.heap.size + 1, 0, none⟩) hBW (.bool true)).set (x := ⟨w.heap.size + 1, 1, none⟩) hBW (.int .i64 0)).set (x := ⟨w.heap.size + 1, 2, none⟩) hBW (.bool s)).set (x := ⟨w.heap.size + 1, 3, none⟩) hBW (.slice p l c)).set (x := ⟨w.heap.size + 1, 4, none⟩) hBW (.slice q k d)).set (x := ⟨w.heap.size + 1, 5, none⟩) hBW (.int .i64 0)).set (x := ⟨w.heap.size + 1, 6, none⟩) hBW (.bool s2)).set (x := ⟨w.heap.size + 1, 7, none⟩) hBW (.slice p2 l2 c2)).set (x := ⟨w.heap.size + 1, 8, none⟩) hBW (.slice q2 k2 d2)) hle, ((((((((((Kp.trans (Kp.trans kw kW) kh)).setCell (Nat.le_succ _) _).setCell (Nat.le_succ _) _).setCell (Nat.le_succ _) _).setCell (Nat.le_succ _) _).setCell (Nat.le_succ _) _).setCell (Nat.le_succ _) _).setCell (Nat.le_succ _) _).setCell (Nat.le_succ _) _).setCell (Nat.le_succ _) _⟩

/-- a ratio that is rounded to Z d in direction d, with rows of its own from 'base' on -/
def QP (base : Nat) (w : World) (s : Bool) (p : Option Addr) (l c : Nat) (q : Option Addr) (k d : Nat) (Z : Int → Nat) : Prop := ∃ a b, Own w base (.slice p l c) (dig a) ∧ Own w base (.slice q k d) (dig b) ∧ b ≠ 0 ∧ blen a ≤ 4194304 ∧ blen b ≤ 4194304 ∧ ∀ dd : Int, refW 53 1074 2098 9218868437227405311 0 dd s a b = Z dd
theorem QP.kp {base : Nat} {w w' : World} {s : Bool} {p : Option Addr} {l c : Nat} {q : Option Addr} {k d : Nat} {Z : Int → Nat} (h : QP base w s p l c q k d Z) (g : Kp w w') : QP base w' s p l c q k d Z := by
  obtain ⟨a, b, h1, h2, h3⟩ := h
  exact ⟨a, b, h1.kp g, h2.kp g, h3⟩
theorem QP.mono {base base' : Nat} {w : World} {s : Bool} {p : Option Addr} {l c : Nat} {q : Option Addr} {k d : Nat} {Z : Int → Nat} (h : QP base w s p l c q k d Z) (g : base' ≤ base) : QP base' w s p l c q k d Z := by
  obtain ⟨a, b, h1, h2, h3⟩ := h
  exact ⟨a, b, h1.mono g, h2.mono g, h3⟩
theorem QP.set {base : Nat} {w : World} {s : Bool} {p : Option Addr} {l c : Nat} {q : Option Addr} {k d : Nat} {Z : Int → Nat} (h : QP base w s p l c q k d Z) {x : Addr} (hx : x.block < base) (u : Value) : QP base (w.setCell x u) s p l c q k d Z := by
  obtain ⟨a, b, h1, h2, h3⟩ := h
  exact ⟨a, b, h1.setOther hx u, h2.setOther hx u, h3⟩
theorem QP.congr {base : Nat} {w : World} {s : Bool} {p : Option Addr} {l c : Nat} {q : Option Addr} {k d : Nat} {Z Y : Int → Nat} (h : QP base w s p l c q k d Z) (e : Z = Y) : QP base w s p l c q k d Y := e ▸ h
/-- a number's ratio is rounded to the number -/
theorem RP.qp {base : Nat} {w : World} {s : Bool} {p : Option Addr} {l c : Nat} {q : Option Addr} {k d : Nat} {n : Bool} {m : Nat} (h : RP base w s p l c q k d n m) : QP base w s p l c q k d (fun dd => sumW dd (Iv n m)) := by
  obtain ⟨a, b, h1, h2, h3⟩ := h
  obtain ⟨K, hK⟩ : ∃ K : Nat, K = 1074 := ⟨_, rfl⟩
  obtain ⟨f1, f2, f3, f4, f5⟩ := h3 K hK
  refine ⟨a, b, h1, h2, f1, by omega, by omega, fun dd => ?_⟩
  refine ratio_sum dd (Iv n m) a b a b K s hK f1 ⟨f1, Iff.rfl, fun d' p' t' _ => by rw [Int.add_zero], by omega, by omega⟩ ?_ s (fun _ => rfl) ?_
  · rw [f2]
    congr 1
    unfold Iv; cases n <;> simp
  · intro hne
    rw [f3] at hne ⊢
    cases s <;> simp at hne ⊢ <;> omega

theorem qbits_ (s : Bool) (p : Option Addr) (l c : Nat) (q : Option Addr) (k d : Nat) (Z : Int → Nat) (dd : Int) (B1 : Nat) (w : World) (h : QP B1 w s p l c q k d Z) : Calls Tryz.prog 32 #[.int .i64 dd, .agg #[.bool s, .slice p l c, .slice q k d]] w fun e w' => e = .returned (.int .u64 ((Z dd : Nat) : Int)) ∧ Kp w w' := by
  obtain ⟨a, b, u1, u2, u3, u4, u5, u6⟩ := h
  have h := rbits_ dd s (.slice p l c) (.slice q k d) a b w u1.ls u2.ls u3 u4 u5
  rw [u6 dd] at h
  exact h
set_option maxRecDepth 20000 in
set_option maxHeartbeats 1000000 in
theorem leastE_ (i j : Int) (s : Bool) (p : Option Addr) (l c : Nat) (q : Option Addr) (k d : Nat) (s2 : Bool) (p2 : Option Addr) (l2 c2 : Nat) (q2 : Option Addr) (k2 d2 : Nat) (w : World) : Calls Tryz.prog 15 #[.agg #[.bool true, .int .i64 i, .bool s, .slice p l c, .slice q k d, .int .i64 j, .bool s2, .slice p2 l2 c2, .slice q2 k2 d2]] w fun e w' => e = .returned (.agg #[.int .u64 9218868437227405312, .int .u64 18442240474082181120]) ∧ Kp w w' := by
  go_enter Tryz.func15, Tryz.ntmps15
  go_wp2_with (first | (go_at_call 30; refine (Fq.rempty_ _).mono ?_; rintro e w' ⟨rfl, rfl⟩))
  exact bodyPost_ret (v := .agg #[.int .u64 9218868437227405312, .int .u64 18442240474082181120]) (by simp [results, Tryz.results15, go_sem]) rfl ⟨rfl, (by repeat (with_reducible (first | assumption | exact Kp.refl _ | apply Kp.drew | apply Kp.alloc | apply Kp.drewN | (refine Kp.setCell ?_ (by first | omega | (simp <;> omega)) _) | (refine Kp.trans ?_ (by assumption)))))⟩
set_option maxRecDepth 20000 in
set_option maxHeartbeats 1000000 in
theorem leastNN_ (i : Int) (t1 : (i == 0) = false) (j : Int) (t2 : (j == 0) = false) (s : Bool) (p : Option Addr) (l c : Nat) (q : Option Addr) (k d : Nat) (s2 : Bool) (p2 : Option Addr) (l2 c2 : Nat) (q2 : Option Addr) (k2 d2 : Nat) (w : World) : Calls Tryz.prog 15 #[.agg #[.bool false, .int .i64 i, .bool s, .slice p l c, .slice q k d, .int .i64 j, .bool s2, .slice p2 l2 c2, .slice q2 k2 d2]] w fun e w' => e = .returned (.agg #[.int .u64 18442240474082181120, .int .u64 9218868437227405312]) ∧ Kp w w' := by
  go_enter Tryz.func15, Tryz.ntmps15
  go_wp2_with (first | (go_at_call 31; refine (Fq.rentire_ _).mono ?_; rintro e w' ⟨rfl, rfl⟩))
  exact bodyPost_ret (v := .agg #[.int .u64 18442240474082181120, .int .u64 9218868437227405312]) (by simp [results, Tryz.results15, go_sem]) rfl ⟨rfl, (by repeat (with_reducible (first | assumption | exact Kp.refl _ | apply Kp.drew | apply Kp.alloc | apply Kp.drewN | (refine Kp.setCell ?_ (by first | omega | (simp <;> omega)) _) | (refine Kp.trans ?_ (by assumption)))))⟩
set_option maxRecDepth 20000 in
set_option maxHeartbeats 1000000 in
theorem leastFN_ (ZA : Int) (j : Int) (t2 : (j == 0) = false) (s : Bool) (p : Option Addr) (l c : Nat) (q : Option Addr) (k d : Nat) (s2 : Bool) (p2 : Option Addr) (l2 c2 : Nat) (q2 : Option Addr) (k2 d2 : Nat) (w : World) (hb1 : ∀ W : World, Kp w W → Calls Tryz.prog 32 #[.int .i64 (-1), .agg #[.bool s, .slice p l c, .slice q k d]] W fun e w' => e = .returned (.int .u64 ZA) ∧ Kp W w') : Calls Tryz.prog 15 #[.agg #[.bool false, .int .i64 0, .bool s, .slice p l c, .slice q k d, .int .i64 j, .bool s2, .slice p2 l2 c2, .slice q2 k2 d2]] w fun e w' => e = .returned (.agg #[.int .u64 ZA, .int .u64 9218868437227405312]) ∧ Kp w w' := by
  go_enter Tryz.func15, Tryz.ntmps15
  go_wp2_with (first | (go_at_call 31; refine (Fq.rentire_ _).mono ?_; rintro e w' ⟨rfl, rfl⟩) | (go_at_call_of 32 (Value.slice p l c); refine (hb1 _ ?q0).mono ?_; (case q0 => exact ((((Kp.refl w).alloc _).alloc _).alloc _).alloc _); rintro e wa ⟨rfl, ga⟩; have ka : Kp w wa := Kp.trans (((((Kp.refl w).alloc _).alloc _).alloc _).alloc _) ga; have x0 := kkeep ga (b := w.heap.size) (o := 0) (v := .bool false) (by simp [go_sem]); have xz0 : wa.frozen? ⟨w.heap.size, 0, none⟩ = false := (kfro ga (by simp <;> omega)).trans (by simp [go_sem]); have x1 := kkeep ga (b := w.heap.size) (o := 1) (v := .int .i64 0) (by simp [go_sem]); have xz1 : wa.frozen? ⟨w.heap.size, 1, none⟩ = false := (kfro ga (by simp <;> omega)).trans (by simp [go_sem]); have x2 := kkeep ga (b := w.heap.size) (o := 2) (v := .bool s) (by simp [go_sem]); have xz2 : wa.frozen? ⟨w.heap.size, 2, none⟩ = false := (kfro ga (by simp <;> omega)).trans (by simp [go_sem]); have x3 := kkeep ga (b := w.heap.size) (o := 3) (v := .slice p l c) (by simp [go_sem]); have xz3 : wa.frozen? ⟨w.heap.size, 3, none⟩ = false := (kfro ga (by simp <;> omega)).trans (by simp [go_sem]); have x4 := kkeep ga (b := w.heap.size) (o := 4) (v := .slice q k d) (by simp [go_sem]); have xz4 : wa.frozen? ⟨w.heap.size, 4, none⟩ = false := (kfro ga (by simp <;> omega)).trans (by simp [go_sem]); have x5 := kkeep ga (b := w.heap.size) (o := 5) (v := .int .i64 j) (by simp [go_sem]); have xz5 : wa.frozen? ⟨w.heap.size, 5, none⟩ = false := (kfro ga (by simp <;> omega)).trans (by simp [go_sem]); have x6 := kkeep ga (b := w.heap.size) (o := 6) (v := .bool s2) (by simp [go_sem]); have xz6 : wa.frozen? ⟨w.heap.size, 6, none⟩ = false := (kfro ga (by simp <;> omega)).trans (by simp [go_sem]); have x7 := kkeep ga (b := w.heap.size) (o := 7) (v := .slice p2 l2 c2) (by simp [go_sem]); have xz7 : wa.frozen? ⟨w.heap.size, 7, none⟩ = false := (kfro ga (by simp <;> omega)).trans (by simp [go_sem]); have x8 := kkeep ga (b := w.heap.size) (o := 8) (v := .slice q2 k2 d2) (by simp [go_sem]); have xz8 : wa.frozen? ⟨w.heap.size, 8, none⟩ = false := (kfro ga (by simp <;> omega)).trans (by simp [go_sem]); have v0 := kkeep ga (b := w.heap.size + 3) (o := 0) (v := .int .u64 18442240474082181120) (by simp [go_sem]); have vz0 : wa.frozen? ⟨w.heap.size + 3, 0, none⟩ = false := (kfro ga (by simp <;> omega)).trans (by simp [go_sem]); have v1 := kkeep ga (b := w.heap.size + 3) (o := 1) (v := .int .u64 9218868437227405312) (by simp [go_sem]); have vz1 : wa.frozen? ⟨w.heap.size + 3, 1, none⟩ = false := (kfro ga (by simp <;> omega)).trans (by simp [go_sem]); have r0 := kkeep ga (b := w.heap.size + 1) (o := 0) (v := .int .u64 0) (by simp [go_sem]); have rz0 : wa.frozen? ⟨w.heap.size + 1, 0, none⟩ = false := (kfro ga (by simp <;> omega)).trans (by simp [go_sem]); have r1 := kkeep ga (b := w.heap.size + 1) (o := 1) (v := .int .u64 0) (by simp [go_sem]); have rz1 : wa.frozen? ⟨w.heap.size + 1, 1, none⟩ = false := (kfro ga (by simp <;> omega)).trans (by simp [go_sem])))
  exact bodyPost_ret (v := .agg #[.int .u64 ZA, .int .u64 9218868437227405312]) (by simp [results, Tryz.results15, go_sem, r0, r1]) rfl ⟨rfl, (by repeat (with_reducible (first | assumption | exact Kp.refl _ | apply Kp.drew | apply Kp.alloc | apply Kp.drewN | (refine Kp.setCell ?_ (by first | omega | (simp <;> omega)) _) | (refine Kp.trans ?_ (by assumption)))))⟩
set_option maxRecDepth 20000 in
set_option maxHeartbeats 1000000 in
theorem leastNF_ (i : Int) (t1 : (i == 0) = false) (ZB : Int) (s : Bool) (p : Option Addr) (l c : Nat) (q : Option Addr) (k d : Nat) (s2 : Bool) (p2 : Option Addr) (l2 c2 : Nat) (q2 : Option Addr) (k2 d2 : Nat) (w : World) (hb2 : ∀ W : World, Kp w W → Calls Tryz.prog 32 #[.int .i64 1, .agg #[.bool s2, .slice p2 l2 c2, .slice q2 k2 d2]] W fun e w' => e = .returned (.int .u64 ZB) ∧ Kp W w') : Calls Tryz.prog 15 #[.agg #[.bool false, .int .i64 i, .bool s, .slice p l c, .slice q k d, .int .i64 0, .bool s2, .slice p2 l2 c2, .slice q2 k2 d2]] w fun e w' => e = .returned (.agg #[.int .u64 18442240474082181120, .int .u64 ZB]) ∧ Kp w w' := by
  go_enter Tryz.func15, Tryz.ntmps15
  go_wp2_with (first | (go_at_call 31; refine (Fq.rentire_ _).mono ?_; rintro e w' ⟨rfl, rfl⟩) | (go_at_call_of 32 (Value.slice p2 l2 c2); refine (hb2 _ ?q0).mono ?_; (case q0 => exact ((((Kp.refl w).alloc _).alloc _).alloc _).alloc _); rintro e wb ⟨rfl, gb⟩; have kb : Kp w wb := Kp.trans (((((Kp.refl w).alloc _).alloc _).alloc _).alloc _) gb; have u0 := kkeep gb (b := w.heap.size + 3) (o := 0) (v := .int .u64 18442240474082181120) (by simp [go_sem]); have uz0 : wb.frozen? ⟨w.heap.size + 3, 0, none⟩ = false := (kfro gb (by simp <;> omega)).trans (by simp [go_sem]); have u1 := kkeep gb (b := w.heap.size + 3) (o := 1) (v := .int .u64 9218868437227405312) (by simp [go_sem]); have uz1 : wb.frozen? ⟨w.heap.size + 3, 1, none⟩ = false := (kfro gb (by simp <;> omega)).trans (by simp [go_sem]); have y0 := kkeep gb (b := w.heap.size + 1) (o := 0) (v := .int .u64 0) (by simp [go_sem]); have yz0 : wb.frozen? ⟨w.heap.size + 1, 0, none⟩ = false := (kfro gb (by simp <;> omega)).trans (by simp [go_sem]); have y1 := kkeep gb (b := w.heap.size + 1) (o := 1) (v := .int .u64 0) (by simp [go_sem]); have yz1 : wb.frozen? ⟨w.heap.size + 1, 1, none⟩ = false := (kfro gb (by simp <;> omega)).trans (by simp [go_sem])))
  exact bodyPost_ret (v := .agg #[.int .u64 18442240474082181120, .int .u64 ZB]) (by simp [results, Tryz.results15, go_sem, y0, y1]) rfl ⟨rfl, (by repeat (with_reducible (first | assumption | exact Kp.refl _ | apply Kp.drew | apply Kp.alloc | apply Kp.drewN | (refine Kp.setCell ?_ (by first | omega | (simp <;> omega)) _) | (refine Kp.trans ?_ (by assumption)))))⟩
set_option maxRecDepth 20000 in
set_option maxHeartbeats 1000000 in
theorem leastFF_ (ZA : Int) (ZB : Int) (s : Bool) (p : Option Addr) (l c : Nat) (q : Option Addr) (k d : Nat) (s2 : Bool) (p2 : Option Addr) (l2 c2 : Nat) (q2 : Option Addr) (k2 d2 : Nat) (w : World) (hb1 : ∀ W : World, Kp w W → Calls Tryz.prog 32 #[.int .i64 (-1), .agg #[.bool s, .slice p l c, .slice q k d]] W fun e w' => e = .returned (.int .u64 ZA) ∧ Kp W w') (hb2 : ∀ W : World, Kp w W → Calls Tryz.prog 32 #[.int .i64 1, .agg #[.bool s2, .slice p2 l2 c2, .slice q2 k2 d2]] W fun e w' => e = .returned (.int .u64 ZB) ∧ Kp W w') : Calls Tryz.prog 15 #[.agg #[.bool false, .int .i64 0, .bool s, .slice p l c, .slice q k d, .int .i64 0, .bool s2, .slice p2 l2 c2, .slice q2 k2 d2]] w fun e w' => e = .returned (.agg #[.int .u64 ZA, .int .u64 ZB]) ∧ Kp w w' := by
  go_enter Tryz.func15, Tryz.ntmps15
  go_wp2_with (first | (go_at_call 31; refine (Fq.rentire_ _).mono ?_; rintro e w' ⟨rfl, rfl⟩) | (go_at_call_of 32 (Value.slice p l c); refine (hb1 _ ?q0).mono ?_; (case q0 => exact ((((Kp.refl w).alloc _).alloc _).alloc _).alloc _); rintro e wa ⟨rfl, ga⟩; have ka : Kp w wa := Kp.trans (((((Kp.refl w).alloc _).alloc _).alloc _).alloc _) ga; have x0 := kkeep ga (b := w.heap.size) (o := 0) (v := .bool false) (by simp [go_sem]); have xz0 : wa.frozen? ⟨w.heap.size, 0, none⟩ = false := (kfro ga (by simp <;> omega)).trans (by simp [go_sem]); have x1 := kkeep ga (b := w.heap.size) (o := 1) (v := .int .i64 0) (by simp [go_sem]); have xz1 : wa.frozen? ⟨w.heap.size, 1, none⟩ = false := (kfro ga (by simp <;> omega)).trans (by simp [go_sem]); have x2 := kkeep ga (b := w.heap.size) (o := 2) (v := .bool s) (by simp [go_sem]); have xz2 : wa.frozen? ⟨w.heap.size, 2, none⟩ = false := (kfro ga (by simp <;> omega)).trans (by simp [go_sem]); have x3 := kkeep ga (b := w.heap.size) (o := 3) (v := .slice p l c) (by simp [go_sem]); have xz3 : wa.frozen? ⟨w.heap.size, 3, none⟩ = false := (kfro ga (by simp <;> omega)).trans (by simp [go_sem]); have x4 := kkeep ga (b := w.heap.size) (o := 4) (v := .slice q k d) (by simp [go_sem]); have xz4 : wa.frozen? ⟨w.heap.size, 4, none⟩ = false := (kfro ga (by simp <;> omega)).trans (by simp [go_sem]); have x5 := kkeep ga (b := w.heap.size) (o := 5) (v := .int .i64 0) (by simp [go_sem]); have xz5 : wa.frozen? ⟨w.heap.size, 5, none⟩ = false := (kfro ga (by simp <;> omega)).trans (by simp [go_sem]); have x6 := kkeep ga (b := w.heap.size) (o := 6) (v := .bool s2) (by simp [go_sem]); have xz6 : wa.frozen? ⟨w.heap.size, 6, none⟩ = false := (kfro ga (by simp <;> omega)).trans (by simp [go_sem]); have x7 := kkeep ga (b := w.heap.size) (o := 7) (v := .slice p2 l2 c2) (by simp [go_sem]); have xz7 : wa.frozen? ⟨w.heap.size, 7, none⟩ = false := (kfro ga (by simp <;> omega)).trans (by simp [go_sem]); have x8 := kkeep ga (b := w.heap.size) (o := 8) (v := .slice q2 k2 d2) (by simp [go_sem]); have xz8 : wa.frozen? ⟨w.heap.size, 8, none⟩ = false := (kfro ga (by simp <;> omega)).trans (by simp [go_sem]); have v0 := kkeep ga (b := w.heap.size + 3) (o := 0) (v := .int .u64 18442240474082181120) (by simp [go_sem]); have vz0 : wa.frozen? ⟨w.heap.size + 3, 0, none⟩ = false := (kfro ga (by simp <;> omega)).trans (by simp [go_sem]); have v1 := kkeep ga (b := w.heap.size + 3) (o := 1) (v := .int .u64 9218868437227405312) (by simp [go_sem]); have vz1 : wa.frozen? ⟨w.heap.size + 3, 1, none⟩ = false := (kfro ga (by simp <;> omega)).trans (by simp [go_sem]); have r0 := kkeep ga (b := w.heap.size + 1) (o := 0) (v := .int .u64 0) (by simp [go_sem]); have rz0 : wa.frozen? ⟨w.heap.size + 1, 0, none⟩ = false := (kfro ga (by simp <;> omega)).trans (by simp [go_sem]); have r1 := kkeep ga (b := w.heap.size + 1) (o := 1) (v := .int .u64 0) (by simp [go_sem]); have rz1 : wa.frozen? ⟨w.heap.size + 1, 1, none⟩ = false := (kfro ga (by simp <;> omega)).trans (by simp [go_sem])) | (go_at_call_of 32 (Value.slice p2 l2 c2); refine (hb2 _ ?q0).mono ?_; (case q0 => exact ka.setCell (by simp <;> omega) _); rintro e wb ⟨rfl, gb⟩; have kb : Kp w wb := Kp.trans (ka.setCell (by simp <;> omega) _) gb; have u0 := kkeep gb (b := w.heap.size + 3) (o := 0) (v := .int .u64 ZA) (by simp [go_sem, v0]); have u1 := kkeep gb (b := w.heap.size + 3) (o := 1) (v := .int .u64 9218868437227405312) (by simp [go_sem, v1]); have uz0 : wb.frozen? ⟨w.heap.size + 3, 0, none⟩ = false := (kfro gb (by have := cell_lt v0; simpa using this)).trans (by simp [go_sem, vz0]); have uz1 : wb.frozen? ⟨w.heap.size + 3, 1, none⟩ = false := (kfro gb (by have := cell_lt v0; simpa using this)).trans (by simp [go_sem, vz1]); have y0 := kkeep gb (b := w.heap.size + 1) (o := 0) (v := .int .u64 0) (by simp [go_sem, r0]); have y1 := kkeep gb (b := w.heap.size + 1) (o := 1) (v := .int .u64 0) (by simp [go_sem, r1]); have yz0 : wb.frozen? ⟨w.heap.size + 1, 0, none⟩ = false := (kfro gb (by have := cell_lt r0; simpa using this)).trans (by simp [go_sem, rz0]); have yz1 : wb.frozen? ⟨w.heap.size + 1, 1, none⟩ = false := (kfro gb (by have := cell_lt r0; simpa using this)).trans (by simp [go_sem, rz1])))
  exact bodyPost_ret (v := .agg #[.int .u64 ZA, .int .u64 ZB]) (by simp [results, Tryz.results15, go_sem, y0, y1]) rfl ⟨rfl, (by repeat (with_reducible (first | assumption | exact Kp.refl _ | apply Kp.drew | apply Kp.alloc | apply Kp.drewN | (refine Kp.setCell ?_ (by first | omega | (simp <;> omega)) _) | (refine Kp.trans ?_ (by assumption)))))⟩

/-- a set's value, by its flag alone -/
def SV0 (N : Bool) (v : Value) : Prop := ∃ (i j : Int) (s : Bool) (p : Option Addr) (l c : Nat) (q : Option Addr) (k d : Nat) (s2 : Bool) (p2 : Option Addr) (l2 c2 : Nat) (q2 : Option Addr) (k2 d2 : Nat), v = .agg #[.bool N, .int .i64 i, .bool s, .slice p l c, .slice q k d, .int .i64 j, .bool s2, .slice p2 l2 c2, .slice q2 k2 d2]
/-- a set that is not empty, from the end n m to the end n' m' -/
def SV1 (n : Bool) (m : Nat) (n' : Bool) (m' : Nat) (W : World) (v : Value) : Prop := ∃ (s : Bool) (p : Option Addr) (l c : Nat) (q : Option Addr) (k d : Nat) (s2 : Bool) (p2 : Option Addr) (l2 c2 : Nat) (q2 : Option Addr) (k2 d2 : Nat), v = .agg #[.bool false, .int .i64 (infS n m), .bool s, .slice p l c, .slice q k d, .int .i64 (infS n' m'), .bool s2, .slice p2 l2 c2, .slice q2 k2 d2] ∧ RP 0 W s p l c q k d (fN n m) (fM m) ∧ RP 0 W s2 p2 l2 c2 q2 k2 d2 (fN n' m') (fM m')
theorem SV1.sv0 {n : Bool} {m : Nat} {n' : Bool} {m' : Nat} {W : World} {v : Value} (h : SV1 n m n' m' W v) : SV0 false v := by
  obtain ⟨s, p, l, c, q, k, d, s2, p2, l2, c2, q2, k2, d2, e, -, -⟩ := h
  exact ⟨_, _, s, p, l, c, q, k, d, s2, p2, l2, c2, q2, k2, d2, e⟩
theorem SV1.kp {n : Bool} {m : Nat} {n' : Bool} {m' : Nat} {W W' : World} {v : Value} (g : Kp W W') (h : SV1 n m n' m' W v) : SV1 n m n' m' W' v := by
  obtain ⟨s, p, l, c, q, k, d, s2, p2, l2, c2, q2, k2, d2, e, h1, h2⟩ := h
  exact ⟨s, p, l, c, q, k, d, s2, p2, l2, c2, q2, k2, d2, e, h1.kp g, h2.kp g⟩
theorem pla_ne (x : Nat) : Fq.pla x ≠ 9223372036854775808 := by unfold Fq.pla; split <;> omega
theorem rlo_ne (a b : Nat) : Fq.rlo a b ≠ 9223372036854775808 := by
  unfold Fq.rlo
  split
  · exact pla_ne a
  · decide
theorem rhi_ne (a b : Nat) : Fq.rhi a b ≠ 9223372036854775808 := by
  unfold Fq.rhi
  split
  · exact pla_ne b
  · decide
theorem ofEmpty_ (a b : Nat) (ha : a < 18446744073709551616) (hb : b < 18446744073709551616) (hs : Fq.snd a b = false) (w : World) : Calls Tryz.prog 17 #[.agg #[.int .u64 ((a : Nat) : Int), .int .u64 ((b : Nat) : Int)]] w fun e w' => ∃ v, e = .returned v ∧ SV0 true v ∧ Kp w w' := by
  have hr : ∀ w : World, Calls Tryz.prog 38 #[.agg #[.int .u64 ((a : Nat) : Int), .int .u64 ((b : Nat) : Int)]] w fun e w' => e = .returned (.agg #[.int .u64 9218868437227405312, .int .u64 18442240474082181120]) ∧ Kp w w' := by
    obtain ⟨n, m, hm, rfl⟩ := Fq.exD a ha
    obtain ⟨n', m', hm', rfl⟩ := Fq.exD b hb
    intro w
    have h := Fq.rread_ n n' m m' hm hm' w
    rw [show Fq.rlo (Fq.wD n m) (Fq.wD n' m') = 9218868437227405312 from by simp [Fq.rlo, hs], show Fq.rhi (Fq.wD n m) (Fq.wD n' m') = 18442240474082181120 from by simp [Fq.rhi, hs]] at h
    exact h
  refine (ofE_ _ _ hr w).mono ?_
  rintro e w' ⟨s, p, l, c, q, k, d, s2, p2, l2, c2, q2, k2, d2, rfl, -, -, g⟩
  exact ⟨_, rfl, ⟨0, 0, s, p, l, c, q, k, d, s2, p2, l2, c2, q2, k2, d2, rfl⟩, g⟩
theorem ofSound_ (a b : Nat) (ha : a < 18446744073709551616) (hb : b < 18446744073709551616) (hs : Fq.snd a b = true) (n n' : Bool) (m m' : Nat) (hm : m ≤ 9218868437227405312) (hm' : m' ≤ 9218868437227405312) (e1 : Fq.rlo a b = Fq.wD n m) (e2 : Fq.rhi a b = Fq.wD n' m') (w : World) : Calls Tryz.prog 17 #[.agg #[.int .u64 ((a : Nat) : Int), .int .u64 ((b : Nat) : Int)]] w fun e w' => ∃ v, e = .returned v ∧ SV1 n m n' m' w' v ∧ Kp w w' := by
  have hr : ∀ w : World, Calls Tryz.prog 38 #[.agg #[.int .u64 ((a : Nat) : Int), .int .u64 ((b : Nat) : Int)]] w fun e w' => e = .returned (.agg #[.int .u64 ((Fq.wD n m : Nat) : Int), .int .u64 ((Fq.wD n' m' : Nat) : Int)]) ∧ Kp w w' := by
    rw [← e1, ← e2]
    obtain ⟨n, m, hm, rfl⟩ := Fq.exD a ha
    obtain ⟨n', m', hm', rfl⟩ := Fq.exD b hb
    exact fun w => Fq.rread_ n n' m m' hm hm' w
  have t1 : (((Fq.wD n m : Nat) : Int) == 9218868437227405312) = false := by
    have h1 : Fq.rlo a b ≠ 9218868437227405312 := by
      have h2 : a ≠ 9218868437227405312 := by intro h; rw [h] at hs; simp [Fq.snd] at hs
      simp only [Fq.rlo, hs, if_true, Fq.pla]; split <;> omega
    rw [e1] at h1
    simp; omega
  refine (ofS_ _ _ _ _ _ _ _ _ _ _ hr (bound_ n m hm (e1 ▸ rlo_ne a b)) (bound_ n' m' hm' (e2 ▸ rhi_ne a b)) t1 w).mono ?_
  rintro e w' ⟨s, p, l, c, q, k, d, s2, p2, l2, c2, q2, k2, d2, rfl, h1, h2, g⟩
  exact ⟨_, rfl, ⟨s, p, l, c, q, k, d, s2, p2, l2, c2, q2, k2, d2, rfl, h1.mono (Nat.zero_le _), h2.mono (Nat.zero_le _)⟩, g⟩
theorem leastP_ (i j : Int) (ZA ZB : Int → Nat) (s : Bool) (p : Option Addr) (l c : Nat) (q : Option Addr) (k d : Nat) (s2 : Bool) (p2 : Option Addr) (l2 c2 : Nat) (q2 : Option Addr) (k2 d2 : Nat) (B1 B2 : Nat) (w : World) (h1 : i = 0 → QP B1 w s p l c q k d ZA) (h2 : j = 0 → QP B2 w s2 p2 l2 c2 q2 k2 d2 ZB) : Calls Tryz.prog 15 #[.agg #[.bool false, .int .i64 i, .bool s, .slice p l c, .slice q k d, .int .i64 j, .bool s2, .slice p2 l2 c2, .slice q2 k2 d2]] w fun e w' => e = .returned (.agg #[.int .u64 ((if i = 0 then ZA (-1) else 18442240474082181120 : Nat) : Int), .int .u64 ((if j = 0 then ZB 1 else 9218868437227405312 : Nat) : Int)]) ∧ Kp w w' := by
  by_cases e1 : i = 0
  · have g1 := h1 e1
    rw [if_pos e1]
    by_cases e2 : j = 0
    · have g2 := h2 e2
      rw [if_pos e2]
      subst e1 e2
      exact leastFF_ _ _ s p l c q k d s2 p2 l2 c2 q2 k2 d2 w (fun W g => qbits_ s p l c q k d ZA (-1) B1 W (g1.kp g)) (fun W g => qbits_ s2 p2 l2 c2 q2 k2 d2 ZB 1 B2 W (g2.kp g))
    · rw [if_neg e2]
      subst e1
      exact leastFN_ _ j (by simpa using e2) s p l c q k d s2 p2 l2 c2 q2 k2 d2 w (fun W g => qbits_ s p l c q k d ZA (-1) B1 W (g1.kp g))
  · rw [if_neg e1]
    by_cases e2 : j = 0
    · have g2 := h2 e2
      rw [if_pos e2]
      subst e2
      exact leastNF_ i (by simpa using e1) _ s p l c q k d s2 p2 l2 c2 q2 k2 d2 w (fun W g => qbits_ s2 p2 l2 c2 q2 k2 d2 ZB 1 B2 W (g2.kp g))
    · rw [if_neg e2]
      exact leastNN_ i (by simpa using e1) j (by simpa using e2) s p l c q k d s2 p2 l2 c2 q2 k2 d2 w
theorem infS_zero (n : Bool) (m : Nat) : infS n m = 0 ↔ m ≠ 9218868437227405312 := by
  unfold infS
  by_cases c : m = 9218868437227405312
  · rw [if_pos c]; cases n <;> simp [c]
  · rw [if_neg c]; simp [c]
theorem leastN_ (W : World) (v : Value) (h : SV0 true v) : Calls Tryz.prog 15 #[v] W fun e w' => e = .returned (.agg #[.int .u64 9218868437227405312, .int .u64 18442240474082181120]) ∧ Kp W w' := by
  obtain ⟨i, j, s, p, l, c, q, k, d, s2, p2, l2, c2, q2, k2, d2, rfl⟩ := h
  exact leastE_ i j s p l c q k d s2 p2 l2 c2 q2 k2 d2 W
theorem of0_ (a b : Nat) (ha : a < 18446744073709551616) (hb : b < 18446744073709551616) (w : World) : Calls Tryz.prog 17 #[.agg #[.int .u64 ((a : Nat) : Int), .int .u64 ((b : Nat) : Int)]] w fun e w' => ∃ v, e = .returned v ∧ SV0 (!(Fq.snd a b)) v ∧ Kp w w' := by
  by_cases hs : Fq.snd a b = true
  · obtain ⟨n, m, hm, e1⟩ := rlo_w a b ha hb
    obtain ⟨n', m', hm', e2⟩ := rhi_w a b ha hb
    refine (ofSound_ a b ha hb hs n n' m m' hm hm' e1 e2 w).mono ?_
    rintro e w' ⟨v, rfl, h, g⟩
    rw [hs]
    exact ⟨v, rfl, h.sv0, g⟩
  · have hs : Fq.snd a b = false := by simpa using hs
    rw [hs]
    exact ofEmpty_ a b ha hb hs w
theorem rlo_inf (a b : Nat) (hs : Fq.snd a b = true) (n : Bool) (m : Nat) (e1 : Fq.rlo a b = Fq.wD n m) (c : m = 9218868437227405312) : n = true := by
  have h2 : a ≠ 9218868437227405312 := by intro h; rw [h] at hs; simp [Fq.snd] at hs
  have h1 : Fq.rlo a b ≠ 9218868437227405312 := by simp only [Fq.rlo, hs, if_true, Fq.pla]; split <;> omega
  rw [e1, c] at h1
  cases n
  · exact absurd rfl h1
  · rfl
theorem rhi_inf (a b : Nat) (hs : Fq.snd a b = true) (n : Bool) (m : Nat) (e1 : Fq.rhi a b = Fq.wD n m) (c : m = 9218868437227405312) : n = false := by
  have h2 : b ≠ 18442240474082181120 := by intro h; rw [h] at hs; simp [Fq.snd] at hs
  have h1 : Fq.rhi a b ≠ 18442240474082181120 := by simp only [Fq.rhi, hs, if_true, Fq.pla]; split <;> omega
  rw [e1, c] at h1
  cases n
  · rfl
  · exact absurd rfl h1
end Go.Proofs.YtidpeakojcgngaaGreatDoor
