import Derived.Test.YtejklhnhggaolaaGreatDoorProg
import Derived.Test.YtejklhnhggaolaaGreatDoorKXA0
import Derived.Test.YtejklhnhggaolaaGreatDoorKXM
import Derived.Test.YtejklhnhggaolaaGreatDoorKXY
import Derived.Test.YtejklhnhggaolaaGreatDoorKXQF
import Derived.Test.YtejklhnhggaolaaGreatDoorKQA
import Derived.Test.YtejklhnhggaolaaGreatDoorKQP
import Derived.Test.YtejklhnhggaolaaGreatDoorKXQU
import Derived.Test.YtejklhnhggaolaaGreatDoorKQB
import Derived.Test.YtejklhnhggaolaaGreatDoorKQBT
import Derived.Test.YtejklhnhggaolaaGreatDoorKQJd
import Derived.Test.YtejklhnhggaolaaGreatDoorKXEA
import Derived.Test.YtejklhnhggaolaaGreatDoorKXEE
import Derived.Test.YtejklhnhggaolaaGreatDoorKMR7Q
import Derived.Test.YtejklhnhggaolaaGreatDoorKXMR
import Derived.Test.YtejklhnhggaolaaGreatDoorKXM3
import Derived.Test.YtejklhnhggaolaaGreatDoorKXO
import Derived.Test.YtejklhnhggaolaaGreatDoorKXO3
import Derived.Test.YtejklhnhggaolaaGreatDoorKXT
import Derived.Test.YtejklhnhggaolaaGreatDoorKHB
import Derived.Test.YtejklhnhggaolaaGreatDoorKLX
import Derived.Test.YtejklhnhggaolaaGreatDoorKRX
import Derived.Test.YtejklhnhggaolaaGreatDoorKXRL
import Derived.Test.YtejklhnhggaolaaGreatDoorKXCO
import Derived.Test.YtejklhnhggaolaaGreatDoorKLN
import Derived.Test.YtejklhnhggaolaaGreatDoorKXRN
import Derived.Test.YtejklhnhggaolaaGreatDoorKW4
import Derived.Test.YtejklhnhggaolaaGreatDoorKBY
import Derived.Test.YtejklhnhggaolaaGreatDoorKBW
import Derived.Test.YtejklhnhggaolaaGreatDoorKXTZ
import Derived.Test.YtejklhnhggaolaaGreatDoorKXG1
import Derived.Test.YtejklhnhggaolaaGreatDoorKNSm
import Derived.Test.YtejklhnhggaolaaGreatDoorKXH2Q
import Derived.Test.YtejklhnhggaolaaGreatDoorKXG4
import Derived.Test.YtejklhnhggaolaaGreatDoorKS3
import Derived.Test.YtejklhnhggaolaaGreatDoorKXS6
import Derived.Test.YtejklhnhggaolaaGreatDoorKXET
import Derived.Test.YtejklhnhggaolaaGreatDoorKRP
import Derived.Test.YtejklhnhggaolaaGreatDoorKXS4
import Derived.Test.YtejklhnhggaolaaGreatDoorKXS8
import Derived.WalkKit
import Derived.ProofKit
import Derived.RowKit3
import Derived.WalkSpells
import Derived.StillTactics
import Derived.Deep.QuietTactic
import Derived.BigQuiet
import Derived.Below
import Derived.Deep.OwnRows
import Derived.OwnWalk
import Derived.Laws.BitsAllLaws
import Derived.Laws.Slices
import Derived.Laws.Bits64b
import Derived.Laws.FloatArith
import Derived.Deep.RegionHeld3
namespace Go.Proofs.YtejklhnhggaolaaGreatDoor
open Go.RowKit
set_option maxRecDepth 20000 in
set_option maxHeartbeats 1000000 in
theorem leastNN_ (i : Int) (t1 : (i == 0) = false) (j : Int) (t2 : (j == 0) = false) (s : Bool) (p : Option Addr) (l c : Nat) (q : Option Addr) (k d : Nat) (s2 : Bool) (p2 : Option Addr) (l2 c2 : Nat) (q2 : Option Addr) (k2 d2 : Nat) (w : World) : Calls Tryz.prog 17 #[.agg #[.bool false, .int .i64 i, .bool s, .slice p l c, .slice q k d, .int .i64 j, .bool s2, .slice p2 l2 c2, .slice q2 k2 d2]] w fun e w' => e = .returned (.agg #[.int .u64 18442240474082181120, .int .u64 9218868437227405312]) ∧ Kp w w' := by
  go_enter Tryz.func17, Tryz.ntmps17
  go_wp2_with (first | (go_at_call 32; refine (Fq.rentire_ _).mono ?_; rintro e w' ⟨rfl, rfl⟩))
  exact bodyPost_ret (v := .agg #[.int .u64 18442240474082181120, .int .u64 9218868437227405312]) (by simp [results, Tryz.results17, go_sem]) rfl ⟨rfl, (by repeat (with_reducible (first | assumption | exact Kp.refl _ | apply Kp.drew | apply Kp.alloc | apply Kp.drewN | (refine Kp.setCell ?_ (by first | omega | (simp <;> omega)) _) | (refine Kp.trans ?_ (by assumption)))))⟩
set_option maxRecDepth 20000 in
set_option maxHeartbeats 1000000 in
theorem leastFN_ (ZA : Int) (j : Int) (t2 : (j == 0) = false) (s : Bool) (p : Option Addr) (l c : Nat) (q : Option Addr) (k d : Nat) (s2 : Bool) (p2 : Option Addr) (l2 c2 : Nat) (q2 : Option Addr) (k2 d2 : Nat) (w : World) (hb1 : ∀ W : World, Kp w W → Calls Tryz.prog 33 #[.int .i64 (-1), .agg #[.bool s, .slice p l c, .slice q k d]] W fun e w' => e = .returned (.int .u64 ZA) ∧ Kp W w') : Calls Tryz.prog 17 #[.agg #[.bool false, .int .i64 0, .bool s, .slice p l c, .slice q k d, .int .i64 j, .bool s2, .slice p2 l2 c2, .slice q2 k2 d2]] w fun e w' => e = .returned (.agg #[.int .u64 ZA, .int .u64 9218868437227405312]) ∧ Kp w w' := by
  go_enter Tryz.func17, Tryz.ntmps17
  go_wp2_with (first | (go_at_call 32; refine (Fq.rentire_ _).mono ?_; rintro e w' ⟨rfl, rfl⟩) | (go_at_call_of 33 (Value.slice p l c); refine (hb1 _ ?q0).mono ?_; (case q0 => exact ((((Kp.refl w).alloc _).alloc _).alloc _).alloc _); rintro e wa ⟨rfl, ga⟩; have ka : Kp w wa := Kp.trans (((((Kp.refl w).alloc _).alloc _).alloc _).alloc _) ga; have x0 := kkeep ga (b := w.heap.size) (o := 0) (v := .bool false) (by simp [go_sem]); have xz0 : wa.frozen? ⟨w.heap.size, 0, none⟩ = false := (kfro ga (by simp <;> omega)).trans (by simp [go_sem]); have x1 := kkeep ga (b := w.heap.size) (o := 1) (v := .int .i64 0) (by simp [go_sem]); have xz1 : wa.frozen? ⟨w.heap.size, 1, none⟩ = false := (kfro ga (by simp <;> omega)).trans (by simp [go_sem]); have x2 := kkeep ga (b := w.heap.size) (o := 2) (v := .bool s) (by simp [go_sem]); have xz2 : wa.frozen? ⟨w.heap.size, 2, none⟩ = false := (kfro ga (by simp <;> omega)).trans (by simp [go_sem]); have x3 := kkeep ga (b := w.heap.size) (o := 3) (v := .slice p l c) (by simp [go_sem]); have xz3 : wa.frozen? ⟨w.heap.size, 3, none⟩ = false := (kfro ga (by simp <;> omega)).trans (by simp [go_sem]); have x4 := kkeep ga (b := w.heap.size) (o := 4) (v := .slice q k d) (by simp [go_sem]); have xz4 : wa.frozen? ⟨w.heap.size, 4, none⟩ = false := (kfro ga (by simp <;> omega)).trans (by simp [go_sem]); have x5 := kkeep ga (b := w.heap.size) (o := 5) (v := .int .i64 j) (by simp [go_sem]); have xz5 : wa.frozen? ⟨w.heap.size, 5, none⟩ = false := (kfro ga (by simp <;> omega)).trans (by simp [go_sem]); have x6 := kkeep ga (b := w.heap.size) (o := 6) (v := .bool s2) (by simp [go_sem]); have xz6 : wa.frozen? ⟨w.heap.size, 6, none⟩ = false := (kfro ga (by simp <;> omega)).trans (by simp [go_sem]); have x7 := kkeep ga (b := w.heap.size) (o := 7) (v := .slice p2 l2 c2) (by simp [go_sem]); have xz7 : wa.frozen? ⟨w.heap.size, 7, none⟩ = false := (kfro ga (by simp <;> omega)).trans (by simp [go_sem]); have x8 := kkeep ga (b := w.heap.size) (o := 8) (v := .slice q2 k2 d2) (by simp [go_sem]); have xz8 : wa.frozen? ⟨w.heap.size, 8, none⟩ = false := (kfro ga (by simp <;> omega)).trans (by simp [go_sem]); have v0 := kkeep ga (b := w.heap.size + 3) (o := 0) (v := .int .u64 18442240474082181120) (by simp [go_sem]); have vz0 : wa.frozen? ⟨w.heap.size + 3, 0, none⟩ = false := (kfro ga (by simp <;> omega)).trans (by simp [go_sem]); have v1 := kkeep ga (b := w.heap.size + 3) (o := 1) (v := .int .u64 9218868437227405312) (by simp [go_sem]); have vz1 : wa.frozen? ⟨w.heap.size + 3, 1, none⟩ = false := (kfro ga (by simp <;> omega)).trans (by simp [go_sem]); have r0 := kkeep ga (b := w.heap.size + 1) (o := 0) (v := .int .u64 0) (by simp [go_sem]); have rz0 : wa.frozen? ⟨w.heap.size + 1, 0, none⟩ = false := (kfro ga (by simp <;> omega)).trans (by simp [go_sem]); have r1 := kkeep ga (b := w.heap.size + 1) (o := 1) (v := .int .u64 0) (by simp [go_sem]); have rz1 : wa.frozen? ⟨w.heap.size + 1, 1, none⟩ = false := (kfro ga (by simp <;> omega)).trans (by simp [go_sem])))
  exact bodyPost_ret (v := .agg #[.int .u64 ZA, .int .u64 9218868437227405312]) (by simp [results, Tryz.results17, go_sem, r0, r1]) rfl ⟨rfl, (by repeat (with_reducible (first | assumption | exact Kp.refl _ | apply Kp.drew | apply Kp.alloc | apply Kp.drewN | (refine Kp.setCell ?_ (by first | omega | (simp <;> omega)) _) | (refine Kp.trans ?_ (by assumption)))))⟩
set_option maxRecDepth 20000 in
set_option maxHeartbeats 1000000 in
theorem leastNF_ (i : Int) (t1 : (i == 0) = false) (ZB : Int) (s : Bool) (p : Option Addr) (l c : Nat) (q : Option Addr) (k d : Nat) (s2 : Bool) (p2 : Option Addr) (l2 c2 : Nat) (q2 : Option Addr) (k2 d2 : Nat) (w : World) (hb2 : ∀ W : World, Kp w W → Calls Tryz.prog 33 #[.int .i64 1, .agg #[.bool s2, .slice p2 l2 c2, .slice q2 k2 d2]] W fun e w' => e = .returned (.int .u64 ZB) ∧ Kp W w') : Calls Tryz.prog 17 #[.agg #[.bool false, .int .i64 i, .bool s, .slice p l c, .slice q k d, .int .i64 0, .bool s2, .slice p2 l2 c2, .slice q2 k2 d2]] w fun e w' => e = .returned (.agg #[.int .u64 18442240474082181120, .int .u64 ZB]) ∧ Kp w w' := by
  go_enter Tryz.func17, Tryz.ntmps17
  go_wp2_with (first | (go_at_call 32; refine (Fq.rentire_ _).mono ?_; rintro e w' ⟨rfl, rfl⟩) | (go_at_call_of 33 (Value.slice p2 l2 c2); refine (hb2 _ ?q0).mono ?_; (case q0 => exact ((((Kp.refl w).alloc _).alloc _).alloc _).alloc _); rintro e wb ⟨rfl, gb⟩; have kb : Kp w wb := Kp.trans (((((Kp.refl w).alloc _).alloc _).alloc _).alloc _) gb; have u0 := kkeep gb (b := w.heap.size + 3) (o := 0) (v := .int .u64 18442240474082181120) (by simp [go_sem]); have uz0 : wb.frozen? ⟨w.heap.size + 3, 0, none⟩ = false := (kfro gb (by simp <;> omega)).trans (by simp [go_sem]); have u1 := kkeep gb (b := w.heap.size + 3) (o := 1) (v := .int .u64 9218868437227405312) (by simp [go_sem]); have uz1 : wb.frozen? ⟨w.heap.size + 3, 1, none⟩ = false := (kfro gb (by simp <;> omega)).trans (by simp [go_sem]); have y0 := kkeep gb (b := w.heap.size + 1) (o := 0) (v := .int .u64 0) (by simp [go_sem]); have yz0 : wb.frozen? ⟨w.heap.size + 1, 0, none⟩ = false := (kfro gb (by simp <;> omega)).trans (by simp [go_sem]); have y1 := kkeep gb (b := w.heap.size + 1) (o := 1) (v := .int .u64 0) (by simp [go_sem]); have yz1 : wb.frozen? ⟨w.heap.size + 1, 1, none⟩ = false := (kfro gb (by simp <;> omega)).trans (by simp [go_sem])))
  exact bodyPost_ret (v := .agg #[.int .u64 18442240474082181120, .int .u64 ZB]) (by simp [results, Tryz.results17, go_sem, y0, y1]) rfl ⟨rfl, (by repeat (with_reducible (first | assumption | exact Kp.refl _ | apply Kp.drew | apply Kp.alloc | apply Kp.drewN | (refine Kp.setCell ?_ (by first | omega | (simp <;> omega)) _) | (refine Kp.trans ?_ (by assumption)))))⟩
set_option maxRecDepth 20000 in
set_option maxHeartbeats 1000000 in
theorem leastFF_ (ZA : Int) (ZB : Int) (s : Bool) (p : Option Addr) (l c : Nat) (q : Option Addr) (k d : Nat) (s2 : Bool) (p2 : Option Addr) (l2 c2 : Nat) (q2 : Option Addr) (k2 d2 : Nat) (w : World) (hb1 : ∀ W : World, Kp w W → Calls Tryz.prog 33 #[.int .i64 (-1), .agg #[.bool s, .slice p l c, .slice q k d]] W fun e w' => e = .returned (.int .u64 ZA) ∧ Kp W w') (hb2 : ∀ W : World, Kp w W → Calls Tryz.prog 33 #[.int .i64 1, .agg #[.bool s2, .slice p2 l2 c2, .slice q2 k2 d2]] W fun e w' => e = .returned (.int .u64 ZB) ∧ Kp W w') : Calls Tryz.prog 17 #[.agg #[.bool false, .int .i64 0, .bool s, .slice p l c, .slice q k d, .int .i64 0, .bool s2, .slice p2 l2 c2, .slice q2 k2 d2]] w fun e w' => e = .returned (.agg #[.int .u64 ZA, .int .u64 ZB]) ∧ Kp w w' := by
  go_enter Tryz.func17, Tryz.ntmps17
  go_wp2_with (first | (go_at_call 32; refine (Fq.rentire_ _).mono ?_; rintro e w' ⟨rfl, rfl⟩) | (go_at_call_of 33 (Value.slice p l c); refine (hb1 _ ?q0).mono ?_; (case q0 => exact ((((Kp.refl w).alloc _).alloc _).alloc _).alloc _); rintro e wa ⟨rfl, ga⟩; have ka : Kp w wa := Kp.trans (((((Kp.refl w).alloc _).alloc _).alloc _).alloc _) ga; have x0 := kkeep ga (b := w.heap.size) (o := 0) (v := .bool false) (by simp [go_sem]); have xz0 : wa.frozen? ⟨w.heap.size, 0, none⟩ = false := (kfro ga (by simp <;> omega)).trans (by simp [go_sem]); have x1 := kkeep ga (b := w.heap.size) (o := 1) (v := .int .i64 0) (by simp [go_sem]); have xz1 : wa.frozen? ⟨w.heap.size, 1, none⟩ = false := (kfro ga (by simp <;> omega)).trans (by simp [go_sem]); have x2 := kkeep ga (b := w.heap.size) (o := 2) (v := .bool s) (by simp [go_sem]); have xz2 : wa.frozen? ⟨w.heap.size, 2, none⟩ = false := (kfro ga (by simp <;> omega)).trans (by simp [go_sem]); have x3 := kkeep ga (b := w.heap.size) (o := 3) (v := .slice p l c) (by simp [go_sem]); have xz3 : wa.frozen? ⟨w.heap.size, 3, none⟩ = false := (kfro ga (by simp <;> omega)).trans (by simp [go_sem]); have x4 := kkeep ga (b := w.heap.size) (o := 4) (v := .slice q k d) (by simp [go_sem]); have xz4 : wa.frozen? ⟨w.heap.size, 4, none⟩ = false := (kfro ga (by simp <;> omega)).trans (by simp [go_sem]); have x5 := kkeep ga (b := w.heap.size) (o := 5) (v := .int .i64 0) (by simp [go_sem]); have xz5 : wa.frozen? ⟨w.heap.size, 5, none⟩ = false := (kfro ga (by simp <;> omega)).trans (by simp [go_sem]); have x6 := kkeep ga (b := w.heap.size) (o := 6) (v := .bool s2) (by simp [go_sem]); have xz6 : wa.frozen? ⟨w.heap.size, 6, none⟩ = false := (kfro ga (by simp <;> omega)).trans (by simp [go_sem]); have x7 := kkeep ga (b := w.heap.size) (o := 7) (v := .slice p2 l2 c2) (by simp [go_sem]); have xz7 : wa.frozen? ⟨w.heap.size, 7, none⟩ = false := (kfro ga (by simp <;> omega)).trans (by simp [go_sem]); have x8 := kkeep ga (b := w.heap.size) (o := 8) (v := .slice q2 k2 d2) (by simp [go_sem]); have xz8 : wa.frozen? ⟨w.heap.size, 8, none⟩ = false := (kfro ga (by simp <;> omega)).trans (by simp [go_sem]); have v0 := kkeep ga (b := w.heap.size + 3) (o := 0) (v := .int .u64 18442240474082181120) (by simp [go_sem]); have vz0 : wa.frozen? ⟨w.heap.size + 3, 0, none⟩ = false := (kfro ga (by simp <;> omega)).trans (by simp [go_sem]); have v1 := kkeep ga (b := w.heap.size + 3) (o := 1) (v := .int .u64 9218868437227405312) (by simp [go_sem]); have vz1 : wa.frozen? ⟨w.heap.size + 3, 1, none⟩ = false := (kfro ga (by simp <;> omega)).trans (by simp [go_sem]); have r0 := kkeep ga (b := w.heap.size + 1) (o := 0) (v := .int .u64 0) (by simp [go_sem]); have rz0 : wa.frozen? ⟨w.heap.size + 1, 0, none⟩ = false := (kfro ga (by simp <;> omega)).trans (by simp [go_sem]); have r1 := kkeep ga (b := w.heap.size + 1) (o := 1) (v := .int .u64 0) (by simp [go_sem]); have rz1 : wa.frozen? ⟨w.heap.size + 1, 1, none⟩ = false := (kfro ga (by simp <;> omega)).trans (by simp [go_sem])) | (go_at_call_of 33 (Value.slice p2 l2 c2); refine (hb2 _ ?q0).mono ?_; (case q0 => exact ka.setCell (by simp <;> omega) _); rintro e wb ⟨rfl, gb⟩; have kb : Kp w wb := Kp.trans (ka.setCell (by simp <;> omega) _) gb; have u0 := kkeep gb (b := w.heap.size + 3) (o := 0) (v := .int .u64 ZA) (by simp [go_sem, v0]); have u1 := kkeep gb (b := w.heap.size + 3) (o := 1) (v := .int .u64 9218868437227405312) (by simp [go_sem, v1]); have uz0 : wb.frozen? ⟨w.heap.size + 3, 0, none⟩ = false := (kfro gb (by have := cell_lt v0; simpa using this)).trans (by simp [go_sem, vz0]); have uz1 : wb.frozen? ⟨w.heap.size + 3, 1, none⟩ = false := (kfro gb (by have := cell_lt v0; simpa using this)).trans (by simp [go_sem, vz1]); have y0 := kkeep gb (b := w.heap.size + 1) (o := 0) (v := .int .u64 0) (by simp [go_sem, r0]); have y1 := kkeep gb (b := w.heap.size + 1) (o := 1) (v := .int .u64 0) (by simp [go_sem, r1]); have yz0 : wb.frozen? ⟨w.heap.size + 1, 0, none⟩ = false := (kfro gb (by have := cell_lt r0; simpa using this)).trans (by simp [go_sem, rz0]); have yz1 : wb.frozen? ⟨w.heap.size + 1, 1, none⟩ = false := (kfro gb (by have := cell_lt r0; simpa using this)).trans (by simp [go_sem, rz1])))
  exact bodyPost_ret (v := .agg #[.int .u64 ZA, .int .u64 ZB]) (by simp [results, Tryz.results17, go_sem, y0, y1]) rfl ⟨rfl, (by repeat (with_reducible (first | assumption | exact Kp.refl _ | apply Kp.drew | apply Kp.alloc | apply Kp.drewN | (refine Kp.setCell ?_ (by first | omega | (simp <;> omega)) _) | (refine Kp.trans ?_ (by assumption)))))⟩
set_option maxRecDepth 20000 in
set_option maxHeartbeats 1000000 in
theorem none6_ (w : World) : Calls Tryz.prog 34 #[] w fun e w' => ∃ (s : Bool) (p : Option Addr) (l c : Nat) (q : Option Addr) (k d : Nat) (s2 : Bool) (p2 : Option Addr) (l2 c2 : Nat) (q2 : Option Addr) (k2 d2 : Nat), e = .returned (.agg #[.bool true, .int .i64 0, .bool s, .slice p l c, .slice q k d, .int .i64 0, .bool s2, .slice p2 l2 c2, .slice q2 k2 d2]) ∧ Kp w w' := by
  go_enter Tryz.func34, Tryz.ntmps34
  go_wp2_with (first | (go_at_call 37; refine (fin0_ _).mono ?_; rintro e wh ⟨s2, p2, l2, c2, q2, k2, d2, rfl, hp2, gh⟩; have kh := Kp.trans kl gh; have R0 := kkeep gh r0; have Rz0 : wh.frozen? ⟨w.heap.size, 0, none⟩ = false := (kfro gh (cell_lt r0)).trans rz0; have R1 := kkeep gh r1; have Rz1 : wh.frozen? ⟨w.heap.size, 1, none⟩ = false := (kfro gh (cell_lt r1)).trans rz1; have R2 := kkeep gh r2; have Rz2 : wh.frozen? ⟨w.heap.size, 2, none⟩ = false := (kfro gh (cell_lt r2)).trans rz2; have R3 := kkeep gh r3; have Rz3 : wh.frozen? ⟨w.heap.size, 3, none⟩ = false := (kfro gh (cell_lt r3)).trans rz3; have R4 := kkeep gh r4; have Rz4 : wh.frozen? ⟨w.heap.size, 4, none⟩ = false := (kfro gh (cell_lt r4)).trans rz4; have R5 := kkeep gh r5; have Rz5 : wh.frozen? ⟨w.heap.size, 5, none⟩ = false := (kfro gh (cell_lt r5)).trans rz5; have R6 := kkeep gh r6; have Rz6 : wh.frozen? ⟨w.heap.size, 6, none⟩ = false := (kfro gh (cell_lt r6)).trans rz6; have R7 := kkeep gh r7; have Rz7 : wh.frozen? ⟨w.heap.size, 7, none⟩ = false := (kfro gh (cell_lt r7)).trans rz7; have R8 := kkeep gh r8; have Rz8 : wh.frozen? ⟨w.heap.size, 8, none⟩ = false := (kfro gh (cell_lt r8)).trans rz8) | (go_at_call 37; refine (fin0_ _).mono ?_; rintro e wl ⟨s, p, l, c, q, k, d, rfl, hp, gl⟩; have kl : Kp w wl := Kp.trans ((Kp.refl w).alloc _) gl; have r0 := kkeep gl (b := w.heap.size) (o := 0) (v := .bool false) (by simp [go_sem]); have rz0 : wl.frozen? ⟨w.heap.size, 0, none⟩ = false := (kfro gl (by simp <;> omega)).trans (by simp [go_sem]); have r1 := kkeep gl (b := w.heap.size) (o := 1) (v := .int .i64 0) (by simp [go_sem]); have rz1 : wl.frozen? ⟨w.heap.size, 1, none⟩ = false := (kfro gl (by simp <;> omega)).trans (by simp [go_sem]); have r2 := kkeep gl (b := w.heap.size) (o := 2) (v := .bool false) (by simp [go_sem]); have rz2 : wl.frozen? ⟨w.heap.size, 2, none⟩ = false := (kfro gl (by simp <;> omega)).trans (by simp [go_sem]); have r3 := kkeep gl (b := w.heap.size) (o := 3) (v := .slice none 0 0) (by simp [go_sem]); have rz3 : wl.frozen? ⟨w.heap.size, 3, none⟩ = false := (kfro gl (by simp <;> omega)).trans (by simp [go_sem]); have r4 := kkeep gl (b := w.heap.size) (o := 4) (v := .slice none 0 0) (by simp [go_sem]); have rz4 : wl.frozen? ⟨w.heap.size, 4, none⟩ = false := (kfro gl (by simp <;> omega)).trans (by simp [go_sem]); have r5 := kkeep gl (b := w.heap.size) (o := 5) (v := .int .i64 0) (by simp [go_sem]); have rz5 : wl.frozen? ⟨w.heap.size, 5, none⟩ = false := (kfro gl (by simp <;> omega)).trans (by simp [go_sem]); have r6 := kkeep gl (b := w.heap.size) (o := 6) (v := .bool false) (by simp [go_sem]); have rz6 : wl.frozen? ⟨w.heap.size, 6, none⟩ = false := (kfro gl (by simp <;> omega)).trans (by simp [go_sem]); have r7 := kkeep gl (b := w.heap.size) (o := 7) (v := .slice none 0 0) (by simp [go_sem]); have rz7 : wl.frozen? ⟨w.heap.size, 7, none⟩ = false := (kfro gl (by simp <;> omega)).trans (by simp [go_sem]); have r8 := kkeep gl (b := w.heap.size) (o := 8) (v := .slice none 0 0) (by simp [go_sem]); have rz8 : wl.frozen? ⟨w.heap.size, 8, none⟩ = false := (kfro gl (by simp <;> omega)).trans (by simp [go_sem])))
  exact bodyPost_ret (v := .agg #[.bool true, .int .i64 0, .bool s, .slice p l c, .slice q k d, .int .i64 0, .bool s2, .slice p2 l2 c2, .slice q2 k2 d2]) (by simp [results, Tryz.results34, go_sem, R0, R1, R2, R3, R4, R5, R6, R7, R8]) rfl ⟨s, p, l, c, q, k, d, s2, p2, l2, c2, q2, k2, d2, rfl, (((((((((kh).setCell (Nat.le_refl _) _).setCell (Nat.le_refl _) _).setCell (Nat.le_refl _) _).setCell (Nat.le_refl _) _).setCell (Nat.le_refl _) _).setCell (Nat.le_refl _) _).setCell (Nat.le_refl _) _).setCell (Nat.le_refl _) _).setCell (Nat.le_refl _) _⟩
set_option maxRecDepth 20000 in
set_option maxHeartbeats 2000000 in
theorem plusE1_ (i j i2 j2 : Int) (N2 : Bool) (s : Bool) (p : Option Addr) (l c : Nat) (q : Option Addr) (k d : Nat) (s2 : Bool) (p2 : Option Addr) (l2 c2 : Nat) (q2 : Option Addr) (k2 d2 : Nat) (s3 : Bool) (p3 : Option Addr) (l3 c3 : Nat) (q3 : Option Addr) (k3 d3 : Nat) (s4 : Bool) (p4 : Option Addr) (l4 c4 : Nat) (q4 : Option Addr) (k4 d4 : Nat) (w : World) : Calls Tryz.prog 18 #[.agg #[.bool true, .int .i64 i, .bool s, .slice p l c, .slice q k d, .int .i64 j, .bool s2, .slice p2 l2 c2, .slice q2 k2 d2], .agg #[.bool N2, .int .i64 i2, .bool s3, .slice p3 l3 c3, .slice q3 k3 d3, .int .i64 j2, .bool s4, .slice p4 l4 c4, .slice q4 k4 d4]] w fun e w' => ∃ (s5 : Bool) (p5 : Option Addr) (l5 c5 : Nat) (q5 : Option Addr) (k5 d5 : Nat) (s6 : Bool) (p6 : Option Addr) (l6 c6 : Nat) (q6 : Option Addr) (k6 d6 : Nat), e = .returned (.agg #[.bool true, .int .i64 0, .bool s5, .slice p5 l5 c5, .slice q5 k5 d5, .int .i64 0, .bool s6, .slice p6 l6 c6, .slice q6 k6 d6]) ∧ Kp w w' := by
  go_enter Tryz.func18, Tryz.ntmps18
  go_wp2_with (first | (go_at_call 34; refine (none6_ _).mono ?_; rintro e w1 ⟨s5, p5, l5, c5, q5, k5, d5, s6, p6, l6, c6, q6, k6, d6, rfl, g1⟩; have r0 := kkeep g1 (b := w.heap.size + 2) (o := 0) (v := .bool false) (by simp [go_sem]); have rz0 : w1.frozen? ⟨w.heap.size + 2, 0, none⟩ = false := (kfro g1 (by simp <;> omega)).trans (by simp [go_sem]); have r1 := kkeep g1 (b := w.heap.size + 2) (o := 1) (v := .int .i64 0) (by simp [go_sem]); have rz1 : w1.frozen? ⟨w.heap.size + 2, 1, none⟩ = false := (kfro g1 (by simp <;> omega)).trans (by simp [go_sem]); have r2 := kkeep g1 (b := w.heap.size + 2) (o := 2) (v := .bool false) (by simp [go_sem]); have rz2 : w1.frozen? ⟨w.heap.size + 2, 2, none⟩ = false := (kfro g1 (by simp <;> omega)).trans (by simp [go_sem]); have r3 := kkeep g1 (b := w.heap.size + 2) (o := 3) (v := .slice none 0 0) (by simp [go_sem]); have rz3 : w1.frozen? ⟨w.heap.size + 2, 3, none⟩ = false := (kfro g1 (by simp <;> omega)).trans (by simp [go_sem]); have r4 := kkeep g1 (b := w.heap.size + 2) (o := 4) (v := .slice none 0 0) (by simp [go_sem]); have rz4 : w1.frozen? ⟨w.heap.size + 2, 4, none⟩ = false := (kfro g1 (by simp <;> omega)).trans (by simp [go_sem]); have r5 := kkeep g1 (b := w.heap.size + 2) (o := 5) (v := .int .i64 0) (by simp [go_sem]); have rz5 : w1.frozen? ⟨w.heap.size + 2, 5, none⟩ = false := (kfro g1 (by simp <;> omega)).trans (by simp [go_sem]); have r6 := kkeep g1 (b := w.heap.size + 2) (o := 6) (v := .bool false) (by simp [go_sem]); have rz6 : w1.frozen? ⟨w.heap.size + 2, 6, none⟩ = false := (kfro g1 (by simp <;> omega)).trans (by simp [go_sem]); have r7 := kkeep g1 (b := w.heap.size + 2) (o := 7) (v := .slice none 0 0) (by simp [go_sem]); have rz7 : w1.frozen? ⟨w.heap.size + 2, 7, none⟩ = false := (kfro g1 (by simp <;> omega)).trans (by simp [go_sem]); have r8 := kkeep g1 (b := w.heap.size + 2) (o := 8) (v := .slice none 0 0) (by simp [go_sem]); have rz8 : w1.frozen? ⟨w.heap.size + 2, 8, none⟩ = false := (kfro g1 (by simp <;> omega)).trans (by simp [go_sem])))
  exact bodyPost_ret (v := .agg #[.bool true, .int .i64 0, .bool s5, .slice p5 l5 c5, .slice q5 k5 d5, .int .i64 0, .bool s6, .slice p6 l6 c6, .slice q6 k6 d6]) (by simp [results, Tryz.results18, go_sem, r0, r1, r2, r3, r4, r5, r6, r7, r8]) rfl ⟨s5, p5, l5, c5, q5, k5, d5, s6, p6, l6, c6, q6, k6, d6, rfl, ((((((((((Kp.trans ((((Kp.refl w).alloc _).alloc _).alloc _) g1)).setCell (by simp <;> omega) _).setCell (by simp <;> omega) _).setCell (by simp <;> omega) _).setCell (by simp <;> omega) _).setCell (by simp <;> omega) _).setCell (by simp <;> omega) _).setCell (by simp <;> omega) _).setCell (by simp <;> omega) _).setCell (by simp <;> omega) _⟩
set_option maxRecDepth 20000 in
set_option maxHeartbeats 2000000 in
theorem plusE2_ (i j i2 j2 : Int) (s : Bool) (p : Option Addr) (l c : Nat) (q : Option Addr) (k d : Nat) (s2 : Bool) (p2 : Option Addr) (l2 c2 : Nat) (q2 : Option Addr) (k2 d2 : Nat) (s3 : Bool) (p3 : Option Addr) (l3 c3 : Nat) (q3 : Option Addr) (k3 d3 : Nat) (s4 : Bool) (p4 : Option Addr) (l4 c4 : Nat) (q4 : Option Addr) (k4 d4 : Nat) (w : World) : Calls Tryz.prog 18 #[.agg #[.bool false, .int .i64 i, .bool s, .slice p l c, .slice q k d, .int .i64 j, .bool s2, .slice p2 l2 c2, .slice q2 k2 d2], .agg #[.bool true, .int .i64 i2, .bool s3, .slice p3 l3 c3, .slice q3 k3 d3, .int .i64 j2, .bool s4, .slice p4 l4 c4, .slice q4 k4 d4]] w fun e w' => ∃ (s5 : Bool) (p5 : Option Addr) (l5 c5 : Nat) (q5 : Option Addr) (k5 d5 : Nat) (s6 : Bool) (p6 : Option Addr) (l6 c6 : Nat) (q6 : Option Addr) (k6 d6 : Nat), e = .returned (.agg #[.bool true, .int .i64 0, .bool s5, .slice p5 l5 c5, .slice q5 k5 d5, .int .i64 0, .bool s6, .slice p6 l6 c6, .slice q6 k6 d6]) ∧ Kp w w' := by
  go_enter Tryz.func18, Tryz.ntmps18
  go_wp2_with (first | (go_at_call 34; refine (none6_ _).mono ?_; rintro e w1 ⟨s5, p5, l5, c5, q5, k5, d5, s6, p6, l6, c6, q6, k6, d6, rfl, g1⟩; have r0 := kkeep g1 (b := w.heap.size + 2) (o := 0) (v := .bool false) (by simp [go_sem]); have rz0 : w1.frozen? ⟨w.heap.size + 2, 0, none⟩ = false := (kfro g1 (by simp <;> omega)).trans (by simp [go_sem]); have r1 := kkeep g1 (b := w.heap.size + 2) (o := 1) (v := .int .i64 0) (by simp [go_sem]); have rz1 : w1.frozen? ⟨w.heap.size + 2, 1, none⟩ = false := (kfro g1 (by simp <;> omega)).trans (by simp [go_sem]); have r2 := kkeep g1 (b := w.heap.size + 2) (o := 2) (v := .bool false) (by simp [go_sem]); have rz2 : w1.frozen? ⟨w.heap.size + 2, 2, none⟩ = false := (kfro g1 (by simp <;> omega)).trans (by simp [go_sem]); have r3 := kkeep g1 (b := w.heap.size + 2) (o := 3) (v := .slice none 0 0) (by simp [go_sem]); have rz3 : w1.frozen? ⟨w.heap.size + 2, 3, none⟩ = false := (kfro g1 (by simp <;> omega)).trans (by simp [go_sem]); have r4 := kkeep g1 (b := w.heap.size + 2) (o := 4) (v := .slice none 0 0) (by simp [go_sem]); have rz4 : w1.frozen? ⟨w.heap.size + 2, 4, none⟩ = false := (kfro g1 (by simp <;> omega)).trans (by simp [go_sem]); have r5 := kkeep g1 (b := w.heap.size + 2) (o := 5) (v := .int .i64 0) (by simp [go_sem]); have rz5 : w1.frozen? ⟨w.heap.size + 2, 5, none⟩ = false := (kfro g1 (by simp <;> omega)).trans (by simp [go_sem]); have r6 := kkeep g1 (b := w.heap.size + 2) (o := 6) (v := .bool false) (by simp [go_sem]); have rz6 : w1.frozen? ⟨w.heap.size + 2, 6, none⟩ = false := (kfro g1 (by simp <;> omega)).trans (by simp [go_sem]); have r7 := kkeep g1 (b := w.heap.size + 2) (o := 7) (v := .slice none 0 0) (by simp [go_sem]); have rz7 : w1.frozen? ⟨w.heap.size + 2, 7, none⟩ = false := (kfro g1 (by simp <;> omega)).trans (by simp [go_sem]); have r8 := kkeep g1 (b := w.heap.size + 2) (o := 8) (v := .slice none 0 0) (by simp [go_sem]); have rz8 : w1.frozen? ⟨w.heap.size + 2, 8, none⟩ = false := (kfro g1 (by simp <;> omega)).trans (by simp [go_sem])))
  exact bodyPost_ret (v := .agg #[.bool true, .int .i64 0, .bool s5, .slice p5 l5 c5, .slice q5 k5 d5, .int .i64 0, .bool s6, .slice p6 l6 c6, .slice q6 k6 d6]) (by simp [results, Tryz.results18, go_sem, r0, r1, r2, r3, r4, r5, r6, r7, r8]) rfl ⟨s5, p5, l5, c5, q5, k5, d5, s6, p6, l6, c6, q6, k6, d6, rfl, ((((((((((Kp.trans ((((Kp.refl w).alloc _).alloc _).alloc _) g1)).setCell (by simp <;> omega) _).setCell (by simp <;> omega) _).setCell (by simp <;> omega) _).setCell (by simp <;> omega) _).setCell (by simp <;> omega) _).setCell (by simp <;> omega) _).setCell (by simp <;> omega) _).setCell (by simp <;> omega) _).setCell (by simp <;> omega) _⟩
set_option maxRecDepth 20000 in
set_option maxHeartbeats 4000000 in
theorem plusN_ (i j i2 j2 : Int) (ZA ZB : Int → Nat) (s : Bool) (p : Option Addr) (l c : Nat) (q : Option Addr) (k d : Nat) (s2 : Bool) (p2 : Option Addr) (l2 c2 : Nat) (q2 : Option Addr) (k2 d2 : Nat) (s3 : Bool) (p3 : Option Addr) (l3 c3 : Nat) (q3 : Option Addr) (k3 d3 : Nat) (s4 : Bool) (p4 : Option Addr) (l4 c4 : Nat) (q4 : Option Addr) (k4 d4 : Nat) (w : World) (hs1 : ∀ W : World, Kp w W → Calls Tryz.prog 35 #[.agg #[.int .i64 i, .bool s, .slice p l c, .slice q k d], .agg #[.int .i64 i2, .bool s3, .slice p3 l3 c3, .slice q3 k3 d3]] W fun e w' => ∃ (s5 : Bool) (p5 : Option Addr) (l5 c5 : Nat) (q5 : Option Addr) (k5 d5 : Nat), e = .returned (.agg #[.int .i64 (sI i i2), .bool s5, .slice p5 l5 c5, .slice q5 k5 d5]) ∧ (i = 0 → i2 = 0 → QP W.heap.size w' s5 p5 l5 c5 q5 k5 d5 ZA) ∧ Kp W w') (hs2 : ∀ W : World, Kp w W → Calls Tryz.prog 35 #[.agg #[.int .i64 j, .bool s2, .slice p2 l2 c2, .slice q2 k2 d2], .agg #[.int .i64 j2, .bool s4, .slice p4 l4 c4, .slice q4 k4 d4]] W fun e w' => ∃ (s5 : Bool) (p5 : Option Addr) (l5 c5 : Nat) (q5 : Option Addr) (k5 d5 : Nat), e = .returned (.agg #[.int .i64 (sI j j2), .bool s5, .slice p5 l5 c5, .slice q5 k5 d5]) ∧ (j = 0 → j2 = 0 → QP W.heap.size w' s5 p5 l5 c5 q5 k5 d5 ZB) ∧ Kp W w') : Calls Tryz.prog 18 #[.agg #[.bool false, .int .i64 i, .bool s, .slice p l c, .slice q k d, .int .i64 j, .bool s2, .slice p2 l2 c2, .slice q2 k2 d2], .agg #[.bool false, .int .i64 i2, .bool s3, .slice p3 l3 c3, .slice q3 k3 d3, .int .i64 j2, .bool s4, .slice p4 l4 c4, .slice q4 k4 d4]] w fun e w' => ∃ (s5 : Bool) (p5 : Option Addr) (l5 c5 : Nat) (q5 : Option Addr) (k5 d5 : Nat) (s6 : Bool) (p6 : Option Addr) (l6 c6 : Nat) (q6 : Option Addr) (k6 d6 : Nat), e = .returned (.agg #[.bool false, .int .i64 (sI i i2), .bool s5, .slice p5 l5 c5, .slice q5 k5 d5, .int .i64 (sI j j2), .bool s6, .slice p6 l6 c6, .slice q6 k6 d6]) ∧ (i = 0 → i2 = 0 → QP w.heap.size w' s5 p5 l5 c5 q5 k5 d5 ZA) ∧ (j = 0 → j2 = 0 → QP w.heap.size w' s6 p6 l6 c6 q6 k6 d6 ZB) ∧ Kp w w' := by
  go_enter Tryz.func18, Tryz.ntmps18
  go_wp2
  generalize hW : (((w.alloc (.cells #[.bool false, .int .i64 i, .bool s, .slice p l c, .slice q k d, .int .i64 j, .bool s2, .slice p2 l2 c2, .slice q2 k2 d2] 46)).alloc (.cells #[.bool false, .int .i64 i2, .bool s3, .slice p3 l3 c3, .slice q3 k3 d3, .int .i64 j2, .bool s4, .slice p4 l4 c4, .slice q4 k4 d4] 46)).alloc (.cells #[.bool false, .int .i64 0, .bool false, .slice none 0 0, .slice none 0 0, .int .i64 0, .bool false, .slice none 0 0, .slice none 0 0] 46)) = W
  have kw : Kp w W := by rw [← hW]; exact (((Kp.refl w).alloc _).alloc _).alloc _
  have xw0 : W.cell? ⟨w.heap.size, 1, none⟩ = some (.int .i64 i) := by rw [← hW]; simp [go_sem]
  have dw0 : W.drew.cell? ⟨w.heap.size, 1, none⟩ = some (.int .i64 i) := xw0
  have xw1 : W.cell? ⟨w.heap.size, 2, none⟩ = some (.bool s) := by rw [← hW]; simp [go_sem]
  have dw1 : W.drew.cell? ⟨w.heap.size, 2, none⟩ = some (.bool s) := xw1
  have xw2 : W.cell? ⟨w.heap.size, 3, none⟩ = some (.slice p l c) := by rw [← hW]; simp [go_sem]
  have dw2 : W.drew.cell? ⟨w.heap.size, 3, none⟩ = some (.slice p l c) := xw2
  have xw3 : W.cell? ⟨w.heap.size, 4, none⟩ = some (.slice q k d) := by rw [← hW]; simp [go_sem]
  have dw3 : W.drew.cell? ⟨w.heap.size, 4, none⟩ = some (.slice q k d) := xw3
  have xw4 : W.cell? ⟨w.heap.size, 5, none⟩ = some (.int .i64 j) := by rw [← hW]; simp [go_sem]
  have dw4 : W.drew.cell? ⟨w.heap.size, 5, none⟩ = some (.int .i64 j) := xw4
  have xw5 : W.cell? ⟨w.heap.size, 6, none⟩ = some (.bool s2) := by rw [← hW]; simp [go_sem]
  have dw5 : W.drew.cell? ⟨w.heap.size, 6, none⟩ = some (.bool s2) := xw5
  have xw6 : W.cell? ⟨w.heap.size, 7, none⟩ = some (.slice p2 l2 c2) := by rw [← hW]; simp [go_sem]
  have dw6 : W.drew.cell? ⟨w.heap.size, 7, none⟩ = some (.slice p2 l2 c2) := xw6
  have xw7 : W.cell? ⟨w.heap.size, 8, none⟩ = some (.slice q2 k2 d2) := by rw [← hW]; simp [go_sem]
  have dw7 : W.drew.cell? ⟨w.heap.size, 8, none⟩ = some (.slice q2 k2 d2) := xw7
  have xw8 : W.cell? ⟨w.heap.size + 1, 1, none⟩ = some (.int .i64 i2) := by rw [← hW]; simp [go_sem]
  have dw8 : W.drew.cell? ⟨w.heap.size + 1, 1, none⟩ = some (.int .i64 i2) := xw8
  have xw9 : W.cell? ⟨w.heap.size + 1, 2, none⟩ = some (.bool s3) := by rw [← hW]; simp [go_sem]
  have dw9 : W.drew.cell? ⟨w.heap.size + 1, 2, none⟩ = some (.bool s3) := xw9
  have xw10 : W.cell? ⟨w.heap.size + 1, 3, none⟩ = some (.slice p3 l3 c3) := by rw [← hW]; simp [go_sem]
  have dw10 : W.drew.cell? ⟨w.heap.size + 1, 3, none⟩ = some (.slice p3 l3 c3) := xw10
  have xw11 : W.cell? ⟨w.heap.size + 1, 4, none⟩ = some (.slice q3 k3 d3) := by rw [← hW]; simp [go_sem]
  have dw11 : W.drew.cell? ⟨w.heap.size + 1, 4, none⟩ = some (.slice q3 k3 d3) := xw11
  have xw12 : W.cell? ⟨w.heap.size + 1, 5, none⟩ = some (.int .i64 j2) := by rw [← hW]; simp [go_sem]
  have dw12 : W.drew.cell? ⟨w.heap.size + 1, 5, none⟩ = some (.int .i64 j2) := xw12
  have xw13 : W.cell? ⟨w.heap.size + 1, 6, none⟩ = some (.bool s4) := by rw [← hW]; simp [go_sem]
  have dw13 : W.drew.cell? ⟨w.heap.size + 1, 6, none⟩ = some (.bool s4) := xw13
  have xw14 : W.cell? ⟨w.heap.size + 1, 7, none⟩ = some (.slice p4 l4 c4) := by rw [← hW]; simp [go_sem]
  have dw14 : W.drew.cell? ⟨w.heap.size + 1, 7, none⟩ = some (.slice p4 l4 c4) := xw14
  have xw15 : W.cell? ⟨w.heap.size + 1, 8, none⟩ = some (.slice q4 k4 d4) := by rw [← hW]; simp [go_sem]
  have dw15 : W.drew.cell? ⟨w.heap.size + 1, 8, none⟩ = some (.slice q4 k4 d4) := xw15
  have r0 : W.cell? ⟨w.heap.size + 2, 0, none⟩ = some (.bool false) := by rw [← hW]; simp [go_sem]
  have rz0 : W.frozen? ⟨w.heap.size + 2, 0, none⟩ = false := by rw [← hW]; simp [go_sem]
  have r1 : W.cell? ⟨w.heap.size + 2, 1, none⟩ = some (.int .i64 0) := by rw [← hW]; simp [go_sem]
  have rz1 : W.frozen? ⟨w.heap.size + 2, 1, none⟩ = false := by rw [← hW]; simp [go_sem]
  have r2 : W.cell? ⟨w.heap.size + 2, 2, none⟩ = some (.bool false) := by rw [← hW]; simp [go_sem]
  have rz2 : W.frozen? ⟨w.heap.size + 2, 2, none⟩ = false := by rw [← hW]; simp [go_sem]
  have r3 : W.cell? ⟨w.heap.size + 2, 3, none⟩ = some (.slice none 0 0) := by rw [← hW]; simp [go_sem]
  have rz3 : W.frozen? ⟨w.heap.size + 2, 3, none⟩ = false := by rw [← hW]; simp [go_sem]
  have r4 : W.cell? ⟨w.heap.size + 2, 4, none⟩ = some (.slice none 0 0) := by rw [← hW]; simp [go_sem]
  have rz4 : W.frozen? ⟨w.heap.size + 2, 4, none⟩ = false := by rw [← hW]; simp [go_sem]
  have r5 : W.cell? ⟨w.heap.size + 2, 5, none⟩ = some (.int .i64 0) := by rw [← hW]; simp [go_sem]
  have rz5 : W.frozen? ⟨w.heap.size + 2, 5, none⟩ = false := by rw [← hW]; simp [go_sem]
  have r6 : W.cell? ⟨w.heap.size + 2, 6, none⟩ = some (.bool false) := by rw [← hW]; simp [go_sem]
  have rz6 : W.frozen? ⟨w.heap.size + 2, 6, none⟩ = false := by rw [← hW]; simp [go_sem]
  have r7 : W.cell? ⟨w.heap.size + 2, 7, none⟩ = some (.slice none 0 0) := by rw [← hW]; simp [go_sem]
  have rz7 : W.frozen? ⟨w.heap.size + 2, 7, none⟩ = false := by rw [← hW]; simp [go_sem]
  have r8 : W.cell? ⟨w.heap.size + 2, 8, none⟩ = some (.slice none 0 0) := by rw [← hW]; simp [go_sem]
  have rz8 : W.frozen? ⟨w.heap.size + 2, 8, none⟩ = false := by rw [← hW]; simp [go_sem]
  have hBW : w.heap.size + 2 < W.heap.size := cell_lt r0
  have hn1 : w.heap.size + 2 ≠ w.heap.size := by omega
  have hn2 : w.heap.size + 2 ≠ w.heap.size + 1 := by omega
  clear hW
  go_region_held3 (fun w' => w'.cell? ⟨w.heap.size, 1, none⟩ = some (.int .i64 i) ∧ w'.cell? ⟨w.heap.size, 2, none⟩ = some (.bool s) ∧ w'.cell? ⟨w.heap.size, 3, none⟩ = some (.slice p l c) ∧ w'.cell? ⟨w.heap.size, 4, none⟩ = some (.slice q k d) ∧ w'.cell? ⟨w.heap.size, 5, none⟩ = some (.int .i64 j) ∧ w'.cell? ⟨w.heap.size, 6, none⟩ = some (.bool s2) ∧ w'.cell? ⟨w.heap.size, 7, none⟩ = some (.slice p2 l2 c2) ∧ w'.cell? ⟨w.heap.size, 8, none⟩ = some (.slice q2 k2 d2) ∧ w'.cell? ⟨w.heap.size + 1, 1, none⟩ = some (.int .i64 i2) ∧ w'.cell? ⟨w.heap.size + 1, 2, none⟩ = some (.bool s3) ∧ w'.cell? ⟨w.heap.size + 1, 3, none⟩ = some (.slice p3 l3 c3) ∧ w'.cell? ⟨w.heap.size + 1, 4, none⟩ = some (.slice q3 k3 d3) ∧ w'.cell? ⟨w.heap.size + 1, 5, none⟩ = some (.int .i64 j2) ∧ w'.cell? ⟨w.heap.size + 1, 6, none⟩ = some (.bool s4) ∧ w'.cell? ⟨w.heap.size + 1, 7, none⟩ = some (.slice p4 l4 c4) ∧ w'.cell? ⟨w.heap.size + 1, 8, none⟩ = some (.slice q4 k4 d4)) (first | (with_reducible exact ⟨xw0, xw1, xw2, xw3, xw4, xw5, xw6, xw7, xw8, xw9, xw10, xw11, xw12, xw13, xw14, xw15⟩) | (with_reducible exact ⟨dw0, dw1, dw2, dw3, dw4, dw5, dw6, dw7, dw8, dw9, dw10, dw11, dw12, dw13, dw14, dw15⟩) | (with_reducible exact ⟨aw0, aw1, aw2, aw3, aw4, aw5, aw6, aw7, aw8, aw9, aw10, aw11, aw12, aw13, aw14, aw15⟩) | (with_reducible exact ⟨bw0, bw1, bw2, bw3, bw4, bw5, bw6, bw7, bw8, bw9, bw10, bw11, bw12, bw13, bw14, bw15⟩) | (exact ⟨((World.cell?_setCell_far _ _ _ _ hn1).trans ((World.cell?_setCell_far _ _ _ _ hn1).trans ((World.cell?_setCell_far _ _ _ _ hn1).trans ((World.cell?_setCell_far _ _ _ _ hn1).trans ((World.cell?_setCell_far _ _ _ _ hn1).trans ((World.cell?_setCell_far _ _ _ _ hn1).trans ((World.cell?_setCell_far _ _ _ _ hn1).trans ((World.cell?_setCell_far _ _ _ _ hn1).trans ((World.cell?_setCell_far _ _ _ _ hn1).trans bw0))))))))), ((World.cell?_setCell_far _ _ _ _ hn1).trans ((World.cell?_setCell_far _ _ _ _ hn1).trans ((World.cell?_setCell_far _ _ _ _ hn1).trans ((World.cell?_setCell_far _ _ _ _ hn1).trans ((World.cell?_setCell_far _ _ _ _ hn1).trans ((World.cell?_setCell_far _ _ _ _ hn1).trans ((World.cell?_setCell_far _ _ _ _ hn1).trans ((World.cell?_setCell_far _ _ _ _ hn1).trans ((World.cell?_setCell_far _ _ _ _ hn1).trans bw1))))))))), ((World.cell?_setCell_far _ _ _ _ hn1).trans ((World.cell?_setCell_far _ _ _ _ hn1).trans ((World.cell?_setCell_far _ _ _ _ hn1).trans ((World.cell?_setCell_far _ _ _ _ hn1).trans ((World.cell?_setCell_far _ _ _ _ hn1).trans ((World.cell?_setCell_far _ _ _ _ hn1).trans ((World.cell?_setCell_far _ _ _ _ hn1).trans ((World.cell?_setCell_far _ _ _ _ hn1).trans ((World.cell?_setCell_far _ _ _ _ hn1).trans bw2))))))))), ((World.cell?_setCell_far _ _ _ _ hn1).trans ((World.cell?_setCell_far _ _ _ _ hn1).trans ((World.cell?_setCell_far _ _ _ _ hn1).trans ((World.cell?_setCell_far _ _ _ _ hn1).trans ((World.cell?_setCell_far _ _ _ _ hn1).trans ((World.cell?_setCell_far _ _ _ _ hn1).trans ((World.cell?_setCell_far _ _ _ _ hn1).trans ((World.cell?_setCell_far _ _ _ _ hn1).trans ((World.cell?_setCell_far _ _ _ _ hn1).trans bw3))))))))), ((World.cell?_setCell_far _ _ _ _ hn1).trans ((World.cell?_setCell_far _ _ _ _ hn1).trans ((World.cell?_setCell_far _ _ _ _ hn1).trans ((World.cell?_setCell_far _ _ _ _ hn1).trans ((World.cell?_setCell_far _ _ _ _ hn1).trans ((World.cell?_setCell_far _ _ _ _ hn1).trans ((World.cell?_setCell_far _ _ _ _ hn1).trans ((World.cell?_setCell_far _ _ _ _ hn1).trans ((World.cell?_setCell_far _ _ _ _ hn1).trans bw4))))))))), ((World.cell?_setCell_far _ _ _ _ hn1).trans ((World.cell?_setCell_far _ _ _ _ hn1).trans ((World.cell?_setCell_far _ _ _ _ hn1).trans ((World.cell?_setCell_far _ _ _ _ hn1).trans ((World.cell?_setCell_far _ _ _ _ hn1).trans ((World.cell?_setCell_far _ _ _ _ hn1).trans ((World.cell?_setCell_far _ _ _ _ hn1).trans ((World.cell?_setCell_far _ _ _ _ hn1).trans ((World.cell?_setCell_far _ _ _ _ hn1).trans bw5))))))))), ((World.cell?_setCell_far _ _ _ _ hn1).trans ((World.cell?_setCell_far _ _ _ _ hn1).trans ((World.cell?_setCell_far _ _ _ _ hn1).trans ((World.cell?_setCell_far _ _ _ _ hn1).trans ((World.cell?_setCell_far _ _ _ _ hn1).trans ((World.cell?_setCell_far _ _ _ _ hn1).trans ((World.cell?_setCell_far _ _ _ _ hn1).trans ((World.cell?_setCell_far _ _ _ _ hn1).trans ((World.cell?_setCell_far _ _ _ _ hn1).trans bw6))))))))), ((World.cell?_setCell_far _ _ _ _ hn1).trans ((World.cell?_setCell_far _ _ _ _ hn1).trans ((World.cell?_setCell_far _ _ _ _ hn1).trans ((World.cell?_setCell_far _ _ _ _ hn1).trans ((World.cell?_setCell_far _ _ _ _ hn1).trans ((World.cell?_setCell_far _ _ _ _ hn1).trans ((World.cell?_setCell_far _ _ _ _ hn1).trans ((World.cell?_setCell_far _ _ _ _ hn1).trans ((World.cell?_setCell_far _ _ _ _ hn1).trans bw7))))))))), ((World.cell?_setCell_far _ _ _ _ hn2).trans ((World.cell?_setCell_far _ _ _ _ hn2).trans ((World.cell?_setCell_far _ _ _ _ hn2).trans ((World.cell?_setCell_far _ _ _ _ hn2).trans ((World.cell?_setCell_far _ _ _ _ hn2).trans ((World.cell?_setCell_far _ _ _ _ hn2).trans ((World.cell?_setCell_far _ _ _ _ hn2).trans ((World.cell?_setCell_far _ _ _ _ hn2).trans ((World.cell?_setCell_far _ _ _ _ hn2).trans bw8))))))))), ((World.cell?_setCell_far _ _ _ _ hn2).trans ((World.cell?_setCell_far _ _ _ _ hn2).trans ((World.cell?_setCell_far _ _ _ _ hn2).trans ((World.cell?_setCell_far _ _ _ _ hn2).trans ((World.cell?_setCell_far _ _ _ _ hn2).trans ((World.cell?_setCell_far _ _ _ _ hn2).trans ((World.cell?_setCell_far _ _ _ _ hn2).trans ((World.cell?_setCell_far _ _ _ _ hn2).trans ((World.cell?_setCell_far _ _ _ _ hn2).trans bw9))))))))), ((World.cell?_setCell_far _ _ _ _ hn2).trans ((World.cell?_setCell_far _ _ _ _ hn2).trans ((World.cell?_setCell_far _ _ _ _ hn2).trans ((World.cell?_setCell_far _ _ _ _ hn2).trans ((World.cell?_setCell_far _ _ _ _ hn2).trans ((World.cell?_setCell_far _ _ _ _ hn2).trans ((World.cell?_setCell_far _ _ _ _ hn2).trans ((World.cell?_setCell_far _ _ _ _ hn2).trans ((World.cell?_setCell_far _ _ _ _ hn2).trans bw10))))))))), ((World.cell?_setCell_far _ _ _ _ hn2).trans ((World.cell?_setCell_far _ _ _ _ hn2).trans ((World.cell?_setCell_far _ _ _ _ hn2).trans ((World.cell?_setCell_far _ _ _ _ hn2).trans ((World.cell?_setCell_far _ _ _ _ hn2).trans ((World.cell?_setCell_far _ _ _ _ hn2).trans ((World.cell?_setCell_far _ _ _ _ hn2).trans ((World.cell?_setCell_far _ _ _ _ hn2).trans ((World.cell?_setCell_far _ _ _ _ hn2).trans bw11))))))))), ((World.cell?_setCell_far _ _ _ _ hn2).trans ((World.cell?_setCell_far _ _ _ _ hn2).trans ((World.cell?_setCell_far _ _ _ _ hn2).trans ((World.cell?_setCell_far _ _ _ _ hn2).trans ((World.cell?_setCell_far _ _ _ _ hn2).trans ((World.cell?_setCell_far _ _ _ _ hn2).trans ((World.cell?_setCell_far _ _ _ _ hn2).trans ((World.cell?_setCell_far _ _ _ _ hn2).trans ((World.cell?_setCell_far _ _ _ _ hn2).trans bw12))))))))), ((World.cell?_setCell_far _ _ _ _ hn2).trans ((World.cell?_setCell_far _ _ _ _ hn2).trans ((World.cell?_setCell_far _ _ _ _ hn2).trans ((World.cell?_setCell_far _ _ _ _ hn2).trans ((World.cell?_setCell_far _ _ _ _ hn2).trans ((World.cell?_setCell_far _ _ _ _ hn2).trans ((World.cell?_setCell_far _ _ _ _ hn2).trans ((World.cell?_setCell_far _ _ _ _ hn2).trans ((World.cell?_setCell_far _ _ _ _ hn2).trans bw13))))))))), ((World.cell?_setCell_far _ _ _ _ hn2).trans ((World.cell?_setCell_far _ _ _ _ hn2).trans ((World.cell?_setCell_far _ _ _ _ hn2).trans ((World.cell?_setCell_far _ _ _ _ hn2).trans ((World.cell?_setCell_far _ _ _ _ hn2).trans ((World.cell?_setCell_far _ _ _ _ hn2).trans ((World.cell?_setCell_far _ _ _ _ hn2).trans ((World.cell?_setCell_far _ _ _ _ hn2).trans ((World.cell?_setCell_far _ _ _ _ hn2).trans bw14))))))))), ((World.cell?_setCell_far _ _ _ _ hn2).trans ((World.cell?_setCell_far _ _ _ _ hn2).trans ((World.cell?_setCell_far _ _ _ _ hn2).trans ((World.cell?_setCell_far _ _ _ _ hn2).trans ((World.cell?_setCell_far _ _ _ _ hn2).trans ((World.cell?_setCell_far _ _ _ _ hn2).trans ((World.cell?_setCell_far _ _ _ _ hn2).trans ((World.cell?_setCell_far _ _ _ _ hn2).trans ((World.cell?_setCell_far _ _ _ _ hn2).trans bw15)))))))))⟩)) (first | (go_at_call_of 35 (Value.slice p l c); refine (hs1 _ ?q0).mono ?_; (case q0 => exact kw.drew); rintro e wl ⟨s5, p5, l5, c5, q5, k5, d5, rfl, hp, gl⟩; have kl : Kp W wl := Kp.trans (Kp.drew (Kp.refl _)) gl; have aw0 := kkeep kl xw0; have aw1 := kkeep kl xw1; have aw2 := kkeep kl xw2; have aw3 := kkeep kl xw3; have aw4 := kkeep kl xw4; have aw5 := kkeep kl xw5; have aw6 := kkeep kl xw6; have aw7 := kkeep kl xw7; have aw8 := kkeep kl xw8; have aw9 := kkeep kl xw9; have aw10 := kkeep kl xw10; have aw11 := kkeep kl xw11; have aw12 := kkeep kl xw12; have aw13 := kkeep kl xw13; have aw14 := kkeep kl xw14; have aw15 := kkeep kl xw15) | (go_at_call_of 35 (Value.slice p2 l2 c2); refine (hs2 _ ?q0).mono ?_; (case q0 => exact kw.trans kl); rintro e wh ⟨s6, p6, l6, c6, q6, k6, d6, rfl, hp2, gh⟩; have kh : Kp W wh := Kp.trans kl gh; have bw0 := kkeep kh xw0; have bw1 := kkeep kh xw1; have bw2 := kkeep kh xw2; have bw3 := kkeep kh xw3; have bw4 := kkeep kh xw4; have bw5 := kkeep kh xw5; have bw6 := kkeep kh xw6; have bw7 := kkeep kh xw7; have bw8 := kkeep kh xw8; have bw9 := kkeep kh xw9; have bw10 := kkeep kh xw10; have bw11 := kkeep kh xw11; have bw12 := kkeep kh xw12; have bw13 := kkeep kh xw13; have bw14 := kkeep kh xw14; have bw15 := kkeep kh xw15; have R0 := kkeep kh r0; have Rz0 : wh.frozen? ⟨w.heap.size + 2, 0, none⟩ = false := (kfro kh (cell_lt r0)).trans rz0; have R1 := kkeep kh r1; have Rz1 : wh.frozen? ⟨w.heap.size + 2, 1, none⟩ = false := (kfro kh (cell_lt r1)).trans rz1; have R2 := kkeep kh r2; have Rz2 : wh.frozen? ⟨w.heap.size + 2, 2, none⟩ = false := (kfro kh (cell_lt r2)).trans rz2; have R3 := kkeep kh r3; have Rz3 : wh.frozen? ⟨w.heap.size + 2, 3, none⟩ = false := (kfro kh (cell_lt r3)).trans rz3; have R4 := kkeep kh r4; have Rz4 : wh.frozen? ⟨w.heap.size + 2, 4, none⟩ = false := (kfro kh (cell_lt r4)).trans rz4; have R5 := kkeep kh r5; have Rz5 : wh.frozen? ⟨w.heap.size + 2, 5, none⟩ = false := (kfro kh (cell_lt r5)).trans rz5; have R6 := kkeep kh r6; have Rz6 : wh.frozen? ⟨w.heap.size + 2, 6, none⟩ = false := (kfro kh (cell_lt r6)).trans rz6; have R7 := kkeep kh r7; have Rz7 : wh.frozen? ⟨w.heap.size + 2, 7, none⟩ = false := (kfro kh (cell_lt r7)).trans rz7; have R8 := kkeep kh r8; have Rz8 : wh.frozen? ⟨w.heap.size + 2, 8, none⟩ = false := (kfro kh (cell_lt r8)).trans rz8))
  go_wp2
  have hle : w.heap.size ≤ W.heap.size := by omega
  exact bodyPost_ret (v := .agg #[.bool false, .int .i64 (sI i i2), .bool s5, .slice p5 l5 c5, .slice q5 k5 d5, .int .i64 (sI j j2), .bool s6, .slice p6 l6 c6, .slice q6 k6 d6]) (by simp [results, Tryz.results18, go_sem, R0, R1, R2, R3, R4, R5, R6, R7, R8]) rfl ⟨s5, p5, l5, c5, q5, k5, d5, s6, p6, l6, c6, q6, k6, d6, rfl, fun h1 h2 => QP.mono (((((((((((((hp h1 h2).mono (base' := W.heap.size) (Nat.le_refl _)).kp gh)).set (x := ⟨w.heap.size + 2, 0, none⟩) hBW (.bool false)).set (x := ⟨w.heap.size + 2, 1, none⟩) hBW (.int .i64 (sI i i2))).set (x := ⟨w.heap.size + 2, 2, none⟩) hBW (.bool s5)).set (x := ⟨w.heap.size + 2, 3, none⟩) hBW (.slice p5 l5 c5)).set (x := ⟨w.heap.size + 2, 4, none⟩) hBW (.slice q5 k5 d5)).set (x := ⟨w.heap.size + 2, 5, none⟩) hBW (.int .i64 (sI j j2))).set (x := ⟨w.heap.size + 2, 6, none⟩) hBW (.bool s6)).set (x := ⟨w.heap.size + 2, 7, none⟩) hBW (.slice p6 l6 c6)).set (x := ⟨w.heap.size + 2, 8, none⟩) hBW (.slice q6 k6 d6)) hle, fun h1 h2 => QP.mono ((((((((((((hp2 h1 h2).mono (base' := W.heap.size) (Below.size kl))).set (x := ⟨w.heap.size + 2, 0, none⟩) hBW (.bool false)).set (x := ⟨w.heap.size + 2, 1, none⟩) hBW (.int .i64 (sI i i2))).set (x := ⟨w.heap.size + 2, 2, none⟩) hBW (.bool s5)).set (x := ⟨w.heap.size + 2, 3, none⟩) hBW (.slice p5 l5 c5)).set (x := ⟨w.heap.size + 2, 4, none⟩) hBW (.slice q5 k5 d5)).set (x := ⟨w.heap.size + 2, 5, none⟩) hBW (.int .i64 (sI j j2))).set (x := ⟨w.heap.size + 2, 6, none⟩) hBW (.bool s6)).set (x := ⟨w.heap.size + 2, 7, none⟩) hBW (.slice p6 l6 c6)).set (x := ⟨w.heap.size + 2, 8, none⟩) hBW (.slice q6 k6 d6)) hle, ((((((((((Kp.trans kw kh)).setCell (by simp <;> omega) _).setCell (by simp <;> omega) _).setCell (by simp <;> omega) _).setCell (by simp <;> omega) _).setCell (by simp <;> omega) _).setCell (by simp <;> omega) _).setCell (by simp <;> omega) _).setCell (by simp <;> omega) _).setCell (by simp <;> omega) _⟩
set_option maxRecDepth 20000 in
set_option maxHeartbeats 2000000 in
theorem radd6c_ (X Y C D LO HI : Int) (P1 P2 P3 : World → Value → Prop) (w : World) (hk1 : ∀ (W W' : World) (v : Value), Kp W W' → P1 W v → P1 W' v) (hO1 : ∀ W : World, Kp w W → Calls Tryz.prog 19 #[.agg #[.int .u64 X, .int .u64 Y]] W fun e w' => ∃ v, e = .returned v ∧ P1 w' v ∧ Kp W w') (hO2 : ∀ W : World, Kp w W → Calls Tryz.prog 19 #[.agg #[.int .u64 C, .int .u64 D]] W fun e w' => ∃ v, e = .returned v ∧ P2 w' v ∧ Kp W w')  (hPl : ∀ (W : World) (u v : Value), Kp w W → P1 W u → P2 W v → Calls Tryz.prog 18 #[u, v] W fun e w' => ∃ v', e = .returned v' ∧ P3 w' v' ∧ Kp W w') (hLe : ∀ (W : World) (v : Value), Kp w W → P3 W v → Calls Tryz.prog 17 #[v] W fun e w' => e = .returned (.agg #[.int .u64 LO, .int .u64 HI]) ∧ Kp W w') : Calls Tryz.prog 8 #[.agg #[.int .u64 X, .int .u64 Y], .agg #[.int .u64 C, .int .u64 D]] w fun e w' => e = .returned (.agg #[.int .u64 LO, .int .u64 HI]) ∧ Kp w w' := by
  go_enter Tryz.func8, Tryz.ntmps8
  go_wp2
  generalize hW : (((w.alloc (.cells #[.int .u64 X, .int .u64 Y] 24)).alloc (.cells #[.int .u64 C, .int .u64 D] 24)).alloc (.cells #[.int .u64 0, .int .u64 0] 24)) = W
  have kw : Kp w W := by rw [← hW]; exact (((Kp.refl w).alloc _).alloc _).alloc _
  have xw0 : W.cell? ⟨w.heap.size, 0, none⟩ = some (.int .u64 X) := by rw [← hW]; simp [go_sem]
  have dw0 : W.drew.cell? ⟨w.heap.size, 0, none⟩ = some (.int .u64 X) := xw0
  have xw1 : W.cell? ⟨w.heap.size, 1, none⟩ = some (.int .u64 Y) := by rw [← hW]; simp [go_sem]
  have dw1 : W.drew.cell? ⟨w.heap.size, 1, none⟩ = some (.int .u64 Y) := xw1
  have xw2 : W.cell? ⟨w.heap.size + 1, 0, none⟩ = some (.int .u64 C) := by rw [← hW]; simp [go_sem]
  have dw2 : W.drew.cell? ⟨w.heap.size + 1, 0, none⟩ = some (.int .u64 C) := xw2
  have xw3 : W.cell? ⟨w.heap.size + 1, 1, none⟩ = some (.int .u64 D) := by rw [← hW]; simp [go_sem]
  have dw3 : W.drew.cell? ⟨w.heap.size + 1, 1, none⟩ = some (.int .u64 D) := xw3
  have r0 : W.cell? ⟨w.heap.size + 2, 0, none⟩ = some (.int .u64 0) := by rw [← hW]; simp [go_sem]
  have rz0 : W.frozen? ⟨w.heap.size + 2, 0, none⟩ = false := by rw [← hW]; simp [go_sem]
  have r1 : W.cell? ⟨w.heap.size + 2, 1, none⟩ = some (.int .u64 0) := by rw [← hW]; simp [go_sem]
  have rz1 : W.frozen? ⟨w.heap.size + 2, 1, none⟩ = false := by rw [← hW]; simp [go_sem]
  have hn1 : w.heap.size + 2 ≠ w.heap.size := by omega
  have hn2 : w.heap.size + 2 ≠ w.heap.size + 1 := by omega
  clear hW
  go_region_held3 (fun w' => w'.cell? ⟨w.heap.size, 0, none⟩ = some (.int .u64 X) ∧ w'.cell? ⟨w.heap.size, 1, none⟩ = some (.int .u64 Y) ∧ w'.cell? ⟨w.heap.size + 1, 0, none⟩ = some (.int .u64 C) ∧ w'.cell? ⟨w.heap.size + 1, 1, none⟩ = some (.int .u64 D)) (first | (with_reducible exact ⟨xw0, xw1, xw2, xw3⟩) | (with_reducible exact ⟨dw0, dw1, dw2, dw3⟩) | (with_reducible exact ⟨wA0, wA1, wA2, wA3⟩) | (with_reducible exact ⟨wB0, wB1, wB2, wB3⟩) | (with_reducible exact ⟨wC0, wC1, wC2, wC3⟩) | (with_reducible exact ⟨wD0, wD1, wD2, wD3⟩) | (exact ⟨((World.cell?_setCell_far _ _ _ _ hn1).trans ((World.cell?_setCell_far _ _ _ _ hn1).trans wD0)), ((World.cell?_setCell_far _ _ _ _ hn1).trans ((World.cell?_setCell_far _ _ _ _ hn1).trans wD1)), ((World.cell?_setCell_far _ _ _ _ hn2).trans ((World.cell?_setCell_far _ _ _ _ hn2).trans wD2)), ((World.cell?_setCell_far _ _ _ _ hn2).trans ((World.cell?_setCell_far _ _ _ _ hn2).trans wD3))⟩)) (first | (go_at_call_of 19 (Value.int .u64 X); refine (hO1 _ ?q0).mono ?_; (case q0 => exact kw.drew); rintro e wA ⟨v1, rfl, hv1, gA⟩; have kA : Kp W wA := Kp.trans (Kp.drew (Kp.refl _)) gA; have wA0 := kkeep kA xw0; have wA1 := kkeep kA xw1; have wA2 := kkeep kA xw2; have wA3 := kkeep kA xw3) | (go_at_call_of 19 (Value.int .u64 C); refine (hO2 _ ?q0).mono ?_; (case q0 => exact kw.trans kA); rintro e wB ⟨v2, rfl, hv2, gB⟩; have kB : Kp W wB := Kp.trans kA gB; have hv3 := hk1 _ _ _ gB hv1; have wB0 := kkeep kB xw0; have wB1 := kkeep kB xw1; have wB2 := kkeep kB xw2; have wB3 := kkeep kB xw3) | (go_at_call 18; refine (hPl _ v1 v2 (kw.trans kB) hv3 hv2).mono ?_; rintro e wC ⟨v6, rfl, hv6, gC⟩; have kC : Kp W wC := Kp.trans kB gC; have wC0 := kkeep kC xw0; have wC1 := kkeep kC xw1; have wC2 := kkeep kC xw2; have wC3 := kkeep kC xw3) | (go_at_call 17; refine (hLe _ v6 (kw.trans kC) hv6).mono ?_; rintro e wD ⟨rfl, gD⟩; have kD : Kp W wD := Kp.trans kC gD; have wD0 := kkeep kD xw0; have wD1 := kkeep kD xw1; have wD2 := kkeep kD xw2; have wD3 := kkeep kD xw3; have R0 := kkeep kD r0; have Rz0 : wD.frozen? ⟨w.heap.size + 2, 0, none⟩ = false := (kfro kD (cell_lt r0)).trans rz0; have R1 := kkeep kD r1; have Rz1 : wD.frozen? ⟨w.heap.size + 2, 1, none⟩ = false := (kfro kD (cell_lt r1)).trans rz1))
  go_wp2
  exact bodyPost_ret (v := .agg #[.int .u64 LO, .int .u64 HI]) (by simp [results, Tryz.results8, go_sem, R0, R1]) rfl ⟨rfl, (((Kp.trans kw kD)).setCell (by simp <;> omega) _).setCell (by simp <;> omega) _⟩

/-- a set's value, by its flag alone -/
def SV0 (N : Bool) (v : Value) : Prop := ∃ (i j : Int) (s : Bool) (p : Option Addr) (l c : Nat) (q : Option Addr) (k d : Nat) (s2 : Bool) (p2 : Option Addr) (l2 c2 : Nat) (q2 : Option Addr) (k2 d2 : Nat), v = .agg #[.bool N, .int .i64 i, .bool s, .slice p l c, .slice q k d, .int .i64 j, .bool s2, .slice p2 l2 c2, .slice q2 k2 d2]
/-- a set that is not empty, from the end n m to the end n' m' -/
def SV1 (n : Bool) (m : Nat) (n' : Bool) (m' : Nat) (W : World) (v : Value) : Prop := ∃ (s : Bool) (p : Option Addr) (l c : Nat) (q : Option Addr) (k d : Nat) (s2 : Bool) (p2 : Option Addr) (l2 c2 : Nat) (q2 : Option Addr) (k2 d2 : Nat), v = .agg #[.bool false, .int .i64 (infS n m), .bool s, .slice p l c, .slice q k d, .int .i64 (infS n' m'), .bool s2, .slice p2 l2 c2, .slice q2 k2 d2] ∧ RP 0 W s p l c q k d (fN n m) (fM m) ∧ RP 0 W s2 p2 l2 c2 q2 k2 d2 (fN n' m') (fM m')
theorem SV1.sv0 {n : Bool} {m : Nat} {n' : Bool} {m' : Nat} {W : World} {v : Value} (h : SV1 n m n' m' W v) : SV0 false v := by
  obtain ⟨s, p, l, c, q, k, d, s2, p2, l2, c2, q2, k2, d2, e, -, -⟩ := h
  exact ⟨_, _, s, p, l, c, q, k, d, s2, p2, l2, c2, q2, k2, d2, e⟩
theorem SV1.kp {n : Bool} {m : Nat} {n' : Bool} {m' : Nat} {W W' : World} {v : Value} (g : Kp W W') (h : SV1 n m n' m' W v) : SV1 n m n' m' W' v := by
  obtain ⟨s, p, l, c, q, k, d, s2, p2, l2, c2, q2, k2, d2, e, h1, h2⟩ := h
  exact ⟨s, p, l, c, q, k, d, s2, p2, l2, c2, q2, k2, d2, e, h1.kp g, h2.kp g⟩
theorem pla_ne (x : Nat) : Fq.pla x ≠ 9223372036854775808 := by unfold Fq.pla; split <;> omega
theorem rlo_ne (a b : Nat) : Fq.rlo a b ≠ 9223372036854775808 := by
  unfold Fq.rlo
  split
  · exact pla_ne a
  · decide
theorem rhi_ne (a b : Nat) : Fq.rhi a b ≠ 9223372036854775808 := by
  unfold Fq.rhi
  split
  · exact pla_ne b
  · decide
theorem ofEmpty_ (a b : Nat) (ha : a < 18446744073709551616) (hb : b < 18446744073709551616) (hs : Fq.snd a b = false) (w : World) : Calls Tryz.prog 19 #[.agg #[.int .u64 ((a : Nat) : Int), .int .u64 ((b : Nat) : Int)]] w fun e w' => ∃ v, e = .returned v ∧ SV0 true v ∧ Kp w w' := by
  have hr : ∀ w : World, Calls Tryz.prog 36 #[.agg #[.int .u64 ((a : Nat) : Int), .int .u64 ((b : Nat) : Int)]] w fun e w' => e = .returned (.agg #[.int .u64 9218868437227405312, .int .u64 18442240474082181120]) ∧ Kp w w' := by
    obtain ⟨n, m, hm, rfl⟩ := Fq.exD a ha
    obtain ⟨n', m', hm', rfl⟩ := Fq.exD b hb
    intro w
    have h := Fq.rread_ n n' m m' hm hm' w
    rw [show Fq.rlo (Fq.wD n m) (Fq.wD n' m') = 9218868437227405312 from by simp [Fq.rlo, hs], show Fq.rhi (Fq.wD n m) (Fq.wD n' m') = 18442240474082181120 from by simp [Fq.rhi, hs]] at h
    exact h
  refine (ofE_ _ _ hr w).mono ?_
  rintro e w' ⟨s, p, l, c, q, k, d, s2, p2, l2, c2, q2, k2, d2, rfl, -, -, g⟩
  exact ⟨_, rfl, ⟨0, 0, s, p, l, c, q, k, d, s2, p2, l2, c2, q2, k2, d2, rfl⟩, g⟩
theorem ofSound_ (a b : Nat) (ha : a < 18446744073709551616) (hb : b < 18446744073709551616) (hs : Fq.snd a b = true) (n n' : Bool) (m m' : Nat) (hm : m ≤ 9218868437227405312) (hm' : m' ≤ 9218868437227405312) (e1 : Fq.rlo a b = Fq.wD n m) (e2 : Fq.rhi a b = Fq.wD n' m') (w : World) : Calls Tryz.prog 19 #[.agg #[.int .u64 ((a : Nat) : Int), .int .u64 ((b : Nat) : Int)]] w fun e w' => ∃ v, e = .returned v ∧ SV1 n m n' m' w' v ∧ Kp w w' := by
  have hr : ∀ w : World, Calls Tryz.prog 36 #[.agg #[.int .u64 ((a : Nat) : Int), .int .u64 ((b : Nat) : Int)]] w fun e w' => e = .returned (.agg #[.int .u64 ((Fq.wD n m : Nat) : Int), .int .u64 ((Fq.wD n' m' : Nat) : Int)]) ∧ Kp w w' := by
    rw [← e1, ← e2]
    obtain ⟨n, m, hm, rfl⟩ := Fq.exD a ha
    obtain ⟨n', m', hm', rfl⟩ := Fq.exD b hb
    exact fun w => Fq.rread_ n n' m m' hm hm' w
  have t1 : (((Fq.wD n m : Nat) : Int) == 9218868437227405312) = false := by
    have h1 : Fq.rlo a b ≠ 9218868437227405312 := by
      have h2 : a ≠ 9218868437227405312 := by intro h; rw [h] at hs; simp [Fq.snd] at hs
      simp only [Fq.rlo, hs, if_true, Fq.pla]; split <;> omega
    rw [e1] at h1
    simp; omega
  refine (ofS_ _ _ _ _ _ _ _ _ _ _ hr (bound_ n m hm (e1 ▸ rlo_ne a b)) (bound_ n' m' hm' (e2 ▸ rhi_ne a b)) t1 w).mono ?_
  rintro e w' ⟨s, p, l, c, q, k, d, s2, p2, l2, c2, q2, k2, d2, rfl, h1, h2, g⟩
  exact ⟨_, rfl, ⟨s, p, l, c, q, k, d, s2, p2, l2, c2, q2, k2, d2, rfl, h1.mono (Nat.zero_le _), h2.mono (Nat.zero_le _)⟩, g⟩

theorem leastP_ (i j : Int) (ZA ZB : Int → Nat) (s : Bool) (p : Option Addr) (l c : Nat) (q : Option Addr) (k d : Nat) (s2 : Bool) (p2 : Option Addr) (l2 c2 : Nat) (q2 : Option Addr) (k2 d2 : Nat) (B1 B2 : Nat) (w : World) (h1 : i = 0 → QP B1 w s p l c q k d ZA) (h2 : j = 0 → QP B2 w s2 p2 l2 c2 q2 k2 d2 ZB) : Calls Tryz.prog 17 #[.agg #[.bool false, .int .i64 i, .bool s, .slice p l c, .slice q k d, .int .i64 j, .bool s2, .slice p2 l2 c2, .slice q2 k2 d2]] w fun e w' => e = .returned (.agg #[.int .u64 ((if i = 0 then ZA (-1) else 18442240474082181120 : Nat) : Int), .int .u64 ((if j = 0 then ZB 1 else 9218868437227405312 : Nat) : Int)]) ∧ Kp w w' := by
  by_cases e1 : i = 0
  · have g1 := h1 e1
    rw [if_pos e1]
    by_cases e2 : j = 0
    · have g2 := h2 e2
      rw [if_pos e2]
      subst e1 e2
      exact leastFF_ _ _ s p l c q k d s2 p2 l2 c2 q2 k2 d2 w (fun W g => qbits_ s p l c q k d ZA (-1) B1 W (g1.kp g)) (fun W g => qbits_ s2 p2 l2 c2 q2 k2 d2 ZB 1 B2 W (g2.kp g))
    · rw [if_neg e2]
      subst e1
      exact leastFN_ _ j (by simpa using e2) s p l c q k d s2 p2 l2 c2 q2 k2 d2 w (fun W g => qbits_ s p l c q k d ZA (-1) B1 W (g1.kp g))
  · rw [if_neg e1]
    by_cases e2 : j = 0
    · have g2 := h2 e2
      rw [if_pos e2]
      subst e2
      exact leastNF_ i (by simpa using e1) _ s p l c q k d s2 p2 l2 c2 q2 k2 d2 w (fun W g => qbits_ s2 p2 l2 c2 q2 k2 d2 ZB 1 B2 W (g2.kp g))
    · rw [if_neg e2]
      exact leastNN_ i (by simpa using e1) j (by simpa using e2) s p l c q k d s2 p2 l2 c2 q2 k2 d2 w
/-- the ends of a sum -/
def loA (n : Bool) (m : Nat) (n' : Bool) (m' : Nat) : Nat := if m = 9218868437227405312 ∨ m' = 9218868437227405312 then 18442240474082181120 else sumW (-1) (Iv n m + Iv n' m')
def hiA (n : Bool) (m : Nat) (n' : Bool) (m' : Nat) : Nat := if m = 9218868437227405312 ∨ m' = 9218868437227405312 then 9218868437227405312 else sumW 1 (Iv n m + Iv n' m')
theorem infS_zero (n : Bool) (m : Nat) : infS n m = 0 ↔ m ≠ 9218868437227405312 := by
  unfold infS
  by_cases c : m = 9218868437227405312
  · rw [if_pos c]; cases n <;> simp [c]
  · rw [if_neg c]; simp [c]
theorem sI_zero (i j : Int) : sI i j = 0 ↔ i = 0 ∧ j = 0 := by
  unfold sI
  by_cases c : i = 0
  · rw [if_pos c]; simp [c]
  · rw [if_neg c]; simp [c]
theorem lo_eq (n n' : Bool) (m m' : Nat) : (if sI (infS n m) (infS n' m') = 0 then sumW (-1) (Iv (fN n m) (fM m) + Iv (fN n' m') (fM m')) else 18442240474082181120) = loA n m n' m' := by
  unfold loA
  by_cases c : m = 9218868437227405312 ∨ m' = 9218868437227405312
  · rw [if_pos c, if_neg (fun h => by rw [sI_zero, infS_zero, infS_zero] at h; omega)]
  · rw [if_neg c, if_pos (by rw [sI_zero, infS_zero, infS_zero]; omega)]
    unfold fN fM
    rw [if_neg (by omega), if_neg (by omega), if_neg (by omega), if_neg (by omega)]
theorem hi_eq (n n' : Bool) (m m' : Nat) : (if sI (infS n m) (infS n' m') = 0 then sumW 1 (Iv (fN n m) (fM m) + Iv (fN n' m') (fM m')) else 9218868437227405312) = hiA n m n' m' := by
  unfold hiA
  by_cases c : m = 9218868437227405312 ∨ m' = 9218868437227405312
  · rw [if_pos c, if_neg (fun h => by rw [sI_zero, infS_zero, infS_zero] at h; omega)]
  · rw [if_neg c, if_pos (by rw [sI_zero, infS_zero, infS_zero]; omega)]
    unfold fN fM
    rw [if_neg (by omega), if_neg (by omega), if_neg (by omega), if_neg (by omega)]
/-- what Plus makes of two sets that are not empty -/
def SV3 (n1 g1 n2 g2 : Bool) (m1 r1 m2 r2 : Nat) : World → Value → Prop := fun (W : World) (v : Value) => ∃ (s : Bool) (p : Option Addr) (l c : Nat) (q : Option Addr) (k d : Nat) (s2 : Bool) (p2 : Option Addr) (l2 c2 : Nat) (q2 : Option Addr) (k2 d2 : Nat), v = .agg #[.bool false, .int .i64 (sI (infS n1 m1) (infS n2 m2)), .bool s, .slice p l c, .slice q k d, .int .i64 (sI (infS g1 r1) (infS g2 r2)), .bool s2, .slice p2 l2 c2, .slice q2 k2 d2] ∧ ((infS n1 m1) = 0 → (infS n2 m2) = 0 → QP 0 W s p l c q k d (fun dd => sumW dd (Iv (fN n1 m1) (fM m1) + Iv (fN n2 m2) (fM m2)))) ∧ ((infS g1 r1) = 0 → (infS g2 r2) = 0 → QP 0 W s2 p2 l2 c2 q2 k2 d2 (fun dd => sumW dd (Iv (fN g1 r1) (fM r1) + Iv (fN g2 r2) (fM r2))))
theorem plusS_ (n1 g1 n2 g2 : Bool) (m1 r1 m2 r2 : Nat) (W : World) (u v : Value) (h1 : SV1 n1 m1 g1 r1 W u) (h2 : SV1 n2 m2 g2 r2 W v) : Calls Tryz.prog 18 #[u, v] W fun e w' => ∃ v', e = .returned v' ∧ SV3 n1 g1 n2 g2 m1 r1 m2 r2 w' v' ∧ Kp W w' := by
  obtain ⟨s, p, l, c, q, k, d, s2, p2, l2, c2, q2, k2, d2, rfl, a1, a2⟩ := h1
  obtain ⟨s3, p3, l3, c3, q3, k3, d3, s4, p4, l4, c4, q4, k4, d4, rfl, b1, b2⟩ := h2
  refine (plusN_ (infS n1 m1) (infS g1 r1) (infS n2 m2) (infS g2 r2) (fun dd => sumW dd (Iv (fN n1 m1) (fM m1) + Iv (fN n2 m2) (fM m2))) (fun dd => sumW dd (Iv (fN g1 r1) (fM r1) + Iv (fN g2 r2) (fM r2))) s p l c q k d s2 p2 l2 c2 q2 k2 d2 s3 p3 l3 c3 q3 k3 d3 s4 p4 l4 c4 q4 k4 d4 W (fun W' g => sum6_ (infS n1 m1) (infS n2 m2) _ _ _ _ s p l c q k d s3 p3 l3 c3 q3 k3 d3 0 0 W' (a1.kp g) (b1.kp g)) (fun W' g => sum6_ (infS g1 r1) (infS g2 r2) _ _ _ _ s2 p2 l2 c2 q2 k2 d2 s4 p4 l4 c4 q4 k4 d4 0 0 W' (a2.kp g) (b2.kp g))).mono ?_
  rintro e w' ⟨s5, p5, l5, c5, q5, k5, d5, s6, p6, l6, c6, q6, k6, d6, rfl, x1, x2, g⟩
  exact ⟨_, rfl, ⟨s5, p5, l5, c5, q5, k5, d5, s6, p6, l6, c6, q6, k6, d6, rfl, fun y z => (x1 y z).mono (Nat.zero_le _), fun y z => (x2 y z).mono (Nat.zero_le _)⟩, g⟩
theorem leastS_ (n1 g1 n2 g2 : Bool) (m1 r1 m2 r2 : Nat) (W : World) (v : Value) (h : SV3 n1 g1 n2 g2 m1 r1 m2 r2 W v) : Calls Tryz.prog 17 #[v] W fun e w' => e = .returned (.agg #[.int .u64 ((loA n1 m1 n2 m2 : Nat) : Int), .int .u64 ((hiA g1 r1 g2 r2 : Nat) : Int)]) ∧ Kp W w' := by
  obtain ⟨s, p, l, c, q, k, d, s2, p2, l2, c2, q2, k2, d2, rfl, x1, x2⟩ := h
  have h := leastP_ (sI (infS n1 m1) (infS n2 m2)) (sI (infS g1 r1) (infS g2 r2)) (fun dd => sumW dd (Iv (fN n1 m1) (fM m1) + Iv (fN n2 m2) (fM m2))) (fun dd => sumW dd (Iv (fN g1 r1) (fM r1) + Iv (fN g2 r2) (fM r2))) s p l c q k d s2 p2 l2 c2 q2 k2 d2 0 0 W (fun y => x1 ((sI_zero _ _).1 y).1 ((sI_zero _ _).1 y).2) (fun y => x2 ((sI_zero _ _).1 y).1 ((sI_zero _ _).1 y).2)
  rw [lo_eq, hi_eq] at h
  exact h
theorem leastN_ (W : World) (v : Value) (h : SV0 true v) : Calls Tryz.prog 17 #[v] W fun e w' => e = .returned (.agg #[.int .u64 9218868437227405312, .int .u64 18442240474082181120]) ∧ Kp W w' := by
  obtain ⟨i, j, s, p, l, c, q, k, d, s2, p2, l2, c2, q2, k2, d2, rfl⟩ := h
  exact leastE_ i j s p l c q k d s2 p2 l2 c2 q2 k2 d2 W
theorem plusX_ (N M : Bool) (hNM : N = true ∨ M = true) (W : World) (u v : Value) (h1 : SV0 N u) (h2 : SV0 M v) : Calls Tryz.prog 18 #[u, v] W fun e w' => ∃ v', e = .returned v' ∧ SV0 true v' ∧ Kp W w' := by
  obtain ⟨i, j, s, p, l, c, q, k, d, s2, p2, l2, c2, q2, k2, d2, rfl⟩ := h1
  obtain ⟨i2, j2, s3, p3, l3, c3, q3, k3, d3, s4, p4, l4, c4, q4, k4, d4, rfl⟩ := h2
  cases N
  · have hM : M = true := by simpa using hNM
    subst hM
    refine (plusE2_ i j i2 j2 s p l c q k d s2 p2 l2 c2 q2 k2 d2 s3 p3 l3 c3 q3 k3 d3 s4 p4 l4 c4 q4 k4 d4 W).mono ?_
    rintro e w' ⟨s5, p5, l5, c5, q5, k5, d5, s6, p6, l6, c6, q6, k6, d6, rfl, g⟩
    exact ⟨_, rfl, ⟨0, 0, s5, p5, l5, c5, q5, k5, d5, s6, p6, l6, c6, q6, k6, d6, rfl⟩, g⟩
  · refine (plusE1_ i j i2 j2 M s p l c q k d s2 p2 l2 c2 q2 k2 d2 s3 p3 l3 c3 q3 k3 d3 s4 p4 l4 c4 q4 k4 d4 W).mono ?_
    rintro e w' ⟨s5, p5, l5, c5, q5, k5, d5, s6, p6, l6, c6, q6, k6, d6, rfl, g⟩
    exact ⟨_, rfl, ⟨0, 0, s5, p5, l5, c5, q5, k5, d5, s6, p6, l6, c6, q6, k6, d6, rfl⟩, g⟩
theorem of0_ (a b : Nat) (ha : a < 18446744073709551616) (hb : b < 18446744073709551616) (w : World) : Calls Tryz.prog 19 #[.agg #[.int .u64 ((a : Nat) : Int), .int .u64 ((b : Nat) : Int)]] w fun e w' => ∃ v, e = .returned v ∧ SV0 (!(Fq.snd a b)) v ∧ Kp w w' := by
  by_cases hs : Fq.snd a b = true
  · obtain ⟨n, m, hm, e1⟩ := rlo_w a b ha hb
    obtain ⟨n', m', hm', e2⟩ := rhi_w a b ha hb
    refine (ofSound_ a b ha hb hs n n' m m' hm hm' e1 e2 w).mono ?_
    rintro e w' ⟨v, rfl, h, g⟩
    rw [hs]
    exact ⟨v, rfl, h.sv0, g⟩
  · have hs : Fq.snd a b = false := by simpa using hs
    rw [hs]
    exact ofEmpty_ a b ha hb hs w

theorem void6_ (a b : Nat) (ha : a < 18446744073709551616) (hb : b < 18446744073709551616) (V : Bool) (hs : Fq.snd a b = !V) (w : World) : Calls Tryz.prog 13 #[.agg #[.float .f64 (Fq.rlo a b), .float .f64 (Fq.rhi a b)]] w fun e w' => e = .returned (.bool V) ∧ Kp w w' := by
  have h := Fq.void_ (Fq.rlo a b) (Fq.rhi a b) (Fq.rlo_lt a b ha) (Fq.rhi_lt a b hb) w
  rw [Fq.void_read, hs, Bool.not_not] at h
  exact h
theorem empty6K_ (w : World) : Calls Tryz.prog 14 #[] w fun e w' => e = .returned (.agg #[.float .f64 9218868437227405312, .float .f64 18442240474082181120]) ∧ Kp w w' := by
  refine (Fq.empty6_ w).mono ?_
  rintro e w' ⟨rfl, rfl⟩
  exact ⟨rfl, (Kp.refl w).alloc _⟩
theorem rlo_inf (a b : Nat) (hs : Fq.snd a b = true) (n : Bool) (m : Nat) (e1 : Fq.rlo a b = Fq.wD n m) (c : m = 9218868437227405312) : n = true := by
  have h2 : a ≠ 9218868437227405312 := by intro h; rw [h] at hs; simp [Fq.snd] at hs
  have h1 : Fq.rlo a b ≠ 9218868437227405312 := by simp only [Fq.rlo, hs, if_true, Fq.pla]; split <;> omega
  rw [e1, c] at h1
  cases n
  · exact absurd rfl h1
  · rfl
theorem rhi_inf (a b : Nat) (hs : Fq.snd a b = true) (n : Bool) (m : Nat) (e1 : Fq.rhi a b = Fq.wD n m) (c : m = 9218868437227405312) : n = false := by
  have h2 : b ≠ 18442240474082181120 := by intro h; rw [h] at hs; simp [Fq.snd] at hs
  have h1 : Fq.rhi a b ≠ 18442240474082181120 := by simp only [Fq.rhi, hs, if_true, Fq.pla]; split <;> omega
  rw [e1, c] at h1
  cases n
  · rfl
  · exact absurd rfl h1
theorem addLo_ (n n' : Bool) (m m' : Nat) (hm : m ≤ 9218868437227405312) (hm' : m' ≤ 9218868437227405312) (i1 : m = 9218868437227405312 → n = true) (i2 : m' = 9218868437227405312 → n' = true) (w : World) (hT : Tab w) (hQ : Fq.Tab w) : Calls Tryz.prog 15 #[.int .i64 (-1), .float .f64 (Fq.wD n m), .float .f64 (Fq.wD n' m')] w fun e w' => e = .returned (.float .f64 (loA n m n' m')) ∧ Kp w w' := by
  unfold loA
  by_cases c : m = 9218868437227405312 ∨ m' = 9218868437227405312
  · rw [if_pos c]
    have h := paddI_ (-1) n n' m m' (by omega) (by omega) (by omega) (fun h => by
      rcases h with h | h | h
      · omega
      · omega
      · exact h.2.2 ((i1 h.1).trans (i2 h.2.1).symm)) w
    have e : Fq.wD (if m = 9218868437227405312 then n else n') 9218868437227405312 = 18442240474082181120 := by
      by_cases c1 : m = 9218868437227405312
      · rw [if_pos c1, i1 c1]; rfl
      · rw [if_neg c1, i2 (by omega)]; rfl
    rw [e] at h
    exact h
  · rw [if_neg c]
    exact paddF_ (-1) n n' m m' (by omega) (by omega) w hT hQ (by decide) (by decide)
theorem addHi_ (n n' : Bool) (m m' : Nat) (hm : m ≤ 9218868437227405312) (hm' : m' ≤ 9218868437227405312) (i1 : m = 9218868437227405312 → n = false) (i2 : m' = 9218868437227405312 → n' = false) (w : World) (hT : Tab w) (hQ : Fq.Tab w) : Calls Tryz.prog 15 #[.int .i64 1, .float .f64 (Fq.wD n m), .float .f64 (Fq.wD n' m')] w fun e w' => e = .returned (.float .f64 (hiA n m n' m')) ∧ Kp w w' := by
  unfold hiA
  by_cases c : m = 9218868437227405312 ∨ m' = 9218868437227405312
  · rw [if_pos c]
    have h := paddI_ 1 n n' m m' (by omega) (by omega) (by omega) (fun h => by
      rcases h with h | h | h
      · omega
      · omega
      · exact h.2.2 ((i1 h.1).trans (i2 h.2.1).symm)) w
    have e : Fq.wD (if m = 9218868437227405312 then n else n') 9218868437227405312 = 9218868437227405312 := by
      by_cases c1 : m = 9218868437227405312
      · rw [if_pos c1, i1 c1]; rfl
      · rw [if_neg c1, i2 (by omega)]; rfl
    rw [e] at h
    exact h
  · rw [if_neg c]
    exact paddF_ 1 n n' m m' (by omega) (by omega) w hT hQ (by decide) (by decide)
theorem add_both6 (a b c d : Nat) (ha : a < 18446744073709551616) (hb : b < 18446744073709551616) (hc : c < 18446744073709551616) (hd : d < 18446744073709551616) : ∃ LO HI : Nat, (∀ w : World, Tab w → Fq.Tab w → Calls Tryz.prog 6 #[.agg #[.float .f64 a, .float .f64 b], .agg #[.float .f64 c, .float .f64 d]] w fun e w' => e = .returned (.agg #[.float .f64 LO, .float .f64 HI]) ∧ Kp w w') ∧ (∀ w : World, Calls Tryz.prog 8 #[.agg #[.int .u64 ((a : Nat) : Int), .int .u64 ((b : Nat) : Int)], .agg #[.int .u64 ((c : Nat) : Int), .int .u64 ((d : Nat) : Int)]] w fun e w' => e = .returned (.agg #[.int .u64 ((LO : Nat) : Int), .int .u64 ((HI : Nat) : Int)]) ∧ Kp w w') := by
  by_cases s1 : Fq.snd a b = true
  · by_cases s2 : Fq.snd c d = true
    · obtain ⟨n1, m1, l1, e1⟩ := rlo_w a b ha hb
      obtain ⟨g1, r1, l2, e2⟩ := rhi_w a b ha hb
      obtain ⟨n2, m2, l3, e3⟩ := rlo_w c d hc hd
      obtain ⟨g2, r2, l4, e4⟩ := rhi_w c d hc hd
      refine ⟨loA n1 m1 n2 m2, hiA g1 r1 g2 r2, fun w hT hQ => ?_, fun w => ?_⟩
      · refine add6n_ a b c d _ _ _ _ _ _ (Fq.read_ a b ha hb) (Fq.read_ c d hc hd) (void6_ a b ha hb false (by simpa using s1)) (void6_ c d hc hd false (by simpa using s2)) w ?_ ?_
        · intro W g
          rw [e1, e3]
          exact addLo_ n1 n2 m1 m2 l1 l3 (rlo_inf a b s1 n1 m1 e1) (rlo_inf c d s2 n2 m2 e3) W (hT.grown g) (Fq.Tab.grown hQ g)
        · intro W g
          rw [e2, e4]
          exact addHi_ g1 g2 r1 r2 l2 l4 (rhi_inf a b s1 g1 r1 e2) (rhi_inf c d s2 g2 r2 e4) W (hT.grown g) (Fq.Tab.grown hQ g)
      · exact radd6c_ _ _ _ _ _ _ (SV1 n1 m1 g1 r1) (SV1 n2 m2 g2 r2) (SV3 n1 g1 n2 g2 m1 r1 m2 r2) w (fun W W' v g h => h.kp g) (fun W _ => ofSound_ a b ha hb s1 n1 g1 m1 r1 l1 l2 e1 e2 W) (fun W _ => ofSound_ c d hc hd s2 n2 g2 m2 r2 l3 l4 e3 e4 W) (fun W u v _ h1 h2 => plusS_ n1 g1 n2 g2 m1 r1 m2 r2 W u v h1 h2) (fun W v _ h => leastS_ n1 g1 n2 g2 m1 r1 m2 r2 W v h)
    · have s2 : Fq.snd c d = false := by simpa using s2
      refine ⟨9218868437227405312, 18442240474082181120, fun w hT hQ => ?_, fun w => ?_⟩
      · exact add6v2_ a b c d _ _ _ _ (Fq.read_ a b ha hb) (Fq.read_ c d hc hd) (void6_ a b ha hb false (by simpa using s1)) (void6_ c d hc hd true (by simpa using s2)) empty6K_ w
      · refine radd6c_ _ _ _ _ _ _ (fun _ v => SV0 (!(Fq.snd a b)) v) (fun _ v => SV0 (!(Fq.snd c d)) v) (fun _ v => SV0 true v) w (fun W W' v g h => h) (fun W _ => of0_ a b ha hb W) (fun W _ => of0_ c d hc hd W) (fun W u v _ h1 h2 => plusX_ _ _ ?_ W u v h1 h2) (fun W v _ h => leastN_ W v h)
        rw [s2]; exact .inr rfl
  · have s1 : Fq.snd a b = false := by simpa using s1
    refine ⟨9218868437227405312, 18442240474082181120, fun w hT hQ => ?_, fun w => ?_⟩
    · exact add6v1_ a b c d _ _ _ _ (Fq.read_ a b ha hb) (Fq.read_ c d hc hd) (void6_ a b ha hb true (by simpa using s1)) empty6K_ w
    · refine radd6c_ _ _ _ _ _ _ (fun _ v => SV0 (!(Fq.snd a b)) v) (fun _ v => SV0 (!(Fq.snd c d)) v) (fun _ v => SV0 true v) w (fun W W' v g h => h) (fun W _ => of0_ a b ha hb W) (fun W _ => of0_ c d hc hd W) (fun W u v _ h1 h2 => plusX_ _ _ ?_ W u v h1 h2) (fun W v _ h => leastN_ W v h)
      rw [s1]; exact .inl rfl
set_option linter.unusedSimpArgs false
set_option maxRecDepth 20000 in
set_option maxHeartbeats 1000000 in
theorem rnegT_ (p : Option Addr) (l c : Nat) (q : Option Addr) (k d : Nat) (a b : Nat) (w : World) (h1 : Own w 0 (.slice p l c) (dig a)) (h2 : Own w 0 (.slice q k d) (dig b)) (la : blen a ≤ 1500) (lb : blen b ≤ 1500) : Calls Tryz.prog 59 #[.agg #[.bool true, .slice p l c, .slice q k d]] w fun e w' => ∃ (p2 : Option Addr) (l2 c2 : Nat) (q2 : Option Addr) (k2 d2 : Nat), e = .returned (.agg #[.bool false, .slice p2 l2 c2, .slice q2 k2 d2]) ∧ Own w' w.heap.size (.slice p2 l2 c2) (dig a) ∧ Own w' w.heap.size (.slice q2 k2 d2) (dig b) ∧ Kp w w' := by
  have nrm : ∀ (pp : Option Addr) (ll cc : Nat) (x : Nat), Own w 0 (.slice pp ll cc) (dig x) → blen x ≤ 1500 → ∀ W : World, Kp w W → Calls Tryz.prog 96 #[.slice pp ll cc] W fun e w' => ∃ (p2 : Option Addr) (l2 c2 : Nat), e = .returned (.slice p2 l2 c2) ∧ Own w' W.heap.size (.slice p2 l2 c2) (dig x) ∧ Kp W w' := by
    intro pp ll cc x h hx W g
    have hl : (dig x).length ≤ 1048576 := Nat.le_trans (show len32 x ≤ 4000 from dlen x 4000 (by omega)) (by decide)
    have h := normO (.slice pp ll cc) (dig x) W (h.kp g).ls (Wd_dig _) hl
    rw [val_dig] at h
    refine h.mono ?_
    rintro e w' ⟨v', rfl, o1, g2⟩
    obtain ⟨p2, c2, rfl, -, -⟩ := o1.arr
    exact ⟨p2, _, c2, rfl, o1, g2⟩
  have hs1 := nrm p l c a h1 la
  have hs2 := nrm q k d b h2 lb
  clear nrm h1 h2 la lb
  go_enter Tryz.func59, Tryz.ntmps59
  go_wp2
  generalize hW : ((w.alloc (.cells #[.bool true, .slice p l c, .slice q k d] 42)).alloc (.cells #[.bool false, .slice none 0 0, .slice none 0 0] 42)) = W
  have kw : Kp w W := by rw [← hW]; exact ((Kp.refl w).alloc _).alloc _
  have xw0 : W.cell? ⟨w.heap.size, 0, none⟩ = some (.bool true) := by rw [← hW]; simp [go_sem]
  have dw0 : W.drew.cell? ⟨w.heap.size, 0, none⟩ = some (.bool true) := xw0
  have xw1 : W.cell? ⟨w.heap.size, 1, none⟩ = some (.slice p l c) := by rw [← hW]; simp [go_sem]
  have dw1 : W.drew.cell? ⟨w.heap.size, 1, none⟩ = some (.slice p l c) := xw1
  have xw2 : W.cell? ⟨w.heap.size, 2, none⟩ = some (.slice q k d) := by rw [← hW]; simp [go_sem]
  have dw2 : W.drew.cell? ⟨w.heap.size, 2, none⟩ = some (.slice q k d) := xw2
  have r0 : W.cell? ⟨w.heap.size + 1, 0, none⟩ = some (.bool false) := by rw [← hW]; simp [go_sem]
  have rz0 : W.frozen? ⟨w.heap.size + 1, 0, none⟩ = false := by rw [← hW]; simp [go_sem]
  have r1 : W.cell? ⟨w.heap.size + 1, 1, none⟩ = some (.slice none 0 0) := by rw [← hW]; simp [go_sem]
  have rz1 : W.frozen? ⟨w.heap.size + 1, 1, none⟩ = false := by rw [← hW]; simp [go_sem]
  have r2 : W.cell? ⟨w.heap.size + 1, 2, none⟩ = some (.slice none 0 0) := by rw [← hW]; simp [go_sem]
  have rz2 : W.frozen? ⟨w.heap.size + 1, 2, none⟩ = false := by rw [← hW]; simp [go_sem]
  have hBW : w.heap.size + 1 < W.heap.size := cell_lt r0
  have hn1 : w.heap.size + 1 ≠ w.heap.size := by omega
  clear hW
  refine wp_region_held_drew (S := (fun w' => w'.cell? ⟨w.heap.size, 0, none⟩ = some (.bool true) ∧ w'.cell? ⟨w.heap.size, 1, none⟩ = some (.slice p l c) ∧ w'.cell? ⟨w.heap.size, 2, none⟩ = some (.slice q k d))) (by kernel_rfl) ?_ (fun hHeld => ?_)
  · exact ⟨dw0, dw1, dw2⟩
  refine wpAnyH_take (i := 0) (v := .pointer (some ⟨w.heap.size, 0, none⟩)) rfl (by kernel_rfl) (by kernel_rfl) (by kernel_rfl) (fun _ _ _ h => h) (Or.inl ⟨by rfl, ?_⟩) (by assumption) ?_
  · intro w hSw
    (try dsimp only at hSw)
    go_simp
  try simp only [Act.put, List.getElem_toArray, List.getElem_cons_zero, List.getElem_cons_succ, List.setIfInBounds_toArray, List.set_cons_zero, List.set_cons_succ]
  refine wpAnyH_take (i := 1) (v := .bool true) rfl (by kernel_rfl) (by kernel_rfl) (by kernel_rfl) (fun _ _ _ h => h) (Or.inl ⟨by rfl, ?_⟩) (by assumption) ?_
  · intro w hSw
    (try dsimp only at hSw)
    go_simp
  try simp only [Act.put, List.getElem_toArray, List.getElem_cons_zero, List.getElem_cons_succ, List.setIfInBounds_toArray, List.set_cons_zero, List.set_cons_succ]
  refine wpAnyH_take (i := 2) (v := .bool false) rfl (by kernel_rfl) (by kernel_rfl) (by kernel_rfl) (fun _ _ _ h => h) (Or.inl ⟨by rfl, ?_⟩) (by assumption) ?_
  · intro w hSw
    (try dsimp only at hSw)
    go_simp
  try simp only [Act.put, List.getElem_toArray, List.getElem_cons_zero, List.getElem_cons_succ, List.setIfInBounds_toArray, List.set_cons_zero, List.set_cons_succ]
  refine wpAnyH_take (i := 3) (v := .bool false) rfl (by kernel_rfl) (by kernel_rfl) (by kernel_rfl) (fun _ _ _ h => h) (Or.inl ⟨by rfl, ?_⟩) (by assumption) ?_
  · intro w hSw
    (try dsimp only at hSw)
    go_simp
  try simp only [Act.put, List.getElem_toArray, List.getElem_cons_zero, List.getElem_cons_succ, List.setIfInBounds_toArray, List.set_cons_zero, List.set_cons_succ]
  refine wpAnyH_take (i := 4) (v := undef) rfl (by kernel_rfl) (by kernel_rfl) (by kernel_rfl) (fun _ _ _ h => h) (Or.inr ⟨by rfl, rfl⟩) (by assumption) ?_
  try simp only [Act.put, List.getElem_toArray, List.getElem_cons_zero, List.getElem_cons_succ, List.setIfInBounds_toArray, List.set_cons_zero, List.set_cons_succ]
  refine wpAnyH_take (i := 5) (v := undef) rfl (by kernel_rfl) (by kernel_rfl) (by kernel_rfl) (fun _ _ _ h => h) (Or.inr ⟨by rfl, rfl⟩) (by assumption) ?_
  try simp only [Act.put, List.getElem_toArray, List.getElem_cons_zero, List.getElem_cons_succ, List.setIfInBounds_toArray, List.set_cons_zero, List.set_cons_succ]
  refine wpAnyH_take (i := 6) (v := undef) rfl (by kernel_rfl) (by kernel_rfl) (by kernel_rfl) (fun _ _ _ h => h) (Or.inr ⟨by rfl, rfl⟩) (by assumption) ?_
  try simp only [Act.put, List.getElem_toArray, List.getElem_cons_zero, List.getElem_cons_succ, List.setIfInBounds_toArray, List.set_cons_zero, List.set_cons_succ]
  refine wpAnyH_take (i := 7) (v := undef) rfl (by kernel_rfl) (by kernel_rfl) (by kernel_rfl) (fun _ _ _ h => h) (Or.inr ⟨by rfl, rfl⟩) (by assumption) ?_
  try simp only [Act.put, List.getElem_toArray, List.getElem_cons_zero, List.getElem_cons_succ, List.setIfInBounds_toArray, List.set_cons_zero, List.set_cons_succ]
  refine wpAnyH_take (i := 8) (v := .bool false) rfl (by kernel_rfl) (by kernel_rfl) (by kernel_rfl) (fun _ _ _ h => h) (Or.inl ⟨by rfl, ?_⟩) (by assumption) ?_
  · intro w hSw
    (try dsimp only at hSw)
    go_simp
  try simp only [Act.put, List.getElem_toArray, List.getElem_cons_zero, List.getElem_cons_succ, List.setIfInBounds_toArray, List.set_cons_zero, List.set_cons_succ]
  refine wpAnyH_take (i := 9) (v := .pointer (some ⟨w.heap.size, 1, none⟩)) rfl (by kernel_rfl) (by kernel_rfl) (by kernel_rfl) (fun _ _ _ h => h) (Or.inl ⟨by rfl, ?_⟩) (by assumption) ?_
  · intro w hSw
    (try dsimp only at hSw)
    go_simp
  try simp only [Act.put, List.getElem_toArray, List.getElem_cons_zero, List.getElem_cons_succ, List.setIfInBounds_toArray, List.set_cons_zero, List.set_cons_succ]
  refine wpAnyH_take (i := 10) (v := .slice p l c) rfl (by kernel_rfl) (by kernel_rfl) (by kernel_rfl) (fun _ _ _ h => h) (Or.inl ⟨by rfl, ?_⟩) (by assumption) ?_
  · intro w hSw
    (try dsimp only at hSw)
    go_simp
  try simp only [Act.put, List.getElem_toArray, List.getElem_cons_zero, List.getElem_cons_succ, List.setIfInBounds_toArray, List.set_cons_zero, List.set_cons_succ]
  refine wpAnyH_take (i := 12) (v := .pointer (some ⟨w.heap.size, 2, none⟩)) rfl (by kernel_rfl) (by kernel_rfl) (by kernel_rfl) (fun _ _ _ h => h) (Or.inl ⟨by rfl, ?_⟩) (by assumption) ?_
  · intro w hSw
    (try dsimp only at hSw)
    go_simp
  try simp only [Act.put, List.getElem_toArray, List.getElem_cons_zero, List.getElem_cons_succ, List.setIfInBounds_toArray, List.set_cons_zero, List.set_cons_succ]
  refine wpAnyH_take (i := 13) (v := .slice q k d) rfl (by kernel_rfl) (by kernel_rfl) (by kernel_rfl) (fun _ _ _ h => h) (Or.inl ⟨by rfl, ?_⟩) (by assumption) ?_
  · intro w hSw
    (try dsimp only at hSw)
    go_simp
  try simp only [Act.put, List.getElem_toArray, List.getElem_cons_zero, List.getElem_cons_succ, List.setIfInBounds_toArray, List.set_cons_zero, List.set_cons_succ]
  refine wpAnyH_ready (rs := [11]) (by kernel_rfl) (by simp) ?_
  refine AllReadyH.cons rfl (fun K hK => ?_) AllReadyH.nil
  go_simp
  go_at_call_of 96 (Value.slice p l c); refine (hs1 _ ?q0).mono ?_; (case q0 => exact kw.drew); rintro e wl ⟨p2, l2, c2, rfl, ho1, gl⟩; have kl : Kp W wl := Kp.trans (Kp.drew (Kp.refl _)) gl; have aw0 := kkeep kl xw0; have aw1 := kkeep kl xw1; have aw2 := kkeep kl xw2
  go_wp2_with fail
  refine hK.out _ _ ?_ (fun hHeld => ?_)
  · exact ⟨aw0, aw1, aw2⟩
  clear hK K
  try simp only [Act.put, List.getElem_toArray, List.getElem_cons_zero, List.getElem_cons_succ, List.setIfInBounds_toArray, List.set_cons_zero, List.set_cons_succ]
  refine wpAnyH_ready (rs := [14]) (by kernel_rfl) (by simp) ?_
  refine AllReadyH.cons rfl (fun K hK => ?_) AllReadyH.nil
  go_simp
  go_at_call_of 96 (Value.slice q k d); refine (hs2 _ ?q0).mono ?_; (case q0 => exact kw.trans kl); rintro e wh ⟨q2, k2, d2, rfl, ho2, gh⟩; have kh : Kp W wh := Kp.trans kl gh; have bw0 := kkeep kh xw0; have bw1 := kkeep kh xw1; have bw2 := kkeep kh xw2; have R0 := kkeep kh r0; have Rz0 : wh.frozen? ⟨w.heap.size + 1, 0, none⟩ = false := (kfro kh (cell_lt r0)).trans rz0; have R1 := kkeep kh r1; have Rz1 : wh.frozen? ⟨w.heap.size + 1, 1, none⟩ = false := (kfro kh (cell_lt r1)).trans rz1; have R2 := kkeep kh r2; have Rz2 : wh.frozen? ⟨w.heap.size + 1, 2, none⟩ = false := (kfro kh (cell_lt r2)).trans rz2
  go_wp2_with fail
  refine hK.out _ _ ?_ (fun hHeld => ?_)
  · exact ⟨bw0, bw1, bw2⟩
  clear hK K
  try simp only [Act.put, List.getElem_toArray, List.getElem_cons_zero, List.getElem_cons_succ, List.setIfInBounds_toArray, List.set_cons_zero, List.set_cons_succ]
  refine wpAnyH_take (i := 15) (v := .agg #[.bool false, .slice p2 l2 c2, .slice q2 k2 d2]) rfl (by kernel_rfl) (by kernel_rfl) (by kernel_rfl) (fun _ _ _ h => h) (Or.inl ⟨by rfl, ?_⟩) (by assumption) ?_
  · intro w hSw
    (try dsimp only at hSw)
    go_simp
  try simp only [Act.put, List.getElem_toArray, List.getElem_cons_zero, List.getElem_cons_succ, List.setIfInBounds_toArray, List.set_cons_zero, List.set_cons_succ]
  refine wpAnyH_ready (rs := [16]) (by kernel_rfl) (by simp) ?_
  refine AllReadyH.cons rfl (fun K hK => ?_) AllReadyH.nil
  go_simp
  refine hK.out _ _ ?_ (fun hHeld => ?_)
  · exact ⟨((World.cell?_setCell_far _ _ _ _ hn1).trans ((World.cell?_setCell_far _ _ _ _ hn1).trans ((World.cell?_setCell_far _ _ _ _ hn1).trans bw0))), ((World.cell?_setCell_far _ _ _ _ hn1).trans ((World.cell?_setCell_far _ _ _ _ hn1).trans ((World.cell?_setCell_far _ _ _ _ hn1).trans bw1))), ((World.cell?_setCell_far _ _ _ _ hn1).trans ((World.cell?_setCell_far _ _ _ _ hn1).trans ((World.cell?_setCell_far _ _ _ _ hn1).trans bw2)))⟩
  clear hK K
  try simp only [Act.put, List.getElem_toArray, List.getElem_cons_zero, List.getElem_cons_succ, List.setIfInBounds_toArray, List.set_cons_zero, List.set_cons_succ]
  refine wpAnyH_done (by kernel_rfl) ?_ _
  all_goals go_wp2
  all_goals (
    have hle : w.heap.size ≤ W.heap.size := by omega
    have O1 : Own wh W.heap.size (.slice p2 l2 c2) (dig a) := (ho1.mono (base' := W.heap.size) (Nat.le_refl _)).kp gh
    have O2 : Own wh W.heap.size (.slice q2 k2 d2) (dig b) := ho2.mono (base' := W.heap.size) (Below.size kl)
    exact bodyPost_ret (v := .agg #[.bool false, .slice p2 l2 c2, .slice q2 k2 d2]) (by simp [results, Tryz.results59, go_sem, R0, R1, R2]) rfl ⟨p2, l2, c2, q2, k2, d2, rfl, (((O1.setOther (a := ⟨w.heap.size + 1, 0, none⟩) hBW _).setOther (a := ⟨w.heap.size + 1, 1, none⟩) hBW _).setOther (a := ⟨w.heap.size + 1, 2, none⟩) hBW _).mono hle, (((O2.setOther (a := ⟨w.heap.size + 1, 0, none⟩) hBW _).setOther (a := ⟨w.heap.size + 1, 1, none⟩) hBW _).setOther (a := ⟨w.heap.size + 1, 2, none⟩) hBW _).mono hle, ((((Kp.trans kw kh)).setCell (by simp) _).setCell (by simp) _).setCell (by simp) _⟩)
set_option maxRecDepth 20000 in
set_option maxHeartbeats 1000000 in
theorem rnegP_ (p : Option Addr) (l c : Nat) (q : Option Addr) (k d : Nat) (a b : Nat) (w : World) (h1 : Own w 0 (.slice p l c) (dig a)) (h2 : Own w 0 (.slice q k d) (dig b)) (la : blen a ≤ 1500) (lb : blen b ≤ 1500) (t1 : 0 < l) : Calls Tryz.prog 59 #[.agg #[.bool false, .slice p l c, .slice q k d]] w fun e w' => ∃ (p2 : Option Addr) (l2 c2 : Nat) (q2 : Option Addr) (k2 d2 : Nat), e = .returned (.agg #[.bool true, .slice p2 l2 c2, .slice q2 k2 d2]) ∧ Own w' w.heap.size (.slice p2 l2 c2) (dig a) ∧ Own w' w.heap.size (.slice q2 k2 d2) (dig b) ∧ Kp w w' := by
  have nrm : ∀ (pp : Option Addr) (ll cc : Nat) (x : Nat), Own w 0 (.slice pp ll cc) (dig x) → blen x ≤ 1500 → ∀ W : World, Kp w W → Calls Tryz.prog 96 #[.slice pp ll cc] W fun e w' => ∃ (p2 : Option Addr) (l2 c2 : Nat), e = .returned (.slice p2 l2 c2) ∧ Own w' W.heap.size (.slice p2 l2 c2) (dig x) ∧ Kp W w' := by
    intro pp ll cc x h hx W g
    have hl : (dig x).length ≤ 1048576 := Nat.le_trans (show len32 x ≤ 4000 from dlen x 4000 (by omega)) (by decide)
    have h := normO (.slice pp ll cc) (dig x) W (h.kp g).ls (Wd_dig _) hl
    rw [val_dig] at h
    refine h.mono ?_
    rintro e w' ⟨v', rfl, o1, g2⟩
    obtain ⟨p2, c2, rfl, -, -⟩ := o1.arr
    exact ⟨p2, _, c2, rfl, o1, g2⟩
  have hs1 := nrm p l c a h1 la
  have hs2 := nrm q k d b h2 lb
  clear nrm h1 h2 la lb
  go_enter Tryz.func59, Tryz.ntmps59
  go_wp2
  generalize hW : ((w.alloc (.cells #[.bool false, .slice p l c, .slice q k d] 42)).alloc (.cells #[.bool false, .slice none 0 0, .slice none 0 0] 42)) = W
  have kw : Kp w W := by rw [← hW]; exact ((Kp.refl w).alloc _).alloc _
  have xw0 : W.cell? ⟨w.heap.size, 0, none⟩ = some (.bool false) := by rw [← hW]; simp [go_sem]
  have dw0 : W.drew.cell? ⟨w.heap.size, 0, none⟩ = some (.bool false) := xw0
  have xw1 : W.cell? ⟨w.heap.size, 1, none⟩ = some (.slice p l c) := by rw [← hW]; simp [go_sem]
  have dw1 : W.drew.cell? ⟨w.heap.size, 1, none⟩ = some (.slice p l c) := xw1
  have xw2 : W.cell? ⟨w.heap.size, 2, none⟩ = some (.slice q k d) := by rw [← hW]; simp [go_sem]
  have dw2 : W.drew.cell? ⟨w.heap.size, 2, none⟩ = some (.slice q k d) := xw2
  have r0 : W.cell? ⟨w.heap.size + 1, 0, none⟩ = some (.bool false) := by rw [← hW]; simp [go_sem]
  have rz0 : W.frozen? ⟨w.heap.size + 1, 0, none⟩ = false := by rw [← hW]; simp [go_sem]
  have r1 : W.cell? ⟨w.heap.size + 1, 1, none⟩ = some (.slice none 0 0) := by rw [← hW]; simp [go_sem]
  have rz1 : W.frozen? ⟨w.heap.size + 1, 1, none⟩ = false := by rw [← hW]; simp [go_sem]
  have r2 : W.cell? ⟨w.heap.size + 1, 2, none⟩ = some (.slice none 0 0) := by rw [← hW]; simp [go_sem]
  have rz2 : W.frozen? ⟨w.heap.size + 1, 2, none⟩ = false := by rw [← hW]; simp [go_sem]
  have hBW : w.heap.size + 1 < W.heap.size := cell_lt r0
  have hn1 : w.heap.size + 1 ≠ w.heap.size := by omega
  clear hW
  go_region_held3 (fun w' => w'.cell? ⟨w.heap.size, 0, none⟩ = some (.bool false) ∧ w'.cell? ⟨w.heap.size, 1, none⟩ = some (.slice p l c) ∧ w'.cell? ⟨w.heap.size, 2, none⟩ = some (.slice q k d)) (first | (with_reducible exact ⟨xw0, xw1, xw2⟩) | (with_reducible exact ⟨dw0, dw1, dw2⟩) | (with_reducible exact ⟨aw0, aw1, aw2⟩) | (with_reducible exact ⟨bw0, bw1, bw2⟩) | (exact ⟨((World.cell?_setCell_far _ _ _ _ hn1).trans ((World.cell?_setCell_far _ _ _ _ hn1).trans ((World.cell?_setCell_far _ _ _ _ hn1).trans bw0))), ((World.cell?_setCell_far _ _ _ _ hn1).trans ((World.cell?_setCell_far _ _ _ _ hn1).trans ((World.cell?_setCell_far _ _ _ _ hn1).trans bw1))), ((World.cell?_setCell_far _ _ _ _ hn1).trans ((World.cell?_setCell_far _ _ _ _ hn1).trans ((World.cell?_setCell_far _ _ _ _ hn1).trans bw2)))⟩)) (first | (go_at_call_of 96 (Value.slice p l c); refine (hs1 _ ?q0).mono ?_; (case q0 => exact kw.drew); rintro e wl ⟨p2, l2, c2, rfl, ho1, gl⟩; have kl : Kp W wl := Kp.trans (Kp.drew (Kp.refl _)) gl; have aw0 := kkeep kl xw0; have aw1 := kkeep kl xw1; have aw2 := kkeep kl xw2) | (go_at_call_of 96 (Value.slice q k d); refine (hs2 _ ?q0).mono ?_; (case q0 => exact kw.trans kl); rintro e wh ⟨q2, k2, d2, rfl, ho2, gh⟩; have kh : Kp W wh := Kp.trans kl gh; have bw0 := kkeep kh xw0; have bw1 := kkeep kh xw1; have bw2 := kkeep kh xw2; have R0 := kkeep kh r0; have Rz0 : wh.frozen? ⟨w.heap.size + 1, 0, none⟩ = false := (kfro kh (cell_lt r0)).trans rz0; have R1 := kkeep kh r1; have Rz1 : wh.frozen? ⟨w.heap.size + 1, 1, none⟩ = false := (kfro kh (cell_lt r1)).trans rz1; have R2 := kkeep kh r2; have Rz2 : wh.frozen? ⟨w.heap.size + 1, 2, none⟩ = false := (kfro kh (cell_lt r2)).trans rz2))
  all_goals go_wp2
  all_goals (
    have hle : w.heap.size ≤ W.heap.size := by omega
    have O1 : Own wh W.heap.size (.slice p2 l2 c2) (dig a) := (ho1.mono (base' := W.heap.size) (Nat.le_refl _)).kp gh
    have O2 : Own wh W.heap.size (.slice q2 k2 d2) (dig b) := ho2.mono (base' := W.heap.size) (Below.size kl)
    exact bodyPost_ret (v := .agg #[.bool true, .slice p2 l2 c2, .slice q2 k2 d2]) (by simp [results, Tryz.results59, go_sem, R0, R1, R2]) rfl ⟨p2, l2, c2, q2, k2, d2, rfl, (((O1.setOther (a := ⟨w.heap.size + 1, 0, none⟩) hBW _).setOther (a := ⟨w.heap.size + 1, 1, none⟩) hBW _).setOther (a := ⟨w.heap.size + 1, 2, none⟩) hBW _).mono hle, (((O2.setOther (a := ⟨w.heap.size + 1, 0, none⟩) hBW _).setOther (a := ⟨w.heap.size + 1, 1, none⟩) hBW _).setOther (a := ⟨w.heap.size + 1, 2, none⟩) hBW _).mono hle, ((((Kp.trans kw kh)).setCell (by simp) _).setCell (by simp) _).setCell (by simp) _⟩)
set_option maxRecDepth 20000 in
set_option maxHeartbeats 1000000 in
theorem rnegZ_ (p : Option Addr) (l c : Nat) (q : Option Addr) (k d : Nat) (a b : Nat) (w : World) (h1 : Own w 0 (.slice p l c) (dig a)) (h2 : Own w 0 (.slice q k d) (dig b)) (la : blen a ≤ 1500) (lb : blen b ≤ 1500) (t1 : ¬ (0 < l)) : Calls Tryz.prog 59 #[.agg #[.bool false, .slice p l c, .slice q k d]] w fun e w' => ∃ (p2 : Option Addr) (l2 c2 : Nat) (q2 : Option Addr) (k2 d2 : Nat), e = .returned (.agg #[.bool false, .slice p2 l2 c2, .slice q2 k2 d2]) ∧ Own w' w.heap.size (.slice p2 l2 c2) (dig a) ∧ Own w' w.heap.size (.slice q2 k2 d2) (dig b) ∧ Kp w w' := by
  have nrm : ∀ (pp : Option Addr) (ll cc : Nat) (x : Nat), Own w 0 (.slice pp ll cc) (dig x) → blen x ≤ 1500 → ∀ W : World, Kp w W → Calls Tryz.prog 96 #[.slice pp ll cc] W fun e w' => ∃ (p2 : Option Addr) (l2 c2 : Nat), e = .returned (.slice p2 l2 c2) ∧ Own w' W.heap.size (.slice p2 l2 c2) (dig x) ∧ Kp W w' := by
    intro pp ll cc x h hx W g
    have hl : (dig x).length ≤ 1048576 := Nat.le_trans (show len32 x ≤ 4000 from dlen x 4000 (by omega)) (by decide)
    have h := normO (.slice pp ll cc) (dig x) W (h.kp g).ls (Wd_dig _) hl
    rw [val_dig] at h
    refine h.mono ?_
    rintro e w' ⟨v', rfl, o1, g2⟩
    obtain ⟨p2, c2, rfl, -, -⟩ := o1.arr
    exact ⟨p2, _, c2, rfl, o1, g2⟩
  have hs1 := nrm p l c a h1 la
  have hs2 := nrm q k d b h2 lb
  clear nrm h1 h2 la lb
  go_enter Tryz.func59, Tryz.ntmps59
  go_wp2
  generalize hW : ((w.alloc (.cells #[.bool false, .slice p l c, .slice q k d] 42)).alloc (.cells #[.bool false, .slice none 0 0, .slice none 0 0] 42)) = W
  have kw : Kp w W := by rw [← hW]; exact ((Kp.refl w).alloc _).alloc _
  have xw0 : W.cell? ⟨w.heap.size, 0, none⟩ = some (.bool false) := by rw [← hW]; simp [go_sem]
  have dw0 : W.drew.cell? ⟨w.heap.size, 0, none⟩ = some (.bool false) := xw0
  have xw1 : W.cell? ⟨w.heap.size, 1, none⟩ = some (.slice p l c) := by rw [← hW]; simp [go_sem]
  have dw1 : W.drew.cell? ⟨w.heap.size, 1, none⟩ = some (.slice p l c) := xw1
  have xw2 : W.cell? ⟨w.heap.size, 2, none⟩ = some (.slice q k d) := by rw [← hW]; simp [go_sem]
  have dw2 : W.drew.cell? ⟨w.heap.size, 2, none⟩ = some (.slice q k d) := xw2
  have r0 : W.cell? ⟨w.heap.size + 1, 0, none⟩ = some (.bool false) := by rw [← hW]; simp [go_sem]
  have rz0 : W.frozen? ⟨w.heap.size + 1, 0, none⟩ = false := by rw [← hW]; simp [go_sem]
  have r1 : W.cell? ⟨w.heap.size + 1, 1, none⟩ = some (.slice none 0 0) := by rw [← hW]; simp [go_sem]
  have rz1 : W.frozen? ⟨w.heap.size + 1, 1, none⟩ = false := by rw [← hW]; simp [go_sem]
  have r2 : W.cell? ⟨w.heap.size + 1, 2, none⟩ = some (.slice none 0 0) := by rw [← hW]; simp [go_sem]
  have rz2 : W.frozen? ⟨w.heap.size + 1, 2, none⟩ = false := by rw [← hW]; simp [go_sem]
  have hBW : w.heap.size + 1 < W.heap.size := cell_lt r0
  have hn1 : w.heap.size + 1 ≠ w.heap.size := by omega
  clear hW
  go_region_held3 (fun w' => w'.cell? ⟨w.heap.size, 0, none⟩ = some (.bool false) ∧ w'.cell? ⟨w.heap.size, 1, none⟩ = some (.slice p l c) ∧ w'.cell? ⟨w.heap.size, 2, none⟩ = some (.slice q k d)) (first | (with_reducible exact ⟨xw0, xw1, xw2⟩) | (with_reducible exact ⟨dw0, dw1, dw2⟩) | (with_reducible exact ⟨aw0, aw1, aw2⟩) | (with_reducible exact ⟨bw0, bw1, bw2⟩) | (exact ⟨((World.cell?_setCell_far _ _ _ _ hn1).trans ((World.cell?_setCell_far _ _ _ _ hn1).trans ((World.cell?_setCell_far _ _ _ _ hn1).trans bw0))), ((World.cell?_setCell_far _ _ _ _ hn1).trans ((World.cell?_setCell_far _ _ _ _ hn1).trans ((World.cell?_setCell_far _ _ _ _ hn1).trans bw1))), ((World.cell?_setCell_far _ _ _ _ hn1).trans ((World.cell?_setCell_far _ _ _ _ hn1).trans ((World.cell?_setCell_far _ _ _ _ hn1).trans bw2)))⟩)) (first | (go_at_call_of 96 (Value.slice p l c); refine (hs1 _ ?q0).mono ?_; (case q0 => exact kw.drew); rintro e wl ⟨p2, l2, c2, rfl, ho1, gl⟩; have kl : Kp W wl := Kp.trans (Kp.drew (Kp.refl _)) gl; have aw0 := kkeep kl xw0; have aw1 := kkeep kl xw1; have aw2 := kkeep kl xw2) | (go_at_call_of 96 (Value.slice q k d); refine (hs2 _ ?q0).mono ?_; (case q0 => exact kw.trans kl); rintro e wh ⟨q2, k2, d2, rfl, ho2, gh⟩; have kh : Kp W wh := Kp.trans kl gh; have bw0 := kkeep kh xw0; have bw1 := kkeep kh xw1; have bw2 := kkeep kh xw2; have R0 := kkeep kh r0; have Rz0 : wh.frozen? ⟨w.heap.size + 1, 0, none⟩ = false := (kfro kh (cell_lt r0)).trans rz0; have R1 := kkeep kh r1; have Rz1 : wh.frozen? ⟨w.heap.size + 1, 1, none⟩ = false := (kfro kh (cell_lt r1)).trans rz1; have R2 := kkeep kh r2; have Rz2 : wh.frozen? ⟨w.heap.size + 1, 2, none⟩ = false := (kfro kh (cell_lt r2)).trans rz2))
  all_goals go_wp2
  all_goals (
    have hle : w.heap.size ≤ W.heap.size := by omega
    have O1 : Own wh W.heap.size (.slice p2 l2 c2) (dig a) := (ho1.mono (base' := W.heap.size) (Nat.le_refl _)).kp gh
    have O2 : Own wh W.heap.size (.slice q2 k2 d2) (dig b) := ho2.mono (base' := W.heap.size) (Below.size kl)
    exact bodyPost_ret (v := .agg #[.bool false, .slice p2 l2 c2, .slice q2 k2 d2]) (by simp [results, Tryz.results59, go_sem, R0, R1, R2]) rfl ⟨p2, l2, c2, q2, k2, d2, rfl, (((O1.setOther (a := ⟨w.heap.size + 1, 0, none⟩) hBW _).setOther (a := ⟨w.heap.size + 1, 1, none⟩) hBW _).setOther (a := ⟨w.heap.size + 1, 2, none⟩) hBW _).mono hle, (((O2.setOther (a := ⟨w.heap.size + 1, 0, none⟩) hBW _).setOther (a := ⟨w.heap.size + 1, 1, none⟩) hBW _).setOther (a := ⟨w.heap.size + 1, 2, none⟩) hBW _).mono hle, ((((Kp.trans kw kh)).setCell (by simp) _).setCell (by simp) _).setCell (by simp) _⟩)

theorem RP.zero {base : Nat} {w : World} {s : Bool} {p : Option Addr} {l c : Nat} {q : Option Addr} {k d : Nat} {n : Bool} (n' : Bool) (h : RP base w s p l c q k d n 0) : RP base w s p l c q k d n' 0 := by
  obtain ⟨a, b, h1, h2, h3⟩ := h
  refine ⟨a, b, h1, h2, fun K hK => ?_⟩
  obtain ⟨f1, f2, f3, f4, f5⟩ := h3 K hK
  refine ⟨f1, f2, ?_, f4, f5⟩
  unfold Iv; rw [Fq.vV_zero]; cases n' <;> cases s <;> rfl
theorem rneg6_ (n : Bool) (m : Nat) (s : Bool) (p : Option Addr) (l c : Nat) (q : Option Addr) (k d : Nat) (B1 : Nat) (w : World) (h : RP B1 w s p l c q k d n m) : Calls Tryz.prog 59 #[.agg #[.bool s, .slice p l c, .slice q k d]] w fun e w' => ∃ (s2 : Bool) (p2 : Option Addr) (l2 c2 : Nat) (q2 : Option Addr) (k2 d2 : Nat), e = .returned (.agg #[.bool s2, .slice p2 l2 c2, .slice q2 k2 d2]) ∧ RP w.heap.size w' s2 p2 l2 c2 q2 k2 d2 (!n) m ∧ Kp w w' := by
  obtain ⟨a, b, u1, u2, u3⟩ := h
  have hl : l = (dig a).length := by
    obtain ⟨P1, C1, e1, -, -⟩ := u1.arr
    injection e1
  have key : ∀ (s2 : Bool), (a ≠ 0 → s2 = !s) → RF s2 a b (!n) m := by
    intro s2 hs K hK
    obtain ⟨f1, f2, f3, f4, f5⟩ := u3 K hK
    refine ⟨f1, f2, ?_, f4, f5⟩
    have hv : Iv (!n) m = - Iv n m := by unfold Iv; cases n <;> simp
    rw [hv, f3]
    by_cases c0 : a = 0
    · have hz : Fq.vV Ieee.double m = 0 := by
        rw [c0, Nat.zero_mul] at f2
        rcases Nat.mul_eq_zero.1 f2.symm with h | h
        · exact h
        · exact absurd h f1
      rw [hz]; cases s <;> cases s2 <;> rfl
    · rw [hs c0]; cases s <;> simp
  have hf := u3 1074 rfl
  have hl0 : a ≠ 0 → 0 < l := fun h0 => by
    rw [hl]
    rcases Nat.eq_zero_or_pos (dig a).length with z | z
    · have := List.eq_nil_of_length_eq_zero z
      have e := val_dig a
      rw [this] at e
      exact absurd e.symm h0
    · exact z
  have u1 := u1.mono (Nat.zero_le B1)
  have u2 := u2.mono (Nat.zero_le B1)
  cases s
  · by_cases t1 : 0 < l
    · refine (rnegP_ p l c q k d a b w u1 u2 hf.2.2.2.1 hf.2.2.2.2 t1).mono ?_
      rintro e w' ⟨p2, l2, c2, q2, k2, d2, rfl, o1, o2, g⟩
      exact ⟨true, p2, l2, c2, q2, k2, d2, rfl, ⟨a, b, o1, o2, key true (fun _ => rfl)⟩, g⟩
    · refine (rnegZ_ p l c q k d a b w u1 u2 hf.2.2.2.1 hf.2.2.2.2 t1).mono ?_
      rintro e w' ⟨p2, l2, c2, q2, k2, d2, rfl, o1, o2, g⟩
      exact ⟨false, p2, l2, c2, q2, k2, d2, rfl, ⟨a, b, o1, o2, key false (fun h0 => absurd (hl0 h0) t1)⟩, g⟩
  · refine (rnegT_ p l c q k d a b w u1 u2 hf.2.2.2.1 hf.2.2.2.2).mono ?_
    rintro e w' ⟨p2, l2, c2, q2, k2, d2, rfl, o1, o2, g⟩
    exact ⟨false, p2, l2, c2, q2, k2, d2, rfl, ⟨a, b, o1, o2, key false (fun _ => rfl)⟩, g⟩
set_option maxRecDepth 20000 in
set_option maxHeartbeats 1000000 in
theorem turnZ_ (N : Bool) (M : Nat) (s : Bool) (p : Option Addr) (l c : Nat) (q : Option Addr) (k d : Nat) (w : World) (hs : ∀ W : World, Kp w W → Calls Tryz.prog 59 #[.agg #[.bool s, .slice p l c, .slice q k d]] W fun e w' => ∃ (s2 : Bool) (p2 : Option Addr) (l2 c2 : Nat) (q2 : Option Addr) (k2 d2 : Nat), e = .returned (.agg #[.bool s2, .slice p2 l2 c2, .slice q2 k2 d2]) ∧ RP W.heap.size w' s2 p2 l2 c2 q2 k2 d2 N M ∧ Kp W w') : Calls Tryz.prog 40 #[.agg #[.int .i64 0, .bool s, .slice p l c, .slice q k d]] w fun e w' => ∃ (s2 : Bool) (p2 : Option Addr) (l2 c2 : Nat) (q2 : Option Addr) (k2 d2 : Nat), e = .returned (.agg #[.int .i64 0, .bool s2, .slice p2 l2 c2, .slice q2 k2 d2]) ∧ RP w.heap.size w' s2 p2 l2 c2 q2 k2 d2 N M ∧ Kp w w' := by
  go_enter Tryz.func40, Tryz.ntmps40
  go_wp2
  generalize hW : ((w.alloc (.cells #[.int .i64 0, .bool s, .slice p l c, .slice q k d] 44)).alloc (.cells #[.int .i64 0, .bool false, .slice none 0 0, .slice none 0 0] 44)) = W
  have kw : Kp w W := by rw [← hW]; exact ((Kp.refl w).alloc _).alloc _
  have xw0 : W.cell? ⟨w.heap.size, 0, none⟩ = some (.int .i64 0) := by rw [← hW]; simp [go_sem]
  have dw0 : W.drew.cell? ⟨w.heap.size, 0, none⟩ = some (.int .i64 0) := xw0
  have xw1 : W.cell? ⟨w.heap.size, 1, none⟩ = some (.bool s) := by rw [← hW]; simp [go_sem]
  have dw1 : W.drew.cell? ⟨w.heap.size, 1, none⟩ = some (.bool s) := xw1
  have xw2 : W.cell? ⟨w.heap.size, 2, none⟩ = some (.slice p l c) := by rw [← hW]; simp [go_sem]
  have dw2 : W.drew.cell? ⟨w.heap.size, 2, none⟩ = some (.slice p l c) := xw2
  have xw3 : W.cell? ⟨w.heap.size, 3, none⟩ = some (.slice q k d) := by rw [← hW]; simp [go_sem]
  have dw3 : W.drew.cell? ⟨w.heap.size, 3, none⟩ = some (.slice q k d) := xw3
  have r0 : W.cell? ⟨w.heap.size + 1, 0, none⟩ = some (.int .i64 0) := by rw [← hW]; simp [go_sem]
  have rz0 : W.frozen? ⟨w.heap.size + 1, 0, none⟩ = false := by rw [← hW]; simp [go_sem]
  have r1 : W.cell? ⟨w.heap.size + 1, 1, none⟩ = some (.bool false) := by rw [← hW]; simp [go_sem]
  have rz1 : W.frozen? ⟨w.heap.size + 1, 1, none⟩ = false := by rw [← hW]; simp [go_sem]
  have r2 : W.cell? ⟨w.heap.size + 1, 2, none⟩ = some (.slice none 0 0) := by rw [← hW]; simp [go_sem]
  have rz2 : W.frozen? ⟨w.heap.size + 1, 2, none⟩ = false := by rw [← hW]; simp [go_sem]
  have r3 : W.cell? ⟨w.heap.size + 1, 3, none⟩ = some (.slice none 0 0) := by rw [← hW]; simp [go_sem]
  have rz3 : W.frozen? ⟨w.heap.size + 1, 3, none⟩ = false := by rw [← hW]; simp [go_sem]
  have hBW : w.heap.size + 1 < W.heap.size := cell_lt r0
  have hn1 : w.heap.size + 1 ≠ w.heap.size := by omega
  clear hW
  go_region_held3 (fun w' => w'.cell? ⟨w.heap.size, 0, none⟩ = some (.int .i64 0) ∧ w'.cell? ⟨w.heap.size, 1, none⟩ = some (.bool s) ∧ w'.cell? ⟨w.heap.size, 2, none⟩ = some (.slice p l c) ∧ w'.cell? ⟨w.heap.size, 3, none⟩ = some (.slice q k d)) (first | (with_reducible exact ⟨xw0, xw1, xw2, xw3⟩) | (with_reducible exact ⟨dw0, dw1, dw2, dw3⟩) | (with_reducible exact ⟨aw0, aw1, aw2, aw3⟩) | (exact ⟨((World.cell?_setCell_far _ _ _ _ hn1).trans ((World.cell?_setCell_far _ _ _ _ hn1).trans ((World.cell?_setCell_far _ _ _ _ hn1).trans ((World.cell?_setCell_far _ _ _ _ hn1).trans aw0)))), ((World.cell?_setCell_far _ _ _ _ hn1).trans ((World.cell?_setCell_far _ _ _ _ hn1).trans ((World.cell?_setCell_far _ _ _ _ hn1).trans ((World.cell?_setCell_far _ _ _ _ hn1).trans aw1)))), ((World.cell?_setCell_far _ _ _ _ hn1).trans ((World.cell?_setCell_far _ _ _ _ hn1).trans ((World.cell?_setCell_far _ _ _ _ hn1).trans ((World.cell?_setCell_far _ _ _ _ hn1).trans aw2)))), ((World.cell?_setCell_far _ _ _ _ hn1).trans ((World.cell?_setCell_far _ _ _ _ hn1).trans ((World.cell?_setCell_far _ _ _ _ hn1).trans ((World.cell?_setCell_far _ _ _ _ hn1).trans aw3))))⟩)) (first | (go_at_call 59; refine (hs _ ?q0).mono ?_; (case q0 => exact kw.drew); rintro e wl ⟨s2, p2, l2, c2, q2, k2, d2, rfl, hp, gl⟩; have kl : Kp W wl := Kp.trans (Kp.drew (Kp.refl _)) gl; have aw0 := kkeep kl xw0; have aw1 := kkeep kl xw1; have aw2 := kkeep kl xw2; have aw3 := kkeep kl xw3; have R0 := kkeep kl r0; have Rz0 : wl.frozen? ⟨w.heap.size + 1, 0, none⟩ = false := (kfro kl (cell_lt r0)).trans rz0; have R1 := kkeep kl r1; have Rz1 : wl.frozen? ⟨w.heap.size + 1, 1, none⟩ = false := (kfro kl (cell_lt r1)).trans rz1; have R2 := kkeep kl r2; have Rz2 : wl.frozen? ⟨w.heap.size + 1, 2, none⟩ = false := (kfro kl (cell_lt r2)).trans rz2; have R3 := kkeep kl r3; have Rz3 : wl.frozen? ⟨w.heap.size + 1, 3, none⟩ = false := (kfro kl (cell_lt r3)).trans rz3))
  go_wp2
  have hle : w.heap.size ≤ W.heap.size := by omega
  exact bodyPost_ret (v := .agg #[.int .i64 0, .bool s2, .slice p2 l2 c2, .slice q2 k2 d2]) (by simp [results, Tryz.results40, go_sem, R0, R1, R2, R3] <;> decide +kernel) rfl ⟨s2, p2, l2, c2, q2, k2, d2, rfl, RP.mono ((((((hp.mono (base' := W.heap.size) (Nat.le_refl _))).set (x := ⟨w.heap.size + 1, 0, none⟩) hBW (.int .i64 0)).set (x := ⟨w.heap.size + 1, 1, none⟩) hBW (.bool s2)).set (x := ⟨w.heap.size + 1, 2, none⟩) hBW (.slice p2 l2 c2)).set (x := ⟨w.heap.size + 1, 3, none⟩) hBW (.slice q2 k2 d2)) hle, (((((Kp.trans kw kl)).setCell (by simp) _).setCell (by simp) _).setCell (by simp) _).setCell (by simp) _⟩
set_option maxRecDepth 20000 in
set_option maxHeartbeats 1000000 in
theorem turnP_ (N : Bool) (M : Nat) (s : Bool) (p : Option Addr) (l c : Nat) (q : Option Addr) (k d : Nat) (w : World) (hs : ∀ W : World, Kp w W → Calls Tryz.prog 59 #[.agg #[.bool s, .slice p l c, .slice q k d]] W fun e w' => ∃ (s2 : Bool) (p2 : Option Addr) (l2 c2 : Nat) (q2 : Option Addr) (k2 d2 : Nat), e = .returned (.agg #[.bool s2, .slice p2 l2 c2, .slice q2 k2 d2]) ∧ RP W.heap.size w' s2 p2 l2 c2 q2 k2 d2 N M ∧ Kp W w') : Calls Tryz.prog 40 #[.agg #[.int .i64 1, .bool s, .slice p l c, .slice q k d]] w fun e w' => ∃ (s2 : Bool) (p2 : Option Addr) (l2 c2 : Nat) (q2 : Option Addr) (k2 d2 : Nat), e = .returned (.agg #[.int .i64 (-1), .bool s2, .slice p2 l2 c2, .slice q2 k2 d2]) ∧ RP w.heap.size w' s2 p2 l2 c2 q2 k2 d2 N M ∧ Kp w w' := by
  go_enter Tryz.func40, Tryz.ntmps40
  go_wp2
  generalize hW : ((w.alloc (.cells #[.int .i64 1, .bool s, .slice p l c, .slice q k d] 44)).alloc (.cells #[.int .i64 0, .bool false, .slice none 0 0, .slice none 0 0] 44)) = W
  have kw : Kp w W := by rw [← hW]; exact ((Kp.refl w).alloc _).alloc _
  have xw0 : W.cell? ⟨w.heap.size, 0, none⟩ = some (.int .i64 1) := by rw [← hW]; simp [go_sem]
  have dw0 : W.drew.cell? ⟨w.heap.size, 0, none⟩ = some (.int .i64 1) := xw0
  have xw1 : W.cell? ⟨w.heap.size, 1, none⟩ = some (.bool s) := by rw [← hW]; simp [go_sem]
  have dw1 : W.drew.cell? ⟨w.heap.size, 1, none⟩ = some (.bool s) := xw1
  have xw2 : W.cell? ⟨w.heap.size, 2, none⟩ = some (.slice p l c) := by rw [← hW]; simp [go_sem]
  have dw2 : W.drew.cell? ⟨w.heap.size, 2, none⟩ = some (.slice p l c) := xw2
  have xw3 : W.cell? ⟨w.heap.size, 3, none⟩ = some (.slice q k d) := by rw [← hW]; simp [go_sem]
  have dw3 : W.drew.cell? ⟨w.heap.size, 3, none⟩ = some (.slice q k d) := xw3
  have r0 : W.cell? ⟨w.heap.size + 1, 0, none⟩ = some (.int .i64 0) := by rw [← hW]; simp [go_sem]
  have rz0 : W.frozen? ⟨w.heap.size + 1, 0, none⟩ = false := by rw [← hW]; simp [go_sem]
  have r1 : W.cell? ⟨w.heap.size + 1, 1, none⟩ = some (.bool false) := by rw [← hW]; simp [go_sem]
  have rz1 : W.frozen? ⟨w.heap.size + 1, 1, none⟩ = false := by rw [← hW]; simp [go_sem]
  have r2 : W.cell? ⟨w.heap.size + 1, 2, none⟩ = some (.slice none 0 0) := by rw [← hW]; simp [go_sem]
  have rz2 : W.frozen? ⟨w.heap.size + 1, 2, none⟩ = false := by rw [← hW]; simp [go_sem]
  have r3 : W.cell? ⟨w.heap.size + 1, 3, none⟩ = some (.slice none 0 0) := by rw [← hW]; simp [go_sem]
  have rz3 : W.frozen? ⟨w.heap.size + 1, 3, none⟩ = false := by rw [← hW]; simp [go_sem]
  have hBW : w.heap.size + 1 < W.heap.size := cell_lt r0
  have hn1 : w.heap.size + 1 ≠ w.heap.size := by omega
  clear hW
  go_region_held3 (fun w' => w'.cell? ⟨w.heap.size, 0, none⟩ = some (.int .i64 1) ∧ w'.cell? ⟨w.heap.size, 1, none⟩ = some (.bool s) ∧ w'.cell? ⟨w.heap.size, 2, none⟩ = some (.slice p l c) ∧ w'.cell? ⟨w.heap.size, 3, none⟩ = some (.slice q k d)) (first | (with_reducible exact ⟨xw0, xw1, xw2, xw3⟩) | (with_reducible exact ⟨dw0, dw1, dw2, dw3⟩) | (with_reducible exact ⟨aw0, aw1, aw2, aw3⟩) | (exact ⟨((World.cell?_setCell_far _ _ _ _ hn1).trans ((World.cell?_setCell_far _ _ _ _ hn1).trans ((World.cell?_setCell_far _ _ _ _ hn1).trans ((World.cell?_setCell_far _ _ _ _ hn1).trans aw0)))), ((World.cell?_setCell_far _ _ _ _ hn1).trans ((World.cell?_setCell_far _ _ _ _ hn1).trans ((World.cell?_setCell_far _ _ _ _ hn1).trans ((World.cell?_setCell_far _ _ _ _ hn1).trans aw1)))), ((World.cell?_setCell_far _ _ _ _ hn1).trans ((World.cell?_setCell_far _ _ _ _ hn1).trans ((World.cell?_setCell_far _ _ _ _ hn1).trans ((World.cell?_setCell_far _ _ _ _ hn1).trans aw2)))), ((World.cell?_setCell_far _ _ _ _ hn1).trans ((World.cell?_setCell_far _ _ _ _ hn1).trans ((World.cell?_setCell_far _ _ _ _ hn1).trans ((World.cell?_setCell_far _ _ _ _ hn1).trans aw3))))⟩)) (first | (go_at_call 59; refine (hs _ ?q0).mono ?_; (case q0 => exact kw.drew); rintro e wl ⟨s2, p2, l2, c2, q2, k2, d2, rfl, hp, gl⟩; have kl : Kp W wl := Kp.trans (Kp.drew (Kp.refl _)) gl; have aw0 := kkeep kl xw0; have aw1 := kkeep kl xw1; have aw2 := kkeep kl xw2; have aw3 := kkeep kl xw3; have R0 := kkeep kl r0; have Rz0 : wl.frozen? ⟨w.heap.size + 1, 0, none⟩ = false := (kfro kl (cell_lt r0)).trans rz0; have R1 := kkeep kl r1; have Rz1 : wl.frozen? ⟨w.heap.size + 1, 1, none⟩ = false := (kfro kl (cell_lt r1)).trans rz1; have R2 := kkeep kl r2; have Rz2 : wl.frozen? ⟨w.heap.size + 1, 2, none⟩ = false := (kfro kl (cell_lt r2)).trans rz2; have R3 := kkeep kl r3; have Rz3 : wl.frozen? ⟨w.heap.size + 1, 3, none⟩ = false := (kfro kl (cell_lt r3)).trans rz3))
  go_wp2
  have hle : w.heap.size ≤ W.heap.size := by omega
  exact bodyPost_ret (v := .agg #[.int .i64 (-1), .bool s2, .slice p2 l2 c2, .slice q2 k2 d2]) (by simp [results, Tryz.results40, go_sem, R0, R1, R2, R3] <;> decide +kernel) rfl ⟨s2, p2, l2, c2, q2, k2, d2, rfl, RP.mono ((((((hp.mono (base' := W.heap.size) (Nat.le_refl _))).set (x := ⟨w.heap.size + 1, 0, none⟩) hBW (.int .i64 (-1))).set (x := ⟨w.heap.size + 1, 1, none⟩) hBW (.bool s2)).set (x := ⟨w.heap.size + 1, 2, none⟩) hBW (.slice p2 l2 c2)).set (x := ⟨w.heap.size + 1, 3, none⟩) hBW (.slice q2 k2 d2)) hle, (((((Kp.trans kw kl)).setCell (by simp) _).setCell (by simp) _).setCell (by simp) _).setCell (by simp) _⟩
set_option maxRecDepth 20000 in
set_option maxHeartbeats 1000000 in
theorem turnM_ (N : Bool) (M : Nat) (s : Bool) (p : Option Addr) (l c : Nat) (q : Option Addr) (k d : Nat) (w : World) (hs : ∀ W : World, Kp w W → Calls Tryz.prog 59 #[.agg #[.bool s, .slice p l c, .slice q k d]] W fun e w' => ∃ (s2 : Bool) (p2 : Option Addr) (l2 c2 : Nat) (q2 : Option Addr) (k2 d2 : Nat), e = .returned (.agg #[.bool s2, .slice p2 l2 c2, .slice q2 k2 d2]) ∧ RP W.heap.size w' s2 p2 l2 c2 q2 k2 d2 N M ∧ Kp W w') : Calls Tryz.prog 40 #[.agg #[.int .i64 (-1), .bool s, .slice p l c, .slice q k d]] w fun e w' => ∃ (s2 : Bool) (p2 : Option Addr) (l2 c2 : Nat) (q2 : Option Addr) (k2 d2 : Nat), e = .returned (.agg #[.int .i64 1, .bool s2, .slice p2 l2 c2, .slice q2 k2 d2]) ∧ RP w.heap.size w' s2 p2 l2 c2 q2 k2 d2 N M ∧ Kp w w' := by
  go_enter Tryz.func40, Tryz.ntmps40
  go_wp2
  generalize hW : ((w.alloc (.cells #[.int .i64 (-1), .bool s, .slice p l c, .slice q k d] 44)).alloc (.cells #[.int .i64 0, .bool false, .slice none 0 0, .slice none 0 0] 44)) = W
  have kw : Kp w W := by rw [← hW]; exact ((Kp.refl w).alloc _).alloc _
  have xw0 : W.cell? ⟨w.heap.size, 0, none⟩ = some (.int .i64 (-1)) := by rw [← hW]; simp [go_sem]
  have dw0 : W.drew.cell? ⟨w.heap.size, 0, none⟩ = some (.int .i64 (-1)) := xw0
  have xw1 : W.cell? ⟨w.heap.size, 1, none⟩ = some (.bool s) := by rw [← hW]; simp [go_sem]
  have dw1 : W.drew.cell? ⟨w.heap.size, 1, none⟩ = some (.bool s) := xw1
  have xw2 : W.cell? ⟨w.heap.size, 2, none⟩ = some (.slice p l c) := by rw [← hW]; simp [go_sem]
  have dw2 : W.drew.cell? ⟨w.heap.size, 2, none⟩ = some (.slice p l c) := xw2
  have xw3 : W.cell? ⟨w.heap.size, 3, none⟩ = some (.slice q k d) := by rw [← hW]; simp [go_sem]
  have dw3 : W.drew.cell? ⟨w.heap.size, 3, none⟩ = some (.slice q k d) := xw3
  have r0 : W.cell? ⟨w.heap.size + 1, 0, none⟩ = some (.int .i64 0) := by rw [← hW]; simp [go_sem]
  have rz0 : W.frozen? ⟨w.heap.size + 1, 0, none⟩ = false := by rw [← hW]; simp [go_sem]
  have r1 : W.cell? ⟨w.heap.size + 1, 1, none⟩ = some (.bool false) := by rw [← hW]; simp [go_sem]
  have rz1 : W.frozen? ⟨w.heap.size + 1, 1, none⟩ = false := by rw [← hW]; simp [go_sem]
  have r2 : W.cell? ⟨w.heap.size + 1, 2, none⟩ = some (.slice none 0 0) := by rw [← hW]; simp [go_sem]
  have rz2 : W.frozen? ⟨w.heap.size + 1, 2, none⟩ = false := by rw [← hW]; simp [go_sem]
  have r3 : W.cell? ⟨w.heap.size + 1, 3, none⟩ = some (.slice none 0 0) := by rw [← hW]; simp [go_sem]
  have rz3 : W.frozen? ⟨w.heap.size + 1, 3, none⟩ = false := by rw [← hW]; simp [go_sem]
  have hBW : w.heap.size + 1 < W.heap.size := cell_lt r0
  have hn1 : w.heap.size + 1 ≠ w.heap.size := by omega
  clear hW
  go_region_held3 (fun w' => w'.cell? ⟨w.heap.size, 0, none⟩ = some (.int .i64 (-1)) ∧ w'.cell? ⟨w.heap.size, 1, none⟩ = some (.bool s) ∧ w'.cell? ⟨w.heap.size, 2, none⟩ = some (.slice p l c) ∧ w'.cell? ⟨w.heap.size, 3, none⟩ = some (.slice q k d)) (first | (with_reducible exact ⟨xw0, xw1, xw2, xw3⟩) | (with_reducible exact ⟨dw0, dw1, dw2, dw3⟩) | (with_reducible exact ⟨aw0, aw1, aw2, aw3⟩) | (exact ⟨((World.cell?_setCell_far _ _ _ _ hn1).trans ((World.cell?_setCell_far _ _ _ _ hn1).trans ((World.cell?_setCell_far _ _ _ _ hn1).trans ((World.cell?_setCell_far _ _ _ _ hn1).trans aw0)))), ((World.cell?_setCell_far _ _ _ _ hn1).trans ((World.cell?_setCell_far _ _ _ _ hn1).trans ((World.cell?_setCell_far _ _ _ _ hn1).trans ((World.cell?_setCell_far _ _ _ _ hn1).trans aw1)))), ((World.cell?_setCell_far _ _ _ _ hn1).trans ((World.cell?_setCell_far _ _ _ _ hn1).trans ((World.cell?_setCell_far _ _ _ _ hn1).trans ((World.cell?_setCell_far _ _ _ _ hn1).trans aw2)))), ((World.cell?_setCell_far _ _ _ _ hn1).trans ((World.cell?_setCell_far _ _ _ _ hn1).trans ((World.cell?_setCell_far _ _ _ _ hn1).trans ((World.cell?_setCell_far _ _ _ _ hn1).trans aw3))))⟩)) (first | (go_at_call 59; refine (hs _ ?q0).mono ?_; (case q0 => exact kw.drew); rintro e wl ⟨s2, p2, l2, c2, q2, k2, d2, rfl, hp, gl⟩; have kl : Kp W wl := Kp.trans (Kp.drew (Kp.refl _)) gl; have aw0 := kkeep kl xw0; have aw1 := kkeep kl xw1; have aw2 := kkeep kl xw2; have aw3 := kkeep kl xw3; have R0 := kkeep kl r0; have Rz0 : wl.frozen? ⟨w.heap.size + 1, 0, none⟩ = false := (kfro kl (cell_lt r0)).trans rz0; have R1 := kkeep kl r1; have Rz1 : wl.frozen? ⟨w.heap.size + 1, 1, none⟩ = false := (kfro kl (cell_lt r1)).trans rz1; have R2 := kkeep kl r2; have Rz2 : wl.frozen? ⟨w.heap.size + 1, 2, none⟩ = false := (kfro kl (cell_lt r2)).trans rz2; have R3 := kkeep kl r3; have Rz3 : wl.frozen? ⟨w.heap.size + 1, 3, none⟩ = false := (kfro kl (cell_lt r3)).trans rz3))
  go_wp2
  have hle : w.heap.size ≤ W.heap.size := by omega
  exact bodyPost_ret (v := .agg #[.int .i64 1, .bool s2, .slice p2 l2 c2, .slice q2 k2 d2]) (by simp [results, Tryz.results40, go_sem, R0, R1, R2, R3] <;> decide +kernel) rfl ⟨s2, p2, l2, c2, q2, k2, d2, rfl, RP.mono ((((((hp.mono (base' := W.heap.size) (Nat.le_refl _))).set (x := ⟨w.heap.size + 1, 0, none⟩) hBW (.int .i64 1)).set (x := ⟨w.heap.size + 1, 1, none⟩) hBW (.bool s2)).set (x := ⟨w.heap.size + 1, 2, none⟩) hBW (.slice p2 l2 c2)).set (x := ⟨w.heap.size + 1, 3, none⟩) hBW (.slice q2 k2 d2)) hle, (((((Kp.trans kw kl)).setCell (by simp) _).setCell (by simp) _).setCell (by simp) _).setCell (by simp) _⟩
theorem turned_ (n : Bool) (m : Nat) (s : Bool) (p : Option Addr) (l c : Nat) (q : Option Addr) (k d : Nat) (B1 : Nat) (w : World) (h : RP B1 w s p l c q k d (fN n m) (fM m)) : Calls Tryz.prog 40 #[.agg #[.int .i64 (infS n m), .bool s, .slice p l c, .slice q k d]] w fun e w' => ∃ (s2 : Bool) (p2 : Option Addr) (l2 c2 : Nat) (q2 : Option Addr) (k2 d2 : Nat), e = .returned (.agg #[.int .i64 (infS (!n) m), .bool s2, .slice p2 l2 c2, .slice q2 k2 d2]) ∧ RP w.heap.size w' s2 p2 l2 c2 q2 k2 d2 (fN (!n) m) (fM m) ∧ Kp w w' := by
  have hr := fun W (g : Kp w W) => rneg6_ (fN n m) (fM m) s p l c q k d B1 W (h.kp g)
  unfold infS fN fM at *
  by_cases c0 : m = 9218868437227405312
  · simp only [if_pos c0] at hr ⊢
    have hz : ∀ W : World, Kp w W → Calls Tryz.prog 59 #[.agg #[.bool s, .slice p l c, .slice q k d]] W fun e w' => ∃ (s2 : Bool) (p2 : Option Addr) (l2 c2 : Nat) (q2 : Option Addr) (k2 d2 : Nat), e = .returned (.agg #[.bool s2, .slice p2 l2 c2, .slice q2 k2 d2]) ∧ RP W.heap.size w' s2 p2 l2 c2 q2 k2 d2 false 0 ∧ Kp W w' := fun W g => (hr W g).mono (fun e w' ⟨s2, p2, l2, c2, q2, k2, d2, e1, hp, g2⟩ => ⟨s2, p2, l2, c2, q2, k2, d2, e1, hp.zero false, g2⟩)
    cases n
    · exact turnP_ false 0 s p l c q k d w hz
    · exact turnM_ false 0 s p l c q k d w hz
  · simp only [if_neg c0] at hr ⊢
    exact turnZ_ (!n) m s p l c q k d w hr
set_option maxRecDepth 20000 in
set_option maxHeartbeats 2000000 in
theorem minusN_ (i j i2 j2 : Int) (N1 N2 : Bool) (M1 M2 : Nat) (s : Bool) (p : Option Addr) (l c : Nat) (q : Option Addr) (k d : Nat) (s2 : Bool) (p2 : Option Addr) (l2 c2 : Nat) (q2 : Option Addr) (k2 d2 : Nat) (w : World) (hs1 : ∀ W : World, Kp w W → Calls Tryz.prog 40 #[.agg #[.int .i64 i, .bool s, .slice p l c, .slice q k d]] W fun e w' => ∃ (s5 : Bool) (p5 : Option Addr) (l5 c5 : Nat) (q5 : Option Addr) (k5 d5 : Nat), e = .returned (.agg #[.int .i64 i2, .bool s5, .slice p5 l5 c5, .slice q5 k5 d5]) ∧ RP W.heap.size w' s5 p5 l5 c5 q5 k5 d5 N1 M1 ∧ Kp W w') (hs2 : ∀ W : World, Kp w W → Calls Tryz.prog 40 #[.agg #[.int .i64 j, .bool s2, .slice p2 l2 c2, .slice q2 k2 d2]] W fun e w' => ∃ (s5 : Bool) (p5 : Option Addr) (l5 c5 : Nat) (q5 : Option Addr) (k5 d5 : Nat), e = .returned (.agg #[.int .i64 j2, .bool s5, .slice p5 l5 c5, .slice q5 k5 d5]) ∧ RP W.heap.size w' s5 p5 l5 c5 q5 k5 d5 N2 M2 ∧ Kp W w') : Calls Tryz.prog 21 #[.agg #[.bool false, .int .i64 i, .bool s, .slice p l c, .slice q k d, .int .i64 j, .bool s2, .slice p2 l2 c2, .slice q2 k2 d2]] w fun e w' => ∃ (s5 : Bool) (p5 : Option Addr) (l5 c5 : Nat) (q5 : Option Addr) (k5 d5 : Nat) (s6 : Bool) (p6 : Option Addr) (l6 c6 : Nat) (q6 : Option Addr) (k6 d6 : Nat), e = .returned (.agg #[.bool false, .int .i64 j2, .bool s5, .slice p5 l5 c5, .slice q5 k5 d5, .int .i64 i2, .bool s6, .slice p6 l6 c6, .slice q6 k6 d6]) ∧ RP w.heap.size w' s5 p5 l5 c5 q5 k5 d5 N2 M2 ∧ RP w.heap.size w' s6 p6 l6 c6 q6 k6 d6 N1 M1 ∧ Kp w w' := by
  go_enter Tryz.func21, Tryz.ntmps21
  go_wp2
  generalize hW : ((w.alloc (.cells #[.bool false, .int .i64 i, .bool s, .slice p l c, .slice q k d, .int .i64 j, .bool s2, .slice p2 l2 c2, .slice q2 k2 d2] 46)).alloc (.cells #[.bool false, .int .i64 0, .bool false, .slice none 0 0, .slice none 0 0, .int .i64 0, .bool false, .slice none 0 0, .slice none 0 0] 46)) = W
  have kw : Kp w W := by rw [← hW]; exact ((Kp.refl w).alloc _).alloc _
  have xw0 : W.cell? ⟨w.heap.size, 1, none⟩ = some (.int .i64 i) := by rw [← hW]; simp [go_sem]
  have dw0 : W.drew.cell? ⟨w.heap.size, 1, none⟩ = some (.int .i64 i) := xw0
  have xw1 : W.cell? ⟨w.heap.size, 2, none⟩ = some (.bool s) := by rw [← hW]; simp [go_sem]
  have dw1 : W.drew.cell? ⟨w.heap.size, 2, none⟩ = some (.bool s) := xw1
  have xw2 : W.cell? ⟨w.heap.size, 3, none⟩ = some (.slice p l c) := by rw [← hW]; simp [go_sem]
  have dw2 : W.drew.cell? ⟨w.heap.size, 3, none⟩ = some (.slice p l c) := xw2
  have xw3 : W.cell? ⟨w.heap.size, 4, none⟩ = some (.slice q k d) := by rw [← hW]; simp [go_sem]
  have dw3 : W.drew.cell? ⟨w.heap.size, 4, none⟩ = some (.slice q k d) := xw3
  have xw4 : W.cell? ⟨w.heap.size, 5, none⟩ = some (.int .i64 j) := by rw [← hW]; simp [go_sem]
  have dw4 : W.drew.cell? ⟨w.heap.size, 5, none⟩ = some (.int .i64 j) := xw4
  have xw5 : W.cell? ⟨w.heap.size, 6, none⟩ = some (.bool s2) := by rw [← hW]; simp [go_sem]
  have dw5 : W.drew.cell? ⟨w.heap.size, 6, none⟩ = some (.bool s2) := xw5
  have xw6 : W.cell? ⟨w.heap.size, 7, none⟩ = some (.slice p2 l2 c2) := by rw [← hW]; simp [go_sem]
  have dw6 : W.drew.cell? ⟨w.heap.size, 7, none⟩ = some (.slice p2 l2 c2) := xw6
  have xw7 : W.cell? ⟨w.heap.size, 8, none⟩ = some (.slice q2 k2 d2) := by rw [← hW]; simp [go_sem]
  have dw7 : W.drew.cell? ⟨w.heap.size, 8, none⟩ = some (.slice q2 k2 d2) := xw7
  have r0 : W.cell? ⟨w.heap.size + 1, 0, none⟩ = some (.bool false) := by rw [← hW]; simp [go_sem]
  have rz0 : W.frozen? ⟨w.heap.size + 1, 0, none⟩ = false := by rw [← hW]; simp [go_sem]
  have r1 : W.cell? ⟨w.heap.size + 1, 1, none⟩ = some (.int .i64 0) := by rw [← hW]; simp [go_sem]
  have rz1 : W.frozen? ⟨w.heap.size + 1, 1, none⟩ = false := by rw [← hW]; simp [go_sem]
  have r2 : W.cell? ⟨w.heap.size + 1, 2, none⟩ = some (.bool false) := by rw [← hW]; simp [go_sem]
  have rz2 : W.frozen? ⟨w.heap.size + 1, 2, none⟩ = false := by rw [← hW]; simp [go_sem]
  have r3 : W.cell? ⟨w.heap.size + 1, 3, none⟩ = some (.slice none 0 0) := by rw [← hW]; simp [go_sem]
  have rz3 : W.frozen? ⟨w.heap.size + 1, 3, none⟩ = false := by rw [← hW]; simp [go_sem]
  have r4 : W.cell? ⟨w.heap.size + 1, 4, none⟩ = some (.slice none 0 0) := by rw [← hW]; simp [go_sem]
  have rz4 : W.frozen? ⟨w.heap.size + 1, 4, none⟩ = false := by rw [← hW]; simp [go_sem]
  have r5 : W.cell? ⟨w.heap.size + 1, 5, none⟩ = some (.int .i64 0) := by rw [← hW]; simp [go_sem]
  have rz5 : W.frozen? ⟨w.heap.size + 1, 5, none⟩ = false := by rw [← hW]; simp [go_sem]
  have r6 : W.cell? ⟨w.heap.size + 1, 6, none⟩ = some (.bool false) := by rw [← hW]; simp [go_sem]
  have rz6 : W.frozen? ⟨w.heap.size + 1, 6, none⟩ = false := by rw [← hW]; simp [go_sem]
  have r7 : W.cell? ⟨w.heap.size + 1, 7, none⟩ = some (.slice none 0 0) := by rw [← hW]; simp [go_sem]
  have rz7 : W.frozen? ⟨w.heap.size + 1, 7, none⟩ = false := by rw [← hW]; simp [go_sem]
  have r8 : W.cell? ⟨w.heap.size + 1, 8, none⟩ = some (.slice none 0 0) := by rw [← hW]; simp [go_sem]
  have rz8 : W.frozen? ⟨w.heap.size + 1, 8, none⟩ = false := by rw [← hW]; simp [go_sem]
  have hBW : w.heap.size + 1 < W.heap.size := cell_lt r0
  have hn1 : w.heap.size + 1 ≠ w.heap.size := by omega
  clear hW
  go_region_held3 (fun w' => w'.cell? ⟨w.heap.size, 1, none⟩ = some (.int .i64 i) ∧ w'.cell? ⟨w.heap.size, 2, none⟩ = some (.bool s) ∧ w'.cell? ⟨w.heap.size, 3, none⟩ = some (.slice p l c) ∧ w'.cell? ⟨w.heap.size, 4, none⟩ = some (.slice q k d) ∧ w'.cell? ⟨w.heap.size, 5, none⟩ = some (.int .i64 j) ∧ w'.cell? ⟨w.heap.size, 6, none⟩ = some (.bool s2) ∧ w'.cell? ⟨w.heap.size, 7, none⟩ = some (.slice p2 l2 c2) ∧ w'.cell? ⟨w.heap.size, 8, none⟩ = some (.slice q2 k2 d2)) (first | (with_reducible exact ⟨xw0, xw1, xw2, xw3, xw4, xw5, xw6, xw7⟩) | (with_reducible exact ⟨dw0, dw1, dw2, dw3, dw4, dw5, dw6, dw7⟩) | (with_reducible exact ⟨aw0, aw1, aw2, aw3, aw4, aw5, aw6, aw7⟩) | (with_reducible exact ⟨bw0, bw1, bw2, bw3, bw4, bw5, bw6, bw7⟩) | (exact ⟨((World.cell?_setCell_far _ _ _ _ hn1).trans ((World.cell?_setCell_far _ _ _ _ hn1).trans ((World.cell?_setCell_far _ _ _ _ hn1).trans ((World.cell?_setCell_far _ _ _ _ hn1).trans ((World.cell?_setCell_far _ _ _ _ hn1).trans ((World.cell?_setCell_far _ _ _ _ hn1).trans ((World.cell?_setCell_far _ _ _ _ hn1).trans ((World.cell?_setCell_far _ _ _ _ hn1).trans ((World.cell?_setCell_far _ _ _ _ hn1).trans bw0))))))))), ((World.cell?_setCell_far _ _ _ _ hn1).trans ((World.cell?_setCell_far _ _ _ _ hn1).trans ((World.cell?_setCell_far _ _ _ _ hn1).trans ((World.cell?_setCell_far _ _ _ _ hn1).trans ((World.cell?_setCell_far _ _ _ _ hn1).trans ((World.cell?_setCell_far _ _ _ _ hn1).trans ((World.cell?_setCell_far _ _ _ _ hn1).trans ((World.cell?_setCell_far _ _ _ _ hn1).trans ((World.cell?_setCell_far _ _ _ _ hn1).trans bw1))))))))), ((World.cell?_setCell_far _ _ _ _ hn1).trans ((World.cell?_setCell_far _ _ _ _ hn1).trans ((World.cell?_setCell_far _ _ _ _ hn1).trans ((World.cell?_setCell_far _ _ _ _ hn1).trans ((World.cell?_setCell_far _ _ _ _ hn1).trans ((World.cell?_setCell_far _ _ _ _ hn1).trans ((World.cell?_setCell_far _ _ _ _ hn1).trans ((World.cell?_setCell_far _ _ _ _ hn1).trans ((World.cell?_setCell_far _ _ _ _ hn1).trans bw2))))))))), ((World.cell?_setCell_far _ _ _ _ hn1).trans ((World.cell?_setCell_far _ _ _ _ hn1).trans ((World.cell?_setCell_far _ _ _ _ hn1).trans ((World.cell?_setCell_far _ _ _ _ hn1).trans ((World.cell?_setCell_far _ _ _ _ hn1).trans ((World.cell?_setCell_far _ _ _ _ hn1).trans ((World.cell?_setCell_far _ _ _ _ hn1).trans ((World.cell?_setCell_far _ _ _ _ hn1).trans ((World.cell?_setCell_far _ _ _ _ hn1).trans bw3))))))))), ((World.cell?_setCell_far _ _ _ _ hn1).trans ((World.cell?_setCell_far _ _ _ _ hn1).trans ((World.cell?_setCell_far _ _ _ _ hn1).trans ((World.cell?_setCell_far _ _ _ _ hn1).trans ((World.cell?_setCell_far _ _ _ _ hn1).trans ((World.cell?_setCell_far _ _ _ _ hn1).trans ((World.cell?_setCell_far _ _ _ _ hn1).trans ((World.cell?_setCell_far _ _ _ _ hn1).trans ((World.cell?_setCell_far _ _ _ _ hn1).trans bw4))))))))), ((World.cell?_setCell_far _ _ _ _ hn1).trans ((World.cell?_setCell_far _ _ _ _ hn1).trans ((World.cell?_setCell_far _ _ _ _ hn1).trans ((World.cell?_setCell_far _ _ _ _ hn1).trans ((World.cell?_setCell_far _ _ _ _ hn1).trans ((World.cell?_setCell_far _ _ _ _ hn1).trans ((World.cell?_setCell_far _ _ _ _ hn1).trans ((World.cell?_setCell_far _ _ _ _ hn1).trans ((World.cell?_setCell_far _ _ _ _ hn1).trans bw5))))))))), ((World.cell?_setCell_far _ _ _ _ hn1).trans ((World.cell?_setCell_far _ _ _ _ hn1).trans ((World.cell?_setCell_far _ _ _ _ hn1).trans ((World.cell?_setCell_far _ _ _ _ hn1).trans ((World.cell?_setCell_far _ _ _ _ hn1).trans ((World.cell?_setCell_far _ _ _ _ hn1).trans ((World.cell?_setCell_far _ _ _ _ hn1).trans ((World.cell?_setCell_far _ _ _ _ hn1).trans ((World.cell?_setCell_far _ _ _ _ hn1).trans bw6))))))))), ((World.cell?_setCell_far _ _ _ _ hn1).trans ((World.cell?_setCell_far _ _ _ _ hn1).trans ((World.cell?_setCell_far _ _ _ _ hn1).trans ((World.cell?_setCell_far _ _ _ _ hn1).trans ((World.cell?_setCell_far _ _ _ _ hn1).trans ((World.cell?_setCell_far _ _ _ _ hn1).trans ((World.cell?_setCell_far _ _ _ _ hn1).trans ((World.cell?_setCell_far _ _ _ _ hn1).trans ((World.cell?_setCell_far _ _ _ _ hn1).trans bw7)))))))))⟩)) (first | (go_at_call_of 40 (Value.slice p2 l2 c2); refine (hs2 _ ?q0).mono ?_; (case q0 => exact kw.drew); rintro e wl ⟨s5, p5, l5, c5, q5, k5, d5, rfl, hp, gl⟩; have kl : Kp W wl := Kp.trans (Kp.drew (Kp.refl _)) gl; have aw0 := kkeep kl xw0; have aw1 := kkeep kl xw1; have aw2 := kkeep kl xw2; have aw3 := kkeep kl xw3; have aw4 := kkeep kl xw4; have aw5 := kkeep kl xw5; have aw6 := kkeep kl xw6; have aw7 := kkeep kl xw7) | (go_at_call_of 40 (Value.slice p l c); refine (hs1 _ ?q0).mono ?_; (case q0 => exact kw.trans kl); rintro e wh ⟨s6, p6, l6, c6, q6, k6, d6, rfl, hp2, gh⟩; have kh : Kp W wh := Kp.trans kl gh; have bw0 := kkeep kh xw0; have bw1 := kkeep kh xw1; have bw2 := kkeep kh xw2; have bw3 := kkeep kh xw3; have bw4 := kkeep kh xw4; have bw5 := kkeep kh xw5; have bw6 := kkeep kh xw6; have bw7 := kkeep kh xw7; have R0 := kkeep kh r0; have Rz0 : wh.frozen? ⟨w.heap.size + 1, 0, none⟩ = false := (kfro kh (cell_lt r0)).trans rz0; have R1 := kkeep kh r1; have Rz1 : wh.frozen? ⟨w.heap.size + 1, 1, none⟩ = false := (kfro kh (cell_lt r1)).trans rz1; have R2 := kkeep kh r2; have Rz2 : wh.frozen? ⟨w.heap.size + 1, 2, none⟩ = false := (kfro kh (cell_lt r2)).trans rz2; have R3 := kkeep kh r3; have Rz3 : wh.frozen? ⟨w.heap.size + 1, 3, none⟩ = false := (kfro kh (cell_lt r3)).trans rz3; have R4 := kkeep kh r4; have Rz4 : wh.frozen? ⟨w.heap.size + 1, 4, none⟩ = false := (kfro kh (cell_lt r4)).trans rz4; have R5 := kkeep kh r5; have Rz5 : wh.frozen? ⟨w.heap.size + 1, 5, none⟩ = false := (kfro kh (cell_lt r5)).trans rz5; have R6 := kkeep kh r6; have Rz6 : wh.frozen? ⟨w.heap.size + 1, 6, none⟩ = false := (kfro kh (cell_lt r6)).trans rz6; have R7 := kkeep kh r7; have Rz7 : wh.frozen? ⟨w.heap.size + 1, 7, none⟩ = false := (kfro kh (cell_lt r7)).trans rz7; have R8 := kkeep kh r8; have Rz8 : wh.frozen? ⟨w.heap.size + 1, 8, none⟩ = false := (kfro kh (cell_lt r8)).trans rz8))
  go_wp2
  have hle : w.heap.size ≤ W.heap.size := by omega
  exact bodyPost_ret (v := .agg #[.bool false, .int .i64 j2, .bool s5, .slice p5 l5 c5, .slice q5 k5 d5, .int .i64 i2, .bool s6, .slice p6 l6 c6, .slice q6 k6 d6]) (by simp [results, Tryz.results21, go_sem, R0, R1, R2, R3, R4, R5, R6, R7, R8]) rfl ⟨s5, p5, l5, c5, q5, k5, d5, s6, p6, l6, c6, q6, k6, d6, rfl, RP.mono ((((((((((((hp.mono (base' := W.heap.size) (Nat.le_refl _)).kp gh)).set (x := ⟨w.heap.size + 1, 0, none⟩) hBW (.bool false)).set (x := ⟨w.heap.size + 1, 1, none⟩) hBW (.int .i64 j2)).set (x := ⟨w.heap.size + 1, 2, none⟩) hBW (.bool s5)).set (x := ⟨w.heap.size + 1, 3, none⟩) hBW (.slice p5 l5 c5)).set (x := ⟨w.heap.size + 1, 4, none⟩) hBW (.slice q5 k5 d5)).set (x := ⟨w.heap.size + 1, 5, none⟩) hBW (.int .i64 i2)).set (x := ⟨w.heap.size + 1, 6, none⟩) hBW (.bool s6)).set (x := ⟨w.heap.size + 1, 7, none⟩) hBW (.slice p6 l6 c6)).set (x := ⟨w.heap.size + 1, 8, none⟩) hBW (.slice q6 k6 d6)) hle, RP.mono (((((((((((hp2.mono (base' := W.heap.size) (Below.size kl))).set (x := ⟨w.heap.size + 1, 0, none⟩) hBW (.bool false)).set (x := ⟨w.heap.size + 1, 1, none⟩) hBW (.int .i64 j2)).set (x := ⟨w.heap.size + 1, 2, none⟩) hBW (.bool s5)).set (x := ⟨w.heap.size + 1, 3, none⟩) hBW (.slice p5 l5 c5)).set (x := ⟨w.heap.size + 1, 4, none⟩) hBW (.slice q5 k5 d5)).set (x := ⟨w.heap.size + 1, 5, none⟩) hBW (.int .i64 i2)).set (x := ⟨w.heap.size + 1, 6, none⟩) hBW (.bool s6)).set (x := ⟨w.heap.size + 1, 7, none⟩) hBW (.slice p6 l6 c6)).set (x := ⟨w.heap.size + 1, 8, none⟩) hBW (.slice q6 k6 d6)) hle, ((((((((((Kp.trans kw kh)).setCell (by simp) _).setCell (by simp) _).setCell (by simp) _).setCell (by simp) _).setCell (by simp) _).setCell (by simp) _).setCell (by simp) _).setCell (by simp) _).setCell (by simp) _⟩
set_option maxRecDepth 20000 in
set_option maxHeartbeats 1000000 in
theorem minusE_ (i j : Int) (s : Bool) (p : Option Addr) (l c : Nat) (q : Option Addr) (k d : Nat) (s2 : Bool) (p2 : Option Addr) (l2 c2 : Nat) (q2 : Option Addr) (k2 d2 : Nat) (w : World) : Calls Tryz.prog 21 #[.agg #[.bool true, .int .i64 i, .bool s, .slice p l c, .slice q k d, .int .i64 j, .bool s2, .slice p2 l2 c2, .slice q2 k2 d2]] w fun e w' => e = .returned (.agg #[.bool true, .int .i64 i, .bool s, .slice p l c, .slice q k d, .int .i64 j, .bool s2, .slice p2 l2 c2, .slice q2 k2 d2]) ∧ Kp w w' := by
  go_enter Tryz.func21, Tryz.ntmps21
  go_wp2
  exact bodyPost_ret (v := .agg #[.bool true, .int .i64 i, .bool s, .slice p l c, .slice q k d, .int .i64 j, .bool s2, .slice p2 l2 c2, .slice q2 k2 d2]) (by simp [results, Tryz.results21, go_sem]) rfl ⟨rfl, (by repeat (with_reducible (first | assumption | exact Kp.refl _ | apply Kp.drew | apply Kp.alloc | apply Kp.drewN | (refine Kp.setCell ?_ (by first | omega | (simp <;> omega)) _) | (refine Kp.trans ?_ (by assumption)))))⟩
set_option maxRecDepth 20000 in
set_option maxHeartbeats 2000000 in
theorem rsub6c_ (X Y C D LO HI : Int) (P1 P2 P3 P4 : World → Value → Prop) (w : World) (hk1 : ∀ (W W' : World) (v : Value), Kp W W' → P1 W v → P1 W' v) (hO1 : ∀ W : World, Kp w W → Calls Tryz.prog 19 #[.agg #[.int .u64 X, .int .u64 Y]] W fun e w' => ∃ v, e = .returned v ∧ P1 w' v ∧ Kp W w') (hO2 : ∀ W : World, Kp w W → Calls Tryz.prog 19 #[.agg #[.int .u64 C, .int .u64 D]] W fun e w' => ∃ v, e = .returned v ∧ P2 w' v ∧ Kp W w') (hMi : ∀ (W : World) (v : Value), Kp w W → P2 W v → Calls Tryz.prog 21 #[v] W fun e w' => ∃ v', e = .returned v' ∧ P4 w' v' ∧ Kp W w') (hPl : ∀ (W : World) (u v : Value), Kp w W → P1 W u → P4 W v → Calls Tryz.prog 18 #[u, v] W fun e w' => ∃ v', e = .returned v' ∧ P3 w' v' ∧ Kp W w') (hLe : ∀ (W : World) (v : Value), Kp w W → P3 W v → Calls Tryz.prog 17 #[v] W fun e w' => e = .returned (.agg #[.int .u64 LO, .int .u64 HI]) ∧ Kp W w') : Calls Tryz.prog 10 #[.agg #[.int .u64 X, .int .u64 Y], .agg #[.int .u64 C, .int .u64 D]] w fun e w' => e = .returned (.agg #[.int .u64 LO, .int .u64 HI]) ∧ Kp w w' := by
  go_enter Tryz.func10, Tryz.ntmps10
  go_wp2
  generalize hW : (((w.alloc (.cells #[.int .u64 X, .int .u64 Y] 24)).alloc (.cells #[.int .u64 C, .int .u64 D] 24)).alloc (.cells #[.int .u64 0, .int .u64 0] 24)) = W
  have kw : Kp w W := by rw [← hW]; exact (((Kp.refl w).alloc _).alloc _).alloc _
  have xw0 : W.cell? ⟨w.heap.size, 0, none⟩ = some (.int .u64 X) := by rw [← hW]; simp [go_sem]
  have dw0 : W.drew.cell? ⟨w.heap.size, 0, none⟩ = some (.int .u64 X) := xw0
  have xw1 : W.cell? ⟨w.heap.size, 1, none⟩ = some (.int .u64 Y) := by rw [← hW]; simp [go_sem]
  have dw1 : W.drew.cell? ⟨w.heap.size, 1, none⟩ = some (.int .u64 Y) := xw1
  have xw2 : W.cell? ⟨w.heap.size + 1, 0, none⟩ = some (.int .u64 C) := by rw [← hW]; simp [go_sem]
  have dw2 : W.drew.cell? ⟨w.heap.size + 1, 0, none⟩ = some (.int .u64 C) := xw2
  have xw3 : W.cell? ⟨w.heap.size + 1, 1, none⟩ = some (.int .u64 D) := by rw [← hW]; simp [go_sem]
  have dw3 : W.drew.cell? ⟨w.heap.size + 1, 1, none⟩ = some (.int .u64 D) := xw3
  have r0 : W.cell? ⟨w.heap.size + 2, 0, none⟩ = some (.int .u64 0) := by rw [← hW]; simp [go_sem]
  have rz0 : W.frozen? ⟨w.heap.size + 2, 0, none⟩ = false := by rw [← hW]; simp [go_sem]
  have r1 : W.cell? ⟨w.heap.size + 2, 1, none⟩ = some (.int .u64 0) := by rw [← hW]; simp [go_sem]
  have rz1 : W.frozen? ⟨w.heap.size + 2, 1, none⟩ = false := by rw [← hW]; simp [go_sem]
  have hn1 : w.heap.size + 2 ≠ w.heap.size := by omega
  have hn2 : w.heap.size + 2 ≠ w.heap.size + 1 := by omega
  clear hW
  go_region_held3 (fun w' => w'.cell? ⟨w.heap.size, 0, none⟩ = some (.int .u64 X) ∧ w'.cell? ⟨w.heap.size, 1, none⟩ = some (.int .u64 Y) ∧ w'.cell? ⟨w.heap.size + 1, 0, none⟩ = some (.int .u64 C) ∧ w'.cell? ⟨w.heap.size + 1, 1, none⟩ = some (.int .u64 D)) (first | (with_reducible exact ⟨xw0, xw1, xw2, xw3⟩) | (with_reducible exact ⟨dw0, dw1, dw2, dw3⟩) | (with_reducible exact ⟨wA0, wA1, wA2, wA3⟩) | (with_reducible exact ⟨wB0, wB1, wB2, wB3⟩) | (with_reducible exact ⟨wC0, wC1, wC2, wC3⟩) | (with_reducible exact ⟨wD0, wD1, wD2, wD3⟩) | (with_reducible exact ⟨wE0, wE1, wE2, wE3⟩) | (exact ⟨((World.cell?_setCell_far _ _ _ _ hn1).trans ((World.cell?_setCell_far _ _ _ _ hn1).trans wE0)), ((World.cell?_setCell_far _ _ _ _ hn1).trans ((World.cell?_setCell_far _ _ _ _ hn1).trans wE1)), ((World.cell?_setCell_far _ _ _ _ hn2).trans ((World.cell?_setCell_far _ _ _ _ hn2).trans wE2)), ((World.cell?_setCell_far _ _ _ _ hn2).trans ((World.cell?_setCell_far _ _ _ _ hn2).trans wE3))⟩)) (first | (go_at_call_of 19 (Value.int .u64 X); refine (hO1 _ ?q0).mono ?_; (case q0 => exact kw.drew); rintro e wA ⟨v1, rfl, hv1, gA⟩; have kA : Kp W wA := Kp.trans (Kp.drew (Kp.refl _)) gA; have wA0 := kkeep kA xw0; have wA1 := kkeep kA xw1; have wA2 := kkeep kA xw2; have wA3 := kkeep kA xw3) | (go_at_call_of 19 (Value.int .u64 C); refine (hO2 _ ?q0).mono ?_; (case q0 => exact kw.trans kA); rintro e wB ⟨v2, rfl, hv2, gB⟩; have kB : Kp W wB := Kp.trans kA gB; have hv3 := hk1 _ _ _ gB hv1; have wB0 := kkeep kB xw0; have wB1 := kkeep kB xw1; have wB2 := kkeep kB xw2; have wB3 := kkeep kB xw3) | (go_at_call 21; refine (hMi _ v2 (kw.trans kB) hv2).mono ?_; rintro e wC ⟨v4, rfl, hv4, gC⟩; have kC : Kp W wC := Kp.trans kB gC; have hv5 := hk1 _ _ _ gC hv3; have wC0 := kkeep kC xw0; have wC1 := kkeep kC xw1; have wC2 := kkeep kC xw2; have wC3 := kkeep kC xw3) | (go_at_call 18; refine (hPl _ v1 v4 (kw.trans kC) hv5 hv4).mono ?_; rintro e wD ⟨v6, rfl, hv6, gD⟩; have kD : Kp W wD := Kp.trans kC gD; have wD0 := kkeep kD xw0; have wD1 := kkeep kD xw1; have wD2 := kkeep kD xw2; have wD3 := kkeep kD xw3) | (go_at_call 17; refine (hLe _ v6 (kw.trans kD) hv6).mono ?_; rintro e wE ⟨rfl, gE⟩; have kE : Kp W wE := Kp.trans kD gE; have wE0 := kkeep kE xw0; have wE1 := kkeep kE xw1; have wE2 := kkeep kE xw2; have wE3 := kkeep kE xw3; have R0 := kkeep kE r0; have Rz0 : wE.frozen? ⟨w.heap.size + 2, 0, none⟩ = false := (kfro kE (cell_lt r0)).trans rz0; have R1 := kkeep kE r1; have Rz1 : wE.frozen? ⟨w.heap.size + 2, 1, none⟩ = false := (kfro kE (cell_lt r1)).trans rz1))
  go_wp2
  exact bodyPost_ret (v := .agg #[.int .u64 LO, .int .u64 HI]) (by simp [results, Tryz.results10, go_sem, R0, R1]) rfl ⟨rfl, (((Kp.trans kw kE)).setCell (by simp <;> omega) _).setCell (by simp <;> omega) _⟩
set_option maxRecDepth 20000 in
set_option maxHeartbeats 1000000 in
theorem sub6c_ (a b c d NL NH RL RH : Nat) (w : World) (hN : ∀ w : World, Calls Tryz.prog 20 #[.agg #[.float .f64 c, .float .f64 d]] w fun e w' => e = .returned (.agg #[.float .f64 NL, .float .f64 NH]) ∧ Kp w w') (hA : ∀ W : World, Kp w W → Calls Tryz.prog 6 #[.agg #[.float .f64 a, .float .f64 b], .agg #[.float .f64 NL, .float .f64 NH]] W fun e w' => e = .returned (.agg #[.float .f64 RL, .float .f64 RH]) ∧ Kp W w') : Calls Tryz.prog 9 #[.agg #[.float .f64 a, .float .f64 b], .agg #[.float .f64 c, .float .f64 d]] w fun e w' => e = .returned (.agg #[.float .f64 RL, .float .f64 RH]) ∧ Kp w w' := by
  go_enter Tryz.func9, Tryz.ntmps9
  go_wp2
  generalize hW : (((w.alloc (.cells #[.float .f64 a, .float .f64 b] 28)).alloc (.cells #[.float .f64 c, .float .f64 d] 28)).alloc (.cells #[.float .f64 0, .float .f64 0] 28)) = W
  have kw : Kp w W := by rw [← hW]; exact (((Kp.refl w).alloc _).alloc _).alloc _
  have xw0 : W.cell? ⟨w.heap.size, 0, none⟩ = some (.float .f64 a) := by rw [← hW]; simp [go_sem]
  have dw0 : W.drew.cell? ⟨w.heap.size, 0, none⟩ = some (.float .f64 a) := xw0
  have xw1 : W.cell? ⟨w.heap.size, 1, none⟩ = some (.float .f64 b) := by rw [← hW]; simp [go_sem]
  have dw1 : W.drew.cell? ⟨w.heap.size, 1, none⟩ = some (.float .f64 b) := xw1
  have xw2 : W.cell? ⟨w.heap.size + 1, 0, none⟩ = some (.float .f64 c) := by rw [← hW]; simp [go_sem]
  have dw2 : W.drew.cell? ⟨w.heap.size + 1, 0, none⟩ = some (.float .f64 c) := xw2
  have xw3 : W.cell? ⟨w.heap.size + 1, 1, none⟩ = some (.float .f64 d) := by rw [← hW]; simp [go_sem]
  have dw3 : W.drew.cell? ⟨w.heap.size + 1, 1, none⟩ = some (.float .f64 d) := xw3
  have r0 : W.cell? ⟨w.heap.size + 2, 0, none⟩ = some (.float .f64 0) := by rw [← hW]; simp [go_sem]
  have rz0 : W.frozen? ⟨w.heap.size + 2, 0, none⟩ = false := by rw [← hW]; simp [go_sem]
  have r1 : W.cell? ⟨w.heap.size + 2, 1, none⟩ = some (.float .f64 0) := by rw [← hW]; simp [go_sem]
  have rz1 : W.frozen? ⟨w.heap.size + 2, 1, none⟩ = false := by rw [← hW]; simp [go_sem]
  have hn1 : w.heap.size + 2 ≠ w.heap.size := by omega
  have hn2 : w.heap.size + 2 ≠ w.heap.size + 1 := by omega
  clear hW
  go_region_held3 (fun w' => w'.cell? ⟨w.heap.size, 0, none⟩ = some (.float .f64 a) ∧ w'.cell? ⟨w.heap.size, 1, none⟩ = some (.float .f64 b) ∧ w'.cell? ⟨w.heap.size + 1, 0, none⟩ = some (.float .f64 c) ∧ w'.cell? ⟨w.heap.size + 1, 1, none⟩ = some (.float .f64 d)) (first | (with_reducible exact ⟨xw0, xw1, xw2, xw3⟩) | (with_reducible exact ⟨dw0, dw1, dw2, dw3⟩) | (with_reducible exact ⟨aw0, aw1, aw2, aw3⟩) | (with_reducible exact ⟨bw0, bw1, bw2, bw3⟩) | (exact ⟨((World.cell?_setCell_far _ _ _ _ hn1).trans ((World.cell?_setCell_far _ _ _ _ hn1).trans bw0)), ((World.cell?_setCell_far _ _ _ _ hn1).trans ((World.cell?_setCell_far _ _ _ _ hn1).trans bw1)), ((World.cell?_setCell_far _ _ _ _ hn2).trans ((World.cell?_setCell_far _ _ _ _ hn2).trans bw2)), ((World.cell?_setCell_far _ _ _ _ hn2).trans ((World.cell?_setCell_far _ _ _ _ hn2).trans bw3))⟩)) (first | (go_at_call 20; refine (hN _).mono ?_; rintro e wl ⟨rfl, gl⟩; have kl : Kp W wl := Kp.trans (Kp.drew (Kp.refl _)) gl; have aw0 := kkeep kl xw0; have aw1 := kkeep kl xw1; have aw2 := kkeep kl xw2; have aw3 := kkeep kl xw3) | (go_at_call 6; refine (hA _ ?q0).mono ?_; (case q0 => exact kw.trans kl); rintro e wh ⟨rfl, gh⟩; have kh : Kp W wh := Kp.trans kl gh; have bw0 := kkeep kh xw0; have bw1 := kkeep kh xw1; have bw2 := kkeep kh xw2; have bw3 := kkeep kh xw3; have R0 := kkeep kh r0; have Rz0 : wh.frozen? ⟨w.heap.size + 2, 0, none⟩ = false := (kfro kh (cell_lt r0)).trans rz0; have R1 := kkeep kh r1; have Rz1 : wh.frozen? ⟨w.heap.size + 2, 1, none⟩ = false := (kfro kh (cell_lt r1)).trans rz1))
  go_wp2
  exact bodyPost_ret (v := .agg #[.float .f64 RL, .float .f64 RH]) (by simp [results, Tryz.results9, go_sem, R0, R1]) rfl ⟨rfl, (((Kp.trans kw kh)).setCell (by simp <;> omega) _).setCell (by simp <;> omega) _⟩

theorem minusS_ (n g : Bool) (m r : Nat) (W : World) (v : Value) (h : SV1 n m g r W v) : Calls Tryz.prog 21 #[v] W fun e w' => ∃ v', e = .returned v' ∧ SV1 (!g) r (!n) m w' v' ∧ Kp W w' := by
  obtain ⟨s, p, l, c, q, k, d, s2, p2, l2, c2, q2, k2, d2, rfl, a1, a2⟩ := h
  refine (minusN_ (infS n m) (infS g r) (infS (!n) m) (infS (!g) r) (fN (!n) m) (fN (!g) r) (fM m) (fM r) s p l c q k d s2 p2 l2 c2 q2 k2 d2 W (fun W' y => turned_ n m s p l c q k d 0 W' (a1.kp y)) (fun W' y => turned_ g r s2 p2 l2 c2 q2 k2 d2 0 W' (a2.kp y))).mono ?_
  rintro e w' ⟨s5, p5, l5, c5, q5, k5, d5, s6, p6, l6, c6, q6, k6, d6, rfl, x1, x2, y⟩
  exact ⟨_, rfl, ⟨s5, p5, l5, c5, q5, k5, d5, s6, p6, l6, c6, q6, k6, d6, rfl, x1.mono (Nat.zero_le _), x2.mono (Nat.zero_le _)⟩, y⟩
theorem minusX_ (W : World) (v : Value) (h : SV0 true v) : Calls Tryz.prog 21 #[v] W fun e w' => ∃ v', e = .returned v' ∧ SV0 true v' ∧ Kp W w' := by
  obtain ⟨i, j, s, p, l, c, q, k, d, s2, p2, l2, c2, q2, k2, d2, rfl⟩ := h
  refine (minusE_ i j s p l c q k d s2 p2 l2 c2 q2 k2 d2 W).mono ?_
  rintro e w' ⟨rfl, y⟩
  exact ⟨_, rfl, ⟨i, j, s, p, l, c, q, k, d, s2, p2, l2, c2, q2, k2, d2, rfl⟩, y⟩
theorem pla_pla (x : Nat) : Fq.pla (Fq.pla x) = Fq.pla x := by
  unfold Fq.pla
  by_cases c : x = 9223372036854775808
  · rw [if_pos c]; rfl
  · rw [if_neg c, if_neg c]
theorem wD_inj6 (n n' : Bool) (m m' : Nat) (h : m < 9223372036854775808) (h' : m' < 9223372036854775808) (e : Fq.wD n m = Fq.wD n' m') : n = n' ∧ m = m' := by
  unfold Fq.wD at e
  cases n <;> cases n' <;> simp at e ⊢ <;> omega
theorem pl_same (n n' : Bool) (m m' : Nat) (h : m ≤ 9218868437227405312) (h' : m' ≤ 9218868437227405312) (e : Fq.wD n m = Fq.pla (Fq.wD n' m')) : (m = 9218868437227405312 ↔ m' = 9218868437227405312) ∧ Iv n m = Iv n' m' := by
  unfold Fq.pla at e
  by_cases c : Fq.wD n' m' = 9223372036854775808
  · rw [if_pos c] at e
    have e1 : n' = true ∧ m' = 0 := wD_inj6 n' true m' 0 (by omega) (by decide) (c.trans rfl)
    have e2 : n = false ∧ m = 0 := wD_inj6 n false m 0 (by omega) (by decide) (e.trans rfl)
    rw [e1.1, e1.2, e2.1, e2.2]
    refine ⟨Iff.rfl, ?_⟩
    unfold Iv; rw [Fq.vV_zero]; rfl
  · rw [if_neg c] at e
    obtain ⟨rfl, rfl⟩ := wD_inj6 n n' m m' (by omega) (by omega) e
    exact ⟨Iff.rfl, rfl⟩
theorem loA_same (n1 : Bool) (m1 : Nat) (n n' : Bool) (m m' : Nat) (h : (m = 9218868437227405312 ↔ m' = 9218868437227405312) ∧ Iv n m = Iv n' m') : loA n1 m1 n m = loA n1 m1 n' m' := by unfold loA; rw [h.2]; simp only [h.1]
theorem hiA_same (n1 : Bool) (m1 : Nat) (n n' : Bool) (m m' : Nat) (h : (m = 9218868437227405312 ↔ m' = 9218868437227405312) ∧ Iv n m = Iv n' m') : hiA n1 m1 n m = hiA n1 m1 n' m' := by unfold hiA; rw [h.2]; simp only [h.1]
theorem opP_lt (x : Nat) (h : x < 18446744073709551616) : opP x < 18446744073709551616 := by
  unfold opP
  repeat' split
  all_goals omega
/-- what Neg leaves: an interval again, its ends turned -/
theorem neg_sound (c d : Nat) (hc : c < 18446744073709551616) (hd : d < 18446744073709551616) (s2 : Fq.snd c d = true) (n2 g2 : Bool) (m2 r2 : Nat) (l3 : m2 ≤ 9218868437227405312) (l4 : r2 ≤ 9218868437227405312) (e3 : Fq.rlo c d = Fq.wD n2 m2) (e4 : Fq.rhi c d = Fq.wD g2 r2) : Fq.snd (opP (Fq.rhi c d)) (opP (Fq.rlo c d)) = true := by
  have i1 := rlo_inf c d s2 n2 m2 e3
  have i2 := rhi_inf c d s2 g2 r2 e4
  have ho : Fq.plz n2 m2 ≤ Fq.plz g2 r2 := by
    obtain ⟨n, m, hm, rfl⟩ := Fq.exD c hc
    obtain ⟨n', m', hm', rfl⟩ := Fq.exD d hd
    have es := Fq.snd_w n n' m m' hm hm'
    rw [s2] at es
    have es := of_decide_eq_true es.symm
    have h1 : Fq.pla (Fq.wD n m) = Fq.wD n2 m2 := by rw [← e3]; simp [Fq.rlo, s2]
    have h2 : Fq.pla (Fq.wD n' m') = Fq.wD g2 r2 := by rw [← e4]; simp [Fq.rhi, s2]
    have pz : ∀ (n : Bool) (m : Nat) (n2 : Bool) (m2 : Nat), m < 9223372036854775808 → m2 ≤ 9218868437227405312 → Fq.pla (Fq.wD n m) = Fq.wD n2 m2 → Fq.plz n2 m2 = Fq.plz n m := by
      intro n m n2 m2 hm l h
      unfold Fq.pla at h
      by_cases c0 : Fq.wD n m = 9223372036854775808
      · rw [if_pos c0] at h
        have e1 := wD_inj6 n true m 0 (by omega) (by decide) (c0.trans rfl)
        have e2 := wD_inj6 n2 false m2 0 (by omega) (by decide) (h.symm.trans rfl)
        rw [e1.1, e1.2, e2.1, e2.2]; rfl
      · rw [if_neg c0] at h
        obtain ⟨rfl, rfl⟩ := wD_inj6 n n2 m m2 (by omega) (by omega) h
        rfl
    rw [pz n m n2 m2 hm l3 h1, pz n' m' g2 r2 hm' l4 h2]
    exact es.2.2.1
  rw [e3, e4, opP_w n2 m2 (by omega), opP_w g2 r2 (by omega)]
  unfold mnP
  have pw : ∀ (n : Bool) (m : Nat), m < 9223372036854775808 → ∃ n' : Bool, Fq.pla (Fq.wD n m) = Fq.wD n' m ∧ Fq.plz n' m = Fq.plz n m ∧ (m ≠ 0 → n' = n) := by
    intro n m hm0
    by_cases c0 : Fq.wD n m = 9223372036854775808
    · refine ⟨false, ?_, ?_, ?_⟩
      · have h0 : n = true ∧ m = 0 := by
          exact wD_inj6 n true m 0 hm0 (by decide) (c0.trans rfl)
        unfold Fq.pla; rw [if_pos c0, h0.2]; rfl
      · have h0 : n = true ∧ m = 0 := by
          exact wD_inj6 n true m 0 hm0 (by decide) (c0.trans rfl)
        rw [h0.1, h0.2]; rfl
      · intro h
        have h0 : n = true ∧ m = 0 := by
          exact wD_inj6 n true m 0 hm0 (by decide) (c0.trans rfl)
        exact absurd h0.2 h
    · exact ⟨n, by unfold Fq.pla; rw [if_neg c0], rfl, fun _ => rfl⟩
  obtain ⟨u, a1, a2, a3⟩ := pw (!g2) r2 (by omega)
  obtain ⟨v, b1, b2, b3⟩ := pw (!n2) m2 (by omega)
  rw [a1, b1, Fq.snd_w u v r2 m2 (by omega) (by omega)]
  have tz : ∀ (n : Bool) (m : Nat), Fq.plz (!n) m = - Fq.plz n m := by intro n m; unfold Fq.plz; cases n <;> simp
  refine decide_eq_true ⟨l4, l3, ?_, ?_, ?_⟩
  · rw [a2, b2, tz, tz]; omega
  · rintro ⟨h1, h2⟩
    have := a3 (by omega)
    rw [i2 h2] at this
    rw [h1] at this; cases this
  · rintro ⟨h1, h2⟩
    have := b3 (by omega)
    rw [i1 h2] at this
    rw [h1] at this; cases this
theorem sub_both6 (a b c d : Nat) (ha : a < 18446744073709551616) (hb : b < 18446744073709551616) (hc : c < 18446744073709551616) (hd : d < 18446744073709551616) : ∃ LO HI : Nat, (∀ w : World, Tab w → Fq.Tab w → Calls Tryz.prog 9 #[.agg #[.float .f64 a, .float .f64 b], .agg #[.float .f64 c, .float .f64 d]] w fun e w' => e = .returned (.agg #[.float .f64 LO, .float .f64 HI]) ∧ Kp w w') ∧ (∀ w : World, Calls Tryz.prog 10 #[.agg #[.int .u64 ((a : Nat) : Int), .int .u64 ((b : Nat) : Int)], .agg #[.int .u64 ((c : Nat) : Int), .int .u64 ((d : Nat) : Int)]] w fun e w' => e = .returned (.agg #[.int .u64 ((LO : Nat) : Int), .int .u64 ((HI : Nat) : Int)]) ∧ Kp w w') := by
  have hN := neg6_ c d hc hd
  have bl : opP (Fq.rhi c d) < 18446744073709551616 := opP_lt _ (Fq.rhi_lt c d hd)
  have bh : opP (Fq.rlo c d) < 18446744073709551616 := opP_lt _ (Fq.rlo_lt c d hc)
  by_cases s2 : Fq.snd c d = true
  · obtain ⟨n2, m2, l3, e3⟩ := rlo_w c d hc hd
    obtain ⟨g2, r2, l4, e4⟩ := rhi_w c d hc hd
    have s3 := neg_sound c d hc hd s2 n2 g2 m2 r2 l3 l4 e3 e4
    by_cases s1 : Fq.snd a b = true
    · obtain ⟨n1, m1, l1, e1⟩ := rlo_w a b ha hb
      obtain ⟨g1, r1, l2, e2⟩ := rhi_w a b ha hb
      obtain ⟨n3, m3, l5, e5⟩ := rlo_w (opP (Fq.rhi c d)) (opP (Fq.rlo c d)) bl bh
      obtain ⟨g3, r3, l6, e6⟩ := rhi_w (opP (Fq.rhi c d)) (opP (Fq.rlo c d)) bl bh
      have q1 : (m3 = 9218868437227405312 ↔ r2 = 9218868437227405312) ∧ Iv n3 m3 = Iv (!g2) r2 := by
        refine pl_same n3 (!g2) m3 r2 l5 l4 ?_
        rw [← e5]
        have h1 : Fq.rlo (opP (Fq.rhi c d)) (opP (Fq.rlo c d)) = Fq.pla (opP (Fq.rhi c d)) := by rw [Fq.rlo, if_pos s3]
        have h2 : opP (Fq.rhi c d) = Fq.pla (Fq.wD (!g2) r2) := by rw [e4, opP_w g2 r2 (by omega)]; rfl
        rw [h1, h2]
        exact pla_pla _
      have q2 : (r3 = 9218868437227405312 ↔ m2 = 9218868437227405312) ∧ Iv g3 r3 = Iv (!n2) m2 := by
        refine pl_same g3 (!n2) r3 m2 l6 l3 ?_
        rw [← e6]
        have h1 : Fq.rhi (opP (Fq.rhi c d)) (opP (Fq.rlo c d)) = Fq.pla (opP (Fq.rlo c d)) := by rw [Fq.rhi, if_pos s3]
        have h2 : opP (Fq.rlo c d) = Fq.pla (Fq.wD (!n2) m2) := by rw [e3, opP_w n2 m2 (by omega)]; rfl
        rw [h1, h2]
        exact pla_pla _
      refine ⟨loA n1 m1 (!g2) r2, hiA g1 r1 (!n2) m2, fun w hT hQ => ?_, fun w => ?_⟩
      · refine sub6c_ a b c d _ _ _ _ w hN (fun W y => ?_)
        rw [← loA_same n1 m1 n3 (!g2) m3 r2 q1, ← hiA_same g1 r1 g3 (!n2) r3 m2 q2]
        refine add6n_ a b _ _ _ _ _ _ _ _ (Fq.read_ a b ha hb) (Fq.read_ _ _ bl bh) (void6_ a b ha hb false (by simpa using s1)) (void6_ _ _ bl bh false (by simpa using s3)) W ?_ ?_
        · intro W' y'
          rw [e1, e5]
          exact addLo_ n1 n3 m1 m3 l1 l5 (rlo_inf a b s1 n1 m1 e1) (rlo_inf _ _ s3 n3 m3 e5) W' (hT.grown (y.trans y')) (Fq.Tab.grown hQ (y.trans y'))
        · intro W' y'
          rw [e2, e6]
          exact addHi_ g1 g3 r1 r3 l2 l6 (rhi_inf a b s1 g1 r1 e2) (rhi_inf _ _ s3 g3 r3 e6) W' (hT.grown (y.trans y')) (Fq.Tab.grown hQ (y.trans y'))
      · exact rsub6c_ _ _ _ _ _ _ (SV1 n1 m1 g1 r1) (SV1 n2 m2 g2 r2) (SV3 n1 g1 (!g2) (!n2) m1 r1 r2 m2) (SV1 (!g2) r2 (!n2) m2) w (fun W W' v y h => h.kp y) (fun W _ => ofSound_ a b ha hb s1 n1 g1 m1 r1 l1 l2 e1 e2 W) (fun W _ => ofSound_ c d hc hd s2 n2 g2 m2 r2 l3 l4 e3 e4 W) (fun W v _ h => minusS_ n2 g2 m2 r2 W v h) (fun W u v _ h1 h2 => plusS_ n1 g1 (!g2) (!n2) m1 r1 r2 m2 W u v h1 h2) (fun W v _ h => leastS_ n1 g1 (!g2) (!n2) m1 r1 r2 m2 W v h)
    · have s1 : Fq.snd a b = false := by simpa using s1
      refine ⟨9218868437227405312, 18442240474082181120, fun w hT hQ => ?_, fun w => ?_⟩
      · refine sub6c_ a b c d _ _ _ _ w hN (fun W y => ?_)
        exact add6v1_ a b _ _ _ _ _ _ (Fq.read_ a b ha hb) (Fq.read_ _ _ bl bh) (void6_ a b ha hb true (by simpa using s1)) empty6K_ W
      · refine rsub6c_ _ _ _ _ _ _ (fun _ v => SV0 (!(Fq.snd a b)) v) (SV1 n2 m2 g2 r2) (fun _ v => SV0 true v) (SV1 (!g2) r2 (!n2) m2) w (fun W W' v y h => h) (fun W _ => of0_ a b ha hb W) (fun W _ => ofSound_ c d hc hd s2 n2 g2 m2 r2 l3 l4 e3 e4 W) (fun W v _ h => minusS_ n2 g2 m2 r2 W v h) (fun W u v _ h1 h2 => plusX_ _ false ?_ W u v h1 h2.sv0) (fun W v _ h => leastN_ W v h)
        rw [s1]; exact .inl rfl
  · have s2 : Fq.snd c d = false := by simpa using s2
    have r1 : opP (Fq.rhi c d) = 9218868437227405312 := by rw [show Fq.rhi c d = 18442240474082181120 from by rw [Fq.rhi, if_neg (by rw [s2]; decide)]]; decide +kernel
    have r2 : opP (Fq.rlo c d) = 18442240474082181120 := by rw [show Fq.rlo c d = 9218868437227405312 from by rw [Fq.rlo, if_neg (by rw [s2]; decide)]]; decide +kernel
    rw [r1, r2] at hN
    have s3 : Fq.snd 9218868437227405312 18442240474082181120 = false := by decide +kernel
    refine ⟨9218868437227405312, 18442240474082181120, fun w hT hQ => ?_, fun w => ?_⟩
    · refine sub6c_ a b c d _ _ _ _ w hN (fun W y => ?_)
      obtain ⟨LO, HI, p1, -⟩ := add_both6 a b 9218868437227405312 18442240474082181120 ha hb (by decide) (by decide)
      by_cases s1 : Fq.snd a b = true
      · exact add6v2_ a b 9218868437227405312 18442240474082181120 _ _ _ _ (Fq.read_ a b ha hb) (Fq.read_ 9218868437227405312 18442240474082181120 (by decide) (by decide)) (void6_ a b ha hb false (by simpa using s1)) (void6_ 9218868437227405312 18442240474082181120 (by decide) (by decide) true (by simpa using s3)) empty6K_ W
      · have s1 : Fq.snd a b = false := by simpa using s1
        exact add6v1_ a b 9218868437227405312 18442240474082181120 _ _ _ _ (Fq.read_ a b ha hb) (Fq.read_ 9218868437227405312 18442240474082181120 (by decide) (by decide)) (void6_ a b ha hb true (by simpa using s1)) empty6K_ W
    · have oe : ∀ W : World, Kp w W → Calls Tryz.prog 19 #[.agg #[.int .u64 ((c : Nat) : Int), .int .u64 ((d : Nat) : Int)]] W fun e w' => ∃ v, e = .returned v ∧ SV0 true v ∧ Kp W w' := fun W _ => ofEmpty_ c d hc hd s2 W
      exact rsub6c_ _ _ _ _ _ _ (fun _ v => SV0 (!(Fq.snd a b)) v) (fun _ v => SV0 true v) (fun _ v => SV0 true v) (fun _ v => SV0 true v) w (fun W W' v y h => h) (fun W _ => of0_ a b ha hb W) oe (fun W v _ h => minusX_ W v h) (fun W u v _ h1 h2 => plusX_ _ true (.inr rfl) W u v h1 h2) (fun W v _ h => leastN_ W v h)
set_option maxRecDepth 20000 in
set_option maxHeartbeats 4000000 in
theorem ivsubs_ (a b c d : Nat) (ha : a < 18446744073709551616) (hb : b < 18446744073709551616) (hc : c < 18446744073709551616) (hd : d < 18446744073709551616) (w : World) (hT : Tab w) (hQ : Fq.Tab w) : Calls Tryz.prog 4 #[.agg #[.int .u64 ((a : Nat) : Int), .int .u64 ((b : Nat) : Int)], .agg #[.int .u64 ((c : Nat) : Int), .int .u64 ((d : Nat) : Int)]] w fun e w' => e = .returned (.bool true) ∧ Kp w w' := by
  obtain ⟨LO, HI, hP0, hR⟩ := sub_both6 a b c d ha hb hc hd
  have hP : ∀ W : World, Kp w W → Calls Tryz.prog 9 #[.agg #[.float .f64 a, .float .f64 b], .agg #[.float .f64 c, .float .f64 d]] W fun e w' => e = .returned (.agg #[.float .f64 LO, .float .f64 HI]) ∧ Kp W w' := fun W g => hP0 W (hT.grown g) (Fq.Tab.grown hQ g)
  have h1 := Fq.in_ a b
  have h2 := Fq.in_ c d
  have hO := Fq.out_ LO HI
  clear hP0 hT hQ ha hb hc hd
  generalize (LO : Int) = LI at hR hO
  generalize (HI : Int) = HJ at hR hO
  generalize (a : Int) = X at h1 hR ⊢
  generalize (b : Int) = Y at h1 hR ⊢
  generalize (c : Int) = Z at h2 hR ⊢
  generalize (d : Int) = V at h2 hR ⊢
  go_enter Tryz.func4, Tryz.ntmps4
  go_wp2
  refine Fq.wp_region_grow (by kernel_rfl) (by kernel_rfl) (fun ι _ G hG hall => ?_)
  have cc0 : ∀ n, (G n).cell? ⟨w.heap.size, 0, none⟩ = some (.int .u64 X) := fun n => Fq.gkeep (hG n) (by simp [go_sem])
  have cc1 : ∀ n, (G n).cell? ⟨w.heap.size, 1, none⟩ = some (.int .u64 Y) := fun n => Fq.gkeep (hG n) (by simp [go_sem])
  have cc2 : ∀ n, (G n).cell? ⟨w.heap.size + 1, 0, none⟩ = some (.int .u64 Z) := fun n => Fq.gkeep (hG n) (by simp [go_sem])
  have cc3 : ∀ n, (G n).cell? ⟨w.heap.size + 1, 1, none⟩ = some (.int .u64 V) := fun n => Fq.gkeep (hG n) (by simp [go_sem])
  have kG : ∀ n, Kp w (G n) := fun n => Kp.trans (((Kp.refl w).alloc _).alloc _) (hG n)
  repeat (go_big_quiet_step (first | (go_at_call_of 7 (Value.int .u64 X); exact (h1 _).mono (fun e w' h => ⟨h.1, hall _ (Fq.gtrans (hG _) h.2)⟩)) | (go_at_call_of 7 (Value.int .u64 Z); exact (h2 _).mono (fun e w' h => ⟨h.1, hall _ (Fq.gtrans (hG _) h.2)⟩)) | (go_at_call 9; exact (hP _ (kG _)).mono (fun e w' h => ⟨h.1, hall _ (Fq.gtrans (hG _) h.2)⟩)) | (go_at_call 5; exact (hO _).mono (fun e w' h => ⟨h.1, hall _ (Fq.gtrans (hG _) h.2)⟩)) | (go_at_call 10; exact (hR _).mono (fun e w' h => ⟨h.1, hall _ (Fq.gtrans (hG _) h.2)⟩))))
  refine wpQuiet_nil ?_
  rintro _ ⟨nq, rfl⟩
  have gq := kG nq
  clear cc0 cc1 cc2 cc3 hall hG kG
  go_wp2
  exact bodyPost_ret (v := .bool true) (by simp [results, Tryz.results4, go_sem]) rfl ⟨rfl, gq⟩
end Go.Proofs.YtejklhnhggaolaaGreatDoor
