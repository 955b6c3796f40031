import Derived.Test.YtolghomhigemgaaProg
import Derived.Test.YtolghomhigemgaaKXA0
import Derived.Test.YtolghomhigemgaaKXM
import Derived.Test.YtolghomhigemgaaKXY
import Derived.Test.YtolghomhigemgaaKEKF
import Derived.Test.YtolghomhigemgaaKXLB
import Derived.Test.YtolghomhigemgaaKXG1
import Derived.Test.YtolghomhigemgaaKTMR
import Derived.Test.YtolghomhigemgaaKXT
import Derived.Test.YtolghomhigemgaaKRX
import Derived.Test.YtolghomhigemgaaKXRL
import Derived.Test.YtolghomhigemgaaKXCO
import Derived.Test.YtolghomhigemgaaKLN
import Derived.Test.YtolghomhigemgaaKXRN
import Derived.Test.YtolghomhigemgaaKW4
import Derived.Test.YtolghomhigemgaaKBY
import Derived.Test.YtolghomhigemgaaKBW
import Derived.Test.YtolghomhigemgaaKXTZ
import Derived.Test.YtolghomhigemgaaKNSm
import Derived.Test.YtolghomhigemgaaKXG4
import Derived.Test.YtolghomhigemgaaKXQF
import Derived.Test.YtolghomhigemgaaKQA
import Derived.Test.YtolghomhigemgaaKXQU
import Derived.Test.YtolghomhigemgaaKXEA
import Derived.Test.YtolghomhigemgaaKXEE
import Derived.Test.YtolghomhigemgaaKMR7Q
import Derived.Test.YtolghomhigemgaaKXMR
import Derived.Test.YtolghomhigemgaaKXM3
import Derived.Test.YtolghomhigemgaaKXO
import Derived.Test.YtolghomhigemgaaKXO3
import Derived.Test.YtolghomhigemgaaKXH2Q
import Derived.Test.YtolghomhigemgaaKXET
import Derived.Test.YtolghomhigemgaaKXME
import Derived.WalkKit
import Derived.ProofKit
import Derived.RowKit3
import Derived.WalkSpells
import Derived.StillTactics
import Derived.Deep.QuietTactic
import Derived.BigQuiet
import Derived.Below
import Derived.Deep.OwnRows
import Derived.OwnWalk
import Derived.Laws.BitsAllLaws
import Derived.Laws.Slices
import Derived.Laws.Bits64b
import Derived.Deep.RegionHeld3
import Derived.Laws.FloatArith
namespace Go.Proofs.Ytolghomhigemgaa
open Go.RowKit
set_option maxRecDepth 20000 in
set_option maxHeartbeats 1000000 in
theorem rcmpL_ (S T9 : Int) (s : Bool) (p : Option Addr) (l c : Nat) (q : Option Addr) (k d : Nat) (s2 : Bool) (p2 : Option Addr) (l2 c2 : Nat) (q2 : Option Addr) (k2 d2 : Nat) (w : World) (hs1 : ∀ W : World, Kp w W → Calls Try.prog 13 #[.agg #[.bool s, .slice p l c, .slice q k d]] W fun e w' => e = .returned (.int .i64 S) ∧ Kp W w') (hs2 : ∀ W : World, Kp w W → Calls Try.prog 13 #[.agg #[.bool s2, .slice p2 l2 c2, .slice q2 k2 d2]] W fun e w' => e = .returned (.int .i64 T9) ∧ Kp W w') (t1 : S < T9) : Calls Try.prog 15 #[.agg #[.bool s, .slice p l c, .slice q k d], .agg #[.bool s2, .slice p2 l2 c2, .slice q2 k2 d2]] w fun e w' => e = .returned (.int .i64 (-1)) ∧ Kp w w' := by
  go_enter Try.func15, Try.ntmps15
  go_wp2_with (first | (go_at_call_of 13 (Value.slice p l c); refine (hs1 _ ?q0).mono ?_; (case q0 => exact ((Kp.refl w).alloc _).alloc _); rintro e wa ⟨rfl, ga⟩; have ka : Kp w wa := Kp.trans (((Kp.refl w).alloc _).alloc _) ga; have x0 := kkeep ga (b := w.heap.size) (o := 0) (v := .bool s) (by simp [go_sem]); have x1 := kkeep ga (b := w.heap.size) (o := 1) (v := .slice p l c) (by simp [go_sem]); have x2 := kkeep ga (b := w.heap.size) (o := 2) (v := .slice q k d) (by simp [go_sem]); have x3 := kkeep ga (b := w.heap.size + 1) (o := 0) (v := .bool s2) (by simp [go_sem]); have x4 := kkeep ga (b := w.heap.size + 1) (o := 1) (v := .slice p2 l2 c2) (by simp [go_sem]); have x5 := kkeep ga (b := w.heap.size + 1) (o := 2) (v := .slice q2 k2 d2) (by simp [go_sem])) | (go_at_call_of 13 (Value.slice p2 l2 c2); refine (hs2 _ ?q0).mono ?_; (case q0 => exact ka); rintro e wb ⟨rfl, gb⟩; have kb : Kp w wb := Kp.trans ka gb; have y0 := kkeep gb x0; have y1 := kkeep gb x1; have y2 := kkeep gb x2; have y3 := kkeep gb x3; have y4 := kkeep gb x4; have y5 := kkeep gb x5))
  exact bodyPost_ret (v := .int .i64 (-1)) (by simp [results, Try.results15, go_sem]) rfl ⟨rfl, kb⟩
set_option maxRecDepth 20000 in
set_option maxHeartbeats 1000000 in
theorem rcmpG_ (S T9 : Int) (s : Bool) (p : Option Addr) (l c : Nat) (q : Option Addr) (k d : Nat) (s2 : Bool) (p2 : Option Addr) (l2 c2 : Nat) (q2 : Option Addr) (k2 d2 : Nat) (w : World) (hs1 : ∀ W : World, Kp w W → Calls Try.prog 13 #[.agg #[.bool s, .slice p l c, .slice q k d]] W fun e w' => e = .returned (.int .i64 S) ∧ Kp W w') (hs2 : ∀ W : World, Kp w W → Calls Try.prog 13 #[.agg #[.bool s2, .slice p2 l2 c2, .slice q2 k2 d2]] W fun e w' => e = .returned (.int .i64 T9) ∧ Kp W w') (t2 : T9 < S) : Calls Try.prog 15 #[.agg #[.bool s, .slice p l c, .slice q k d], .agg #[.bool s2, .slice p2 l2 c2, .slice q2 k2 d2]] w fun e w' => e = .returned (.int .i64 1) ∧ Kp w w' := by
  go_enter Try.func15, Try.ntmps15
  go_wp2_with (first | (go_at_call_of 13 (Value.slice p l c); refine (hs1 _ ?q0).mono ?_; (case q0 => exact ((Kp.refl w).alloc _).alloc _); rintro e wa ⟨rfl, ga⟩; have ka : Kp w wa := Kp.trans (((Kp.refl w).alloc _).alloc _) ga; have x0 := kkeep ga (b := w.heap.size) (o := 0) (v := .bool s) (by simp [go_sem]); have x1 := kkeep ga (b := w.heap.size) (o := 1) (v := .slice p l c) (by simp [go_sem]); have x2 := kkeep ga (b := w.heap.size) (o := 2) (v := .slice q k d) (by simp [go_sem]); have x3 := kkeep ga (b := w.heap.size + 1) (o := 0) (v := .bool s2) (by simp [go_sem]); have x4 := kkeep ga (b := w.heap.size + 1) (o := 1) (v := .slice p2 l2 c2) (by simp [go_sem]); have x5 := kkeep ga (b := w.heap.size + 1) (o := 2) (v := .slice q2 k2 d2) (by simp [go_sem])) | (go_at_call_of 13 (Value.slice p2 l2 c2); refine (hs2 _ ?q0).mono ?_; (case q0 => exact ka); rintro e wb ⟨rfl, gb⟩; have kb : Kp w wb := Kp.trans ka gb; have y0 := kkeep gb x0; have y1 := kkeep gb x1; have y2 := kkeep gb x2; have y3 := kkeep gb x3; have y4 := kkeep gb x4; have y5 := kkeep gb x5))
  exact bodyPost_ret (v := .int .i64 1) (by simp [results, Try.results15, go_sem]) rfl ⟨rfl, kb⟩
set_option maxRecDepth 20000 in
set_option maxHeartbeats 1000000 in
theorem rcmpZ_ (S C9 : Int) (P1 P2 : World → Value → Prop) (s : Bool) (p : Option Addr) (l c : Nat) (q : Option Addr) (k d : Nat) (s2 : Bool) (p2 : Option Addr) (l2 c2 : Nat) (q2 : Option Addr) (k2 d2 : Nat) (w : World) (hk1 : ∀ (W W' : World) (v : Value), Kp W W' → P1 W v → P1 W' v) (hs1 : ∀ W : World, Kp w W → Calls Try.prog 13 #[.agg #[.bool s, .slice p l c, .slice q k d]] W fun e w' => e = .returned (.int .i64 S) ∧ Kp W w') (hs2 : ∀ W : World, Kp w W → Calls Try.prog 13 #[.agg #[.bool s2, .slice p2 l2 c2, .slice q2 k2 d2]] W fun e w' => e = .returned (.int .i64 S) ∧ Kp W w') (hT1 : ∀ W : World, Kp w W → Calls Try.prog 29 #[.slice p l c, .slice q2 k2 d2] W fun e w' => ∃ v, e = .returned v ∧ P1 w' v ∧ Kp W w') (hT2 : ∀ W : World, Kp w W → Calls Try.prog 29 #[.slice p2 l2 c2, .slice q k d] W fun e w' => ∃ v, e = .returned v ∧ P2 w' v ∧ Kp W w') (hC : ∀ (W : World) (u v : Value), Kp w W → P1 W u → P2 W v → Calls Try.prog 28 #[u, v] W fun e w' => e = .returned (.int .i64 C9) ∧ Kp W w') (t3 : (S == 0) = true) : Calls Try.prog 15 #[.agg #[.bool s, .slice p l c, .slice q k d], .agg #[.bool s2, .slice p2 l2 c2, .slice q2 k2 d2]] w fun e w' => e = .returned (.int .i64 0) ∧ Kp w w' := by
  cases s
  · skip
    go_enter Try.func15, Try.ntmps15
    go_wp2_with (first | (go_at_call_of 13 (Value.slice p l c); refine (hs1 _ ?q0).mono ?_; (case q0 => exact ((Kp.refl w).alloc _).alloc _); rintro e wa ⟨rfl, ga⟩; have ka : Kp w wa := Kp.trans (((Kp.refl w).alloc _).alloc _) ga; have x0 := kkeep ga (b := w.heap.size) (o := 0) (v := .bool false) (by simp [go_sem]); have x1 := kkeep ga (b := w.heap.size) (o := 1) (v := .slice p l c) (by simp [go_sem]); have x2 := kkeep ga (b := w.heap.size) (o := 2) (v := .slice q k d) (by simp [go_sem]); have x3 := kkeep ga (b := w.heap.size + 1) (o := 0) (v := .bool s2) (by simp [go_sem]); have x4 := kkeep ga (b := w.heap.size + 1) (o := 1) (v := .slice p2 l2 c2) (by simp [go_sem]); have x5 := kkeep ga (b := w.heap.size + 1) (o := 2) (v := .slice q2 k2 d2) (by simp [go_sem])) | (go_at_call_of 13 (Value.slice p2 l2 c2); refine (hs2 _ ?q0).mono ?_; (case q0 => exact ka); rintro e wb ⟨rfl, gb⟩; have kb : Kp w wb := Kp.trans ka gb; have y0 := kkeep gb x0; have y1 := kkeep gb x1; have y2 := kkeep gb x2; have y3 := kkeep gb x3; have y4 := kkeep gb x4; have y5 := kkeep gb x5))
    have dd0 : True := trivial
    have dw0 : wb.drew.cell? ⟨w.heap.size, 0, none⟩ = some (.bool false) := y0
    have dw1 : wb.drew.cell? ⟨w.heap.size, 1, none⟩ = some (.slice p l c) := y1
    have dw2 : wb.drew.cell? ⟨w.heap.size, 2, none⟩ = some (.slice q k d) := y2
    have dw3 : wb.drew.cell? ⟨w.heap.size + 1, 0, none⟩ = some (.bool s2) := y3
    have dw4 : wb.drew.cell? ⟨w.heap.size + 1, 1, none⟩ = some (.slice p2 l2 c2) := y4
    have dw5 : wb.drew.cell? ⟨w.heap.size + 1, 2, none⟩ = some (.slice q2 k2 d2) := y5
    go_region_held3 (fun w' => w'.cell? ⟨w.heap.size, 0, none⟩ = some (.bool false) ∧ w'.cell? ⟨w.heap.size, 1, none⟩ = some (.slice p l c) ∧ w'.cell? ⟨w.heap.size, 2, none⟩ = some (.slice q k d) ∧ w'.cell? ⟨w.heap.size + 1, 0, none⟩ = some (.bool s2) ∧ w'.cell? ⟨w.heap.size + 1, 1, none⟩ = some (.slice p2 l2 c2) ∧ w'.cell? ⟨w.heap.size + 1, 2, none⟩ = some (.slice q2 k2 d2)) (first | (with_reducible exact ⟨dw0, dw1, dw2, dw3, dw4, dw5⟩) | (with_reducible exact ⟨y0, y1, y2, y3, y4, y5⟩) | (with_reducible exact ⟨a0, a1, a2, a3, a4, a5⟩) | (with_reducible exact ⟨b0, b1, b2, b3, b4, b5⟩) | (with_reducible exact ⟨e0, e1, e2, e3, e4, e5⟩)) (first | (go_at_call_of 29 (Value.slice p l c); refine (hT1 _ ?q0).mono ?_; (case q0 => exact kb.drew); rintro e wc ⟨u9, rfl, hu, gc⟩; have kc : Kp w wc := Kp.trans kb.drew gc; have a0 := kkeep (Kp.trans (Kp.drew (Kp.refl _)) gc) y0; have a1 := kkeep (Kp.trans (Kp.drew (Kp.refl _)) gc) y1; have a2 := kkeep (Kp.trans (Kp.drew (Kp.refl _)) gc) y2; have a3 := kkeep (Kp.trans (Kp.drew (Kp.refl _)) gc) y3; have a4 := kkeep (Kp.trans (Kp.drew (Kp.refl _)) gc) y4; have a5 := kkeep (Kp.trans (Kp.drew (Kp.refl _)) gc) y5) | (go_at_call_of 29 (Value.slice p2 l2 c2); refine (hT2 _ ?q0).mono ?_; (case q0 => exact kc); rintro e wd ⟨v9, rfl, hv, gd⟩; have kd : Kp w wd := Kp.trans kc gd; have hu2 := hk1 _ _ _ gd hu; have b0 := kkeep gd a0; have b1 := kkeep gd a1; have b2 := kkeep gd a2; have b3 := kkeep gd a3; have b4 := kkeep gd a4; have b5 := kkeep gd a5) | (go_at_call 28; refine (hC _ u9 v9 kd hu2 hv).mono ?_; rintro e we ⟨rfl, ge⟩; have ke : Kp w we := Kp.trans kd ge; have e0 := kkeep ge b0; have e1 := kkeep ge b1; have e2 := kkeep ge b2; have e3 := kkeep ge b3; have e4 := kkeep ge b4; have e5 := kkeep ge b5))
    go_wp2
    exact bodyPost_ret (v := .int .i64 0) (by simp [results, Try.results15, go_sem]) rfl ⟨rfl, ke⟩
  · skip
    go_enter Try.func15, Try.ntmps15
    go_wp2_with (first | (go_at_call_of 13 (Value.slice p l c); refine (hs1 _ ?q0).mono ?_; (case q0 => exact ((Kp.refl w).alloc _).alloc _); rintro e wa ⟨rfl, ga⟩; have ka : Kp w wa := Kp.trans (((Kp.refl w).alloc _).alloc _) ga; have x0 := kkeep ga (b := w.heap.size) (o := 0) (v := .bool true) (by simp [go_sem]); have x1 := kkeep ga (b := w.heap.size) (o := 1) (v := .slice p l c) (by simp [go_sem]); have x2 := kkeep ga (b := w.heap.size) (o := 2) (v := .slice q k d) (by simp [go_sem]); have x3 := kkeep ga (b := w.heap.size + 1) (o := 0) (v := .bool s2) (by simp [go_sem]); have x4 := kkeep ga (b := w.heap.size + 1) (o := 1) (v := .slice p2 l2 c2) (by simp [go_sem]); have x5 := kkeep ga (b := w.heap.size + 1) (o := 2) (v := .slice q2 k2 d2) (by simp [go_sem])) | (go_at_call_of 13 (Value.slice p2 l2 c2); refine (hs2 _ ?q0).mono ?_; (case q0 => exact ka); rintro e wb ⟨rfl, gb⟩; have kb : Kp w wb := Kp.trans ka gb; have y0 := kkeep gb x0; have y1 := kkeep gb x1; have y2 := kkeep gb x2; have y3 := kkeep gb x3; have y4 := kkeep gb x4; have y5 := kkeep gb x5))
    have dd0 : True := trivial
    have dw0 : wb.drew.cell? ⟨w.heap.size, 0, none⟩ = some (.bool true) := y0
    have dw1 : wb.drew.cell? ⟨w.heap.size, 1, none⟩ = some (.slice p l c) := y1
    have dw2 : wb.drew.cell? ⟨w.heap.size, 2, none⟩ = some (.slice q k d) := y2
    have dw3 : wb.drew.cell? ⟨w.heap.size + 1, 0, none⟩ = some (.bool s2) := y3
    have dw4 : wb.drew.cell? ⟨w.heap.size + 1, 1, none⟩ = some (.slice p2 l2 c2) := y4
    have dw5 : wb.drew.cell? ⟨w.heap.size + 1, 2, none⟩ = some (.slice q2 k2 d2) := y5
    go_region_held3 (fun w' => w'.cell? ⟨w.heap.size, 0, none⟩ = some (.bool true) ∧ w'.cell? ⟨w.heap.size, 1, none⟩ = some (.slice p l c) ∧ w'.cell? ⟨w.heap.size, 2, none⟩ = some (.slice q k d) ∧ w'.cell? ⟨w.heap.size + 1, 0, none⟩ = some (.bool s2) ∧ w'.cell? ⟨w.heap.size + 1, 1, none⟩ = some (.slice p2 l2 c2) ∧ w'.cell? ⟨w.heap.size + 1, 2, none⟩ = some (.slice q2 k2 d2)) (first | (with_reducible exact ⟨dw0, dw1, dw2, dw3, dw4, dw5⟩) | (with_reducible exact ⟨y0, y1, y2, y3, y4, y5⟩) | (with_reducible exact ⟨a0, a1, a2, a3, a4, a5⟩) | (with_reducible exact ⟨b0, b1, b2, b3, b4, b5⟩) | (with_reducible exact ⟨e0, e1, e2, e3, e4, e5⟩)) (first | (go_at_call_of 29 (Value.slice p l c); refine (hT1 _ ?q0).mono ?_; (case q0 => exact kb.drew); rintro e wc ⟨u9, rfl, hu, gc⟩; have kc : Kp w wc := Kp.trans kb.drew gc; have a0 := kkeep (Kp.trans (Kp.drew (Kp.refl _)) gc) y0; have a1 := kkeep (Kp.trans (Kp.drew (Kp.refl _)) gc) y1; have a2 := kkeep (Kp.trans (Kp.drew (Kp.refl _)) gc) y2; have a3 := kkeep (Kp.trans (Kp.drew (Kp.refl _)) gc) y3; have a4 := kkeep (Kp.trans (Kp.drew (Kp.refl _)) gc) y4; have a5 := kkeep (Kp.trans (Kp.drew (Kp.refl _)) gc) y5) | (go_at_call_of 29 (Value.slice p2 l2 c2); refine (hT2 _ ?q0).mono ?_; (case q0 => exact kc); rintro e wd ⟨v9, rfl, hv, gd⟩; have kd : Kp w wd := Kp.trans kc gd; have hu2 := hk1 _ _ _ gd hu; have b0 := kkeep gd a0; have b1 := kkeep gd a1; have b2 := kkeep gd a2; have b3 := kkeep gd a3; have b4 := kkeep gd a4; have b5 := kkeep gd a5) | (go_at_call 28; refine (hC _ u9 v9 kd hu2 hv).mono ?_; rintro e we ⟨rfl, ge⟩; have ke : Kp w we := Kp.trans kd ge; have e0 := kkeep ge b0; have e1 := kkeep ge b1; have e2 := kkeep ge b2; have e3 := kkeep ge b3; have e4 := kkeep ge b4; have e5 := kkeep ge b5))
    go_wp2
    exact bodyPost_ret (v := .int .i64 0) (by simp [results, Try.results15, go_sem]) rfl ⟨rfl, ke⟩
set_option maxRecDepth 20000 in
set_option maxHeartbeats 1000000 in
theorem rcmpP_ (S C9 : Int) (P1 P2 : World → Value → Prop) (p : Option Addr) (l c : Nat) (q : Option Addr) (k d : Nat) (s2 : Bool) (p2 : Option Addr) (l2 c2 : Nat) (q2 : Option Addr) (k2 d2 : Nat) (w : World) (hk1 : ∀ (W W' : World) (v : Value), Kp W W' → P1 W v → P1 W' v) (hs1 : ∀ W : World, Kp w W → Calls Try.prog 13 #[.agg #[.bool false, .slice p l c, .slice q k d]] W fun e w' => e = .returned (.int .i64 S) ∧ Kp W w') (hs2 : ∀ W : World, Kp w W → Calls Try.prog 13 #[.agg #[.bool s2, .slice p2 l2 c2, .slice q2 k2 d2]] W fun e w' => e = .returned (.int .i64 S) ∧ Kp W w') (hT1 : ∀ W : World, Kp w W → Calls Try.prog 29 #[.slice p l c, .slice q2 k2 d2] W fun e w' => ∃ v, e = .returned v ∧ P1 w' v ∧ Kp W w') (hT2 : ∀ W : World, Kp w W → Calls Try.prog 29 #[.slice p2 l2 c2, .slice q k d] W fun e w' => ∃ v, e = .returned v ∧ P2 w' v ∧ Kp W w') (hC : ∀ (W : World) (u v : Value), Kp w W → P1 W u → P2 W v → Calls Try.prog 28 #[u, v] W fun e w' => e = .returned (.int .i64 C9) ∧ Kp W w') (t3 : (S == 0) = false) : Calls Try.prog 15 #[.agg #[.bool false, .slice p l c, .slice q k d], .agg #[.bool s2, .slice p2 l2 c2, .slice q2 k2 d2]] w fun e w' => e = .returned (.int .i64 C9) ∧ Kp w w' := by
  go_enter Try.func15, Try.ntmps15
  go_wp2_with (first | (go_at_call_of 13 (Value.slice p l c); refine (hs1 _ ?q0).mono ?_; (case q0 => exact ((Kp.refl w).alloc _).alloc _); rintro e wa ⟨rfl, ga⟩; have ka : Kp w wa := Kp.trans (((Kp.refl w).alloc _).alloc _) ga; have x0 := kkeep ga (b := w.heap.size) (o := 0) (v := .bool false) (by simp [go_sem]); have x1 := kkeep ga (b := w.heap.size) (o := 1) (v := .slice p l c) (by simp [go_sem]); have x2 := kkeep ga (b := w.heap.size) (o := 2) (v := .slice q k d) (by simp [go_sem]); have x3 := kkeep ga (b := w.heap.size + 1) (o := 0) (v := .bool s2) (by simp [go_sem]); have x4 := kkeep ga (b := w.heap.size + 1) (o := 1) (v := .slice p2 l2 c2) (by simp [go_sem]); have x5 := kkeep ga (b := w.heap.size + 1) (o := 2) (v := .slice q2 k2 d2) (by simp [go_sem])) | (go_at_call_of 13 (Value.slice p2 l2 c2); refine (hs2 _ ?q0).mono ?_; (case q0 => exact ka); rintro e wb ⟨rfl, gb⟩; have kb : Kp w wb := Kp.trans ka gb; have y0 := kkeep gb x0; have y1 := kkeep gb x1; have y2 := kkeep gb x2; have y3 := kkeep gb x3; have y4 := kkeep gb x4; have y5 := kkeep gb x5))
  have dd0 : True := trivial
  have dw0 : wb.drew.cell? ⟨w.heap.size, 0, none⟩ = some (.bool false) := y0
  have dw1 : wb.drew.cell? ⟨w.heap.size, 1, none⟩ = some (.slice p l c) := y1
  have dw2 : wb.drew.cell? ⟨w.heap.size, 2, none⟩ = some (.slice q k d) := y2
  have dw3 : wb.drew.cell? ⟨w.heap.size + 1, 0, none⟩ = some (.bool s2) := y3
  have dw4 : wb.drew.cell? ⟨w.heap.size + 1, 1, none⟩ = some (.slice p2 l2 c2) := y4
  have dw5 : wb.drew.cell? ⟨w.heap.size + 1, 2, none⟩ = some (.slice q2 k2 d2) := y5
  go_region_held3 (fun w' => w'.cell? ⟨w.heap.size, 0, none⟩ = some (.bool false) ∧ w'.cell? ⟨w.heap.size, 1, none⟩ = some (.slice p l c) ∧ w'.cell? ⟨w.heap.size, 2, none⟩ = some (.slice q k d) ∧ w'.cell? ⟨w.heap.size + 1, 0, none⟩ = some (.bool s2) ∧ w'.cell? ⟨w.heap.size + 1, 1, none⟩ = some (.slice p2 l2 c2) ∧ w'.cell? ⟨w.heap.size + 1, 2, none⟩ = some (.slice q2 k2 d2)) (first | (with_reducible exact ⟨dw0, dw1, dw2, dw3, dw4, dw5⟩) | (with_reducible exact ⟨y0, y1, y2, y3, y4, y5⟩) | (with_reducible exact ⟨a0, a1, a2, a3, a4, a5⟩) | (with_reducible exact ⟨b0, b1, b2, b3, b4, b5⟩) | (with_reducible exact ⟨e0, e1, e2, e3, e4, e5⟩)) (first | (go_at_call_of 29 (Value.slice p l c); refine (hT1 _ ?q0).mono ?_; (case q0 => exact kb.drew); rintro e wc ⟨u9, rfl, hu, gc⟩; have kc : Kp w wc := Kp.trans kb.drew gc; have a0 := kkeep (Kp.trans (Kp.drew (Kp.refl _)) gc) y0; have a1 := kkeep (Kp.trans (Kp.drew (Kp.refl _)) gc) y1; have a2 := kkeep (Kp.trans (Kp.drew (Kp.refl _)) gc) y2; have a3 := kkeep (Kp.trans (Kp.drew (Kp.refl _)) gc) y3; have a4 := kkeep (Kp.trans (Kp.drew (Kp.refl _)) gc) y4; have a5 := kkeep (Kp.trans (Kp.drew (Kp.refl _)) gc) y5) | (go_at_call_of 29 (Value.slice p2 l2 c2); refine (hT2 _ ?q0).mono ?_; (case q0 => exact kc); rintro e wd ⟨v9, rfl, hv, gd⟩; have kd : Kp w wd := Kp.trans kc gd; have hu2 := hk1 _ _ _ gd hu; have b0 := kkeep gd a0; have b1 := kkeep gd a1; have b2 := kkeep gd a2; have b3 := kkeep gd a3; have b4 := kkeep gd a4; have b5 := kkeep gd a5) | (go_at_call 28; refine (hC _ u9 v9 kd hu2 hv).mono ?_; rintro e we ⟨rfl, ge⟩; have ke : Kp w we := Kp.trans kd ge; have e0 := kkeep ge b0; have e1 := kkeep ge b1; have e2 := kkeep ge b2; have e3 := kkeep ge b3; have e4 := kkeep ge b4; have e5 := kkeep ge b5))
  go_wp2
  exact bodyPost_ret (v := .int .i64 C9) (by simp [results, Try.results15, go_sem]) rfl ⟨rfl, ke⟩
set_option maxRecDepth 20000 in
set_option maxHeartbeats 1000000 in
theorem rcmpN_ (S C9 : Int) (P1 P2 : World → Value → Prop) (p : Option Addr) (l c : Nat) (q : Option Addr) (k d : Nat) (s2 : Bool) (p2 : Option Addr) (l2 c2 : Nat) (q2 : Option Addr) (k2 d2 : Nat) (w : World) (hk1 : ∀ (W W' : World) (v : Value), Kp W W' → P1 W v → P1 W' v) (hs1 : ∀ W : World, Kp w W → Calls Try.prog 13 #[.agg #[.bool true, .slice p l c, .slice q k d]] W fun e w' => e = .returned (.int .i64 S) ∧ Kp W w') (hs2 : ∀ W : World, Kp w W → Calls Try.prog 13 #[.agg #[.bool s2, .slice p2 l2 c2, .slice q2 k2 d2]] W fun e w' => e = .returned (.int .i64 S) ∧ Kp W w') (hT1 : ∀ W : World, Kp w W → Calls Try.prog 29 #[.slice p l c, .slice q2 k2 d2] W fun e w' => ∃ v, e = .returned v ∧ P1 w' v ∧ Kp W w') (hT2 : ∀ W : World, Kp w W → Calls Try.prog 29 #[.slice p2 l2 c2, .slice q k d] W fun e w' => ∃ v, e = .returned v ∧ P2 w' v ∧ Kp W w') (hC : ∀ (W : World) (u v : Value), Kp w W → P1 W u → P2 W v → Calls Try.prog 28 #[u, v] W fun e w' => e = .returned (.int .i64 C9) ∧ Kp W w') (t3 : (S == 0) = false) (t4 : IntKind.i64.wrap (-C9) = -C9) : Calls Try.prog 15 #[.agg #[.bool true, .slice p l c, .slice q k d], .agg #[.bool s2, .slice p2 l2 c2, .slice q2 k2 d2]] w fun e w' => e = .returned (.int .i64 (-C9)) ∧ Kp w w' := by
  go_enter Try.func15, Try.ntmps15
  go_wp2_with (first | (go_at_call_of 13 (Value.slice p l c); refine (hs1 _ ?q0).mono ?_; (case q0 => exact ((Kp.refl w).alloc _).alloc _); rintro e wa ⟨rfl, ga⟩; have ka : Kp w wa := Kp.trans (((Kp.refl w).alloc _).alloc _) ga; have x0 := kkeep ga (b := w.heap.size) (o := 0) (v := .bool true) (by simp [go_sem]); have x1 := kkeep ga (b := w.heap.size) (o := 1) (v := .slice p l c) (by simp [go_sem]); have x2 := kkeep ga (b := w.heap.size) (o := 2) (v := .slice q k d) (by simp [go_sem]); have x3 := kkeep ga (b := w.heap.size + 1) (o := 0) (v := .bool s2) (by simp [go_sem]); have x4 := kkeep ga (b := w.heap.size + 1) (o := 1) (v := .slice p2 l2 c2) (by simp [go_sem]); have x5 := kkeep ga (b := w.heap.size + 1) (o := 2) (v := .slice q2 k2 d2) (by simp [go_sem])) | (go_at_call_of 13 (Value.slice p2 l2 c2); refine (hs2 _ ?q0).mono ?_; (case q0 => exact ka); rintro e wb ⟨rfl, gb⟩; have kb : Kp w wb := Kp.trans ka gb; have y0 := kkeep gb x0; have y1 := kkeep gb x1; have y2 := kkeep gb x2; have y3 := kkeep gb x3; have y4 := kkeep gb x4; have y5 := kkeep gb x5))
  have dd0 : True := trivial
  have dw0 : wb.drew.cell? ⟨w.heap.size, 0, none⟩ = some (.bool true) := y0
  have dw1 : wb.drew.cell? ⟨w.heap.size, 1, none⟩ = some (.slice p l c) := y1
  have dw2 : wb.drew.cell? ⟨w.heap.size, 2, none⟩ = some (.slice q k d) := y2
  have dw3 : wb.drew.cell? ⟨w.heap.size + 1, 0, none⟩ = some (.bool s2) := y3
  have dw4 : wb.drew.cell? ⟨w.heap.size + 1, 1, none⟩ = some (.slice p2 l2 c2) := y4
  have dw5 : wb.drew.cell? ⟨w.heap.size + 1, 2, none⟩ = some (.slice q2 k2 d2) := y5
  go_region_held3 (fun w' => w'.cell? ⟨w.heap.size, 0, none⟩ = some (.bool true) ∧ w'.cell? ⟨w.heap.size, 1, none⟩ = some (.slice p l c) ∧ w'.cell? ⟨w.heap.size, 2, none⟩ = some (.slice q k d) ∧ w'.cell? ⟨w.heap.size + 1, 0, none⟩ = some (.bool s2) ∧ w'.cell? ⟨w.heap.size + 1, 1, none⟩ = some (.slice p2 l2 c2) ∧ w'.cell? ⟨w.heap.size + 1, 2, none⟩ = some (.slice q2 k2 d2)) (first | (with_reducible exact ⟨dw0, dw1, dw2, dw3, dw4, dw5⟩) | (with_reducible exact ⟨y0, y1, y2, y3, y4, y5⟩) | (with_reducible exact ⟨a0, a1, a2, a3, a4, a5⟩) | (with_reducible exact ⟨b0, b1, b2, b3, b4, b5⟩) | (with_reducible exact ⟨e0, e1, e2, e3, e4, e5⟩)) (first | (go_at_call_of 29 (Value.slice p l c); refine (hT1 _ ?q0).mono ?_; (case q0 => exact kb.drew); rintro e wc ⟨u9, rfl, hu, gc⟩; have kc : Kp w wc := Kp.trans kb.drew gc; have a0 := kkeep (Kp.trans (Kp.drew (Kp.refl _)) gc) y0; have a1 := kkeep (Kp.trans (Kp.drew (Kp.refl _)) gc) y1; have a2 := kkeep (Kp.trans (Kp.drew (Kp.refl _)) gc) y2; have a3 := kkeep (Kp.trans (Kp.drew (Kp.refl _)) gc) y3; have a4 := kkeep (Kp.trans (Kp.drew (Kp.refl _)) gc) y4; have a5 := kkeep (Kp.trans (Kp.drew (Kp.refl _)) gc) y5) | (go_at_call_of 29 (Value.slice p2 l2 c2); refine (hT2 _ ?q0).mono ?_; (case q0 => exact kc); rintro e wd ⟨v9, rfl, hv, gd⟩; have kd : Kp w wd := Kp.trans kc gd; have hu2 := hk1 _ _ _ gd hu; have b0 := kkeep gd a0; have b1 := kkeep gd a1; have b2 := kkeep gd a2; have b3 := kkeep gd a3; have b4 := kkeep gd a4; have b5 := kkeep gd a5) | (go_at_call 28; refine (hC _ u9 v9 kd hu2 hv).mono ?_; rintro e we ⟨rfl, ge⟩; have ke : Kp w we := Kp.trans kd ge; have e0 := kkeep ge b0; have e1 := kkeep ge b1; have e2 := kkeep ge b2; have e3 := kkeep ge b3; have e4 := kkeep ge b4; have e5 := kkeep ge b5))
  go_wp2
  exact bodyPost_ret (v := .int .i64 (-C9)) (by simp [results, Try.results15, go_sem]) rfl ⟨rfl, ke⟩

/-- a ratio's upper part with its sign -/
def rvI (s : Bool) (a : Nat) : Int := if s then -(a : Int) else a
def cmI (x y : Int) : Int := if x < y then -1 else if y < x then 1 else 0
theorem rcmp6_ (s : Bool) (p : Option Addr) (l c : Nat) (q : Option Addr) (k d : Nat) (s2 : Bool) (p2 : Option Addr) (l2 c2 : Nat) (q2 : Option Addr) (k2 d2 : Nat) (a b x y : Nat) (B1 B2 : Nat) (w : World) (h1 : Own w B1 (.slice p l c) (dig a)) (h2 : Own w B1 (.slice q k d) (dig b)) (h3 : Own w B2 (.slice p2 l2 c2) (dig x)) (h4 : Own w B2 (.slice q2 k2 d2) (dig y)) (zb : b ≠ 0) (zy : y ≠ 0) (la : blen a ≤ 200000) (lb : blen b ≤ 200000) (lx : blen x ≤ 200000) (ly : blen y ≤ 200000) : Calls Try.prog 15 #[.agg #[.bool s, .slice p l c, .slice q k d], .agg #[.bool s2, .slice p2 l2 c2, .slice q2 k2 d2]] w fun e w' => e = .returned (.int .i64 (cmI (rvI s a * y) (rvI s2 x * b))) ∧ Kp w w' := by
  have hs1 : ∀ W : World, Kp w W → Calls Try.prog 13 #[.agg #[.bool s, .slice p l c, .slice q k d]] W fun e w' => e = .returned (.int .i64 (if a = 0 then 0 else if s then -1 else 1)) ∧ Kp W w' := fun W g => rsign_ s _ _ a W (h1.kp g).ls (by omega)
  have hs2 : ∀ W : World, Kp w W → Calls Try.prog 13 #[.agg #[.bool s2, .slice p2 l2 c2, .slice q2 k2 d2]] W fun e w' => e = .returned (.int .i64 (if x = 0 then 0 else if s2 then -1 else 1)) ∧ Kp W w' := fun W g => rsign_ s2 _ _ x W (h3.kp g).ls (by omega)
  have len : ∀ z : Nat, blen z ≤ 200000 → len32 z ≤ 16384 := fun z hz => dlen z 16384 (by omega)
  have hT1 : ∀ W : World, Kp w W → Calls Try.prog 29 #[.slice p l c, .slice q2 k2 d2] W fun e w' => ∃ v, e = .returned v ∧ Ls w' v (dig (a * y)) ∧ Kp W w' := fun W g => (timesR _ _ a y W (h1.kp g).ls (h4.kp g).ls (len a la) (len y ly)).mono (fun e w' ⟨pp, cc, e1, ar, ll, g2⟩ => ⟨_, e1, ⟨pp, cc, rfl, ar, ll⟩, g2⟩)
  have hT2 : ∀ W : World, Kp w W → Calls Try.prog 29 #[.slice p2 l2 c2, .slice q k d] W fun e w' => ∃ v, e = .returned v ∧ Ls w' v (dig (x * b)) ∧ Kp W w' := fun W g => (timesR _ _ x b W (h3.kp g).ls (h2.kp g).ls (len x lx) (len b lb)).mono (fun e w' ⟨pp, cc, e1, ar, ll, g2⟩ => ⟨_, e1, ⟨pp, cc, rfl, ar, ll⟩, g2⟩)
  have bl : ∀ u v : Nat, blen u ≤ 200000 → blen v ≤ 200000 → blen (u * v) ≤ 33554432 := fun u v h1 h2 => by
    obtain ⟨T5, hT5⟩ : ∃ T5 : Nat, T5 = 200000 := ⟨_, rfl⟩
    have g : blen (u * v) ≤ T5 + T5 := by
      rw [blen_le_iff, Nat.pow_add]
      exact Nat.mul_lt_mul'' ((blen_le_iff u T5).1 (by omega)) ((blen_le_iff v T5).1 (by omega))
    omega
  have hC : ∀ (W : World) (u v : Value), Kp w W → Ls W u (dig (a * y)) → Ls W v (dig (x * b)) → Calls Try.prog 28 #[u, v] W fun e w' => e = .returned (.int .i64 (cmpN (a * y) (x * b))) ∧ Kp W w' := fun W u v _ g1 g2 => cmpR u v (a * y) (x * b) W g1 g2 (bl a y la ly) (bl x b lx lb)
  have hk : ∀ (W W' : World) (v : Value), Kp W W' → Ls W v (dig (a * y)) → Ls W' v (dig (a * y)) := fun W W' v g h => h.kp g
  have py : 0 < y := by omega
  have pb : 0 < b := by omega
  have key : ∀ u v : Nat, 0 < v → 0 < u → 0 < u * v := fun u v h1 h2 => Nat.mul_pos h2 h1
  obtain ⟨A9, hA9⟩ : ∃ A9, A9 = a * y := ⟨_, rfl⟩
  obtain ⟨X9, hX9⟩ : ∃ X9, X9 = x * b := ⟨_, rfl⟩
  have eA : rvI s a * (y : Int) = rvI s A9 := by unfold rvI; rw [hA9]; cases s <;> simp [Int.neg_mul]
  have eX : rvI s2 x * (b : Int) = rvI s2 X9 := by unfold rvI; rw [hX9]; cases s2 <;> simp [Int.neg_mul]
  have zA : a = 0 ↔ A9 = 0 := by rw [hA9]; constructor <;> intro h; rw [h]; simp; rcases Nat.mul_eq_zero.1 h with h | h; exact h; omega
  have zX : x = 0 ↔ X9 = 0 := by rw [hX9]; constructor <;> intro h; rw [h]; simp; rcases Nat.mul_eq_zero.1 h with h | h; exact h; omega
  rw [eA, eX]
  rw [← hA9] at hT1 hC hk
  rw [← hX9] at hT2 hC
  simp only [zA] at hs1
  simp only [zX] at hs2
  obtain ⟨S, hS⟩ : ∃ S : Int, S = if A9 = 0 then 0 else if s then -1 else 1 := ⟨_, rfl⟩
  obtain ⟨U, hU⟩ : ∃ U : Int, U = if X9 = 0 then 0 else if s2 then -1 else 1 := ⟨_, rfl⟩
  rw [← hS] at hs1
  rw [← hU] at hs2
  have hcm : cmpN A9 X9 = cmI (A9 : Int) X9 := by
    unfold cmpN cmI
    by_cases c1 : A9 < X9
    · rw [if_pos c1, if_pos (show (A9 : Int) < X9 by omega)]
    · rw [if_neg c1, if_neg (show ¬ (A9 : Int) < X9 by omega)]
      by_cases c2 : X9 < A9
      · rw [if_pos c2, if_pos (show (X9 : Int) < A9 by omega)]
      · rw [if_neg c2, if_neg (show ¬ (X9 : Int) < A9 by omega)]
  clear eA eX zA zX hA9 hX9 h1 h2 h3 h4
  have e1 : S < U → cmI (rvI s A9) (rvI s2 X9) = -1 := fun g => by
    rw [hS, hU] at g
    unfold cmI rvI
    rw [if_pos]
    by_cases c1 : A9 = 0 <;> by_cases c2 : X9 = 0 <;> cases s <;> cases s2 <;> simp [c1, c2] at g ⊢ <;> omega
  have e2 : U < S → cmI (rvI s A9) (rvI s2 X9) = 1 := fun g => by
    rw [hS, hU] at g
    have : rvI s2 X9 < rvI s A9 := by
      unfold rvI
      by_cases c1 : A9 = 0 <;> by_cases c2 : X9 = 0 <;> cases s <;> cases s2 <;> simp [c1, c2] at g ⊢ <;> omega
    unfold cmI
    rw [if_neg (by omega), if_pos this]
  rcases Int.lt_trichotomy S U with g | g | g
  · rw [e1 g]
    exact rcmpL_ S U s p l c q k d s2 p2 l2 c2 q2 k2 d2 w hs1 hs2 g
  · rw [← g] at hs2
    by_cases z : A9 = 0
    · have zU : X9 = 0 := by
        rw [hS, hU, if_pos z] at g
        by_cases c2 : X9 = 0
        · exact c2
        · rw [if_neg c2] at g; cases s2 <;> simp at g
      have e3 : cmI (rvI s A9) (rvI s2 X9) = 0 := by rw [z, zU]; cases s <;> cases s2 <;> rfl
      rw [e3]
      exact rcmpZ_ S _ _ _ s p l c q k d s2 p2 l2 c2 q2 k2 d2 w hk hs1 hs2 hT1 hT2 hC (by rw [hS, if_pos z]; rfl)
    · have zS : (S == 0) = false := by rw [hS, if_neg z]; cases s <;> rfl
      have ss : s = s2 := by
        rw [hS, hU, if_neg z] at g
        by_cases c2 : X9 = 0
        · rw [if_pos c2] at g; cases s <;> simp at g
        · rw [if_neg c2] at g; cases s <;> cases s2 <;> simp at g ⊢
      subst ss
      cases s
      · have e3 : cmI (rvI false A9) (rvI false X9) = cmpN A9 X9 := hcm.symm
        rw [e3]
        exact rcmpP_ S _ _ _ p l c q k d false p2 l2 c2 q2 k2 d2 w hk hs1 hs2 hT1 hT2 hC zS
      · have e3 : cmI (rvI true A9) (rvI true X9) = - cmpN A9 X9 := by
          rw [hcm]; unfold cmI rvI
          by_cases c1 : A9 < X9
          · rw [if_neg (by simp; omega), if_pos (by simp; omega), if_pos (by omega)]; rfl
          · by_cases c2 : X9 < A9
            · rw [if_pos (by simp; omega), if_neg (by omega), if_pos (by omega)]
            · rw [if_neg (by simp; omega), if_neg (by simp; omega), if_neg (by omega), if_neg (by omega)]; rfl
        have wr : IntKind.i64.wrap (-(cmpN A9 X9)) = -(cmpN A9 X9) := by
          rw [hcm]; unfold cmI
          by_cases c1 : (A9 : Int) < X9
          · rw [if_pos c1]; decide +kernel
          · rw [if_neg c1]
            by_cases c2 : (X9 : Int) < A9
            · rw [if_pos c2]; decide +kernel
            · rw [if_neg c2]; decide +kernel
        rw [e3]
        exact rcmpN_ S _ _ _ p l c q k d true p2 l2 c2 q2 k2 d2 w hk hs1 hs2 hT1 hT2 hC zS wr
  · rw [e2 g]
    exact rcmpG_ S U s p l c q k d s2 p2 l2 c2 q2 k2 d2 w hs1 hs2 g
set_option maxRecDepth 20000 in
set_option maxHeartbeats 1000000 in
theorem endL_ (i j : Int) (s : Bool) (p : Option Addr) (l c : Nat) (q : Option Addr) (k d : Nat) (s2 : Bool) (p2 : Option Addr) (l2 c2 : Nat) (q2 : Option Addr) (k2 d2 : Nat) (t1 : (i != j) = true) (t2 : i < j) (w : World) : Calls Try.prog 25 #[.agg #[.int .i64 i, .bool s, .slice p l c, .slice q k d], .agg #[.int .i64 j, .bool s2, .slice p2 l2 c2, .slice q2 k2 d2]] w fun e w' => e = .returned (.int .i64 (-1)) ∧ Kp w w' := by
  go_enter Try.func25, Try.ntmps25
  go_wp2
  exact bodyPost_ret (v := .int .i64 (-1)) (by simp [results, Try.results25, go_sem]) rfl ⟨rfl, (by repeat (with_reducible (first | assumption | exact Kp.refl _ | apply Kp.drew | apply Kp.alloc | apply Kp.drewN | (refine Kp.setCell ?_ (by first | omega | (simp <;> omega)) _) | (refine Kp.trans ?_ (by assumption)))))⟩
set_option maxRecDepth 20000 in
set_option maxHeartbeats 1000000 in
theorem endG_ (i j : Int) (s : Bool) (p : Option Addr) (l c : Nat) (q : Option Addr) (k d : Nat) (s2 : Bool) (p2 : Option Addr) (l2 c2 : Nat) (q2 : Option Addr) (k2 d2 : Nat) (t1 : (i != j) = true) (t2 : ¬ (i < j)) (w : World) : Calls Try.prog 25 #[.agg #[.int .i64 i, .bool s, .slice p l c, .slice q k d], .agg #[.int .i64 j, .bool s2, .slice p2 l2 c2, .slice q2 k2 d2]] w fun e w' => e = .returned (.int .i64 1) ∧ Kp w w' := by
  go_enter Try.func25, Try.ntmps25
  go_wp2
  exact bodyPost_ret (v := .int .i64 1) (by simp [results, Try.results25, go_sem]) rfl ⟨rfl, (by repeat (with_reducible (first | assumption | exact Kp.refl _ | apply Kp.drew | apply Kp.alloc | apply Kp.drewN | (refine Kp.setCell ?_ (by first | omega | (simp <;> omega)) _) | (refine Kp.trans ?_ (by assumption)))))⟩
set_option maxRecDepth 20000 in
set_option maxHeartbeats 1000000 in
theorem endE_ (i : Int) (s : Bool) (p : Option Addr) (l c : Nat) (q : Option Addr) (k d : Nat) (s2 : Bool) (p2 : Option Addr) (l2 c2 : Nat) (q2 : Option Addr) (k2 d2 : Nat) (t1 : (i != 0) = true) (w : World) : Calls Try.prog 25 #[.agg #[.int .i64 i, .bool s, .slice p l c, .slice q k d], .agg #[.int .i64 i, .bool s2, .slice p2 l2 c2, .slice q2 k2 d2]] w fun e w' => e = .returned (.int .i64 0) ∧ Kp w w' := by
  go_enter Try.func25, Try.ntmps25
  go_wp2
  exact bodyPost_ret (v := .int .i64 0) (by simp [results, Try.results25, go_sem]) rfl ⟨rfl, (by repeat (with_reducible (first | assumption | exact Kp.refl _ | apply Kp.drew | apply Kp.alloc | apply Kp.drewN | (refine Kp.setCell ?_ (by first | omega | (simp <;> omega)) _) | (refine Kp.trans ?_ (by assumption)))))⟩
set_option maxRecDepth 20000 in
set_option maxHeartbeats 1000000 in
theorem endZ_ (X : Int) (s : Bool) (p : Option Addr) (l c : Nat) (q : Option Addr) (k d : Nat) (s2 : Bool) (p2 : Option Addr) (l2 c2 : Nat) (q2 : Option Addr) (k2 d2 : Nat) (w : World) (hs : ∀ W : World, Kp w W → Calls Try.prog 15 #[.agg #[.bool s, .slice p l c, .slice q k d], .agg #[.bool s2, .slice p2 l2 c2, .slice q2 k2 d2]] W fun e w' => e = .returned (.int .i64 X) ∧ Kp W w') : Calls Try.prog 25 #[.agg #[.int .i64 0, .bool s, .slice p l c, .slice q k d], .agg #[.int .i64 0, .bool s2, .slice p2 l2 c2, .slice q2 k2 d2]] w fun e w' => e = .returned (.int .i64 X) ∧ Kp w w' := by
  go_enter Try.func25, Try.ntmps25
  go_wp2_with (first | (go_at_call 15; refine (hs _ ?q0).mono ?_; (case q0 => exact ((Kp.refl w).alloc _).alloc _); rintro e w1 ⟨rfl, g1⟩; have k1 : Kp w w1 := Kp.trans (((Kp.refl w).alloc _).alloc _) g1))
  exact bodyPost_ret (v := .int .i64 X) (by simp [results, Try.results25, go_sem]) rfl ⟨rfl, k1⟩

theorem RF.iv {s : Bool} {a b : Nat} {n : Bool} {m : Nat} (h : RF s a b n m) (K : Nat) (hK : K = 1074) : rvI s a * ((2 ^ K : Nat) : Int) = Iv n m * (b : Int) := by
  obtain ⟨h0, h1, h2, -, -⟩ := h K hK
  rw [h2]
  have h3 : ((a * 2 ^ K : Nat) : Int) = ((Fq.vV Ieee.double m * b : Nat) : Int) := by rw [h1]
  unfold rvI
  rw [Int.natCast_mul, Int.natCast_mul] at h3
  cases s
  · simpa using h3
  · simp only [if_true, Int.neg_mul]; rw [h3]
theorem cmI_scale (x y k : Int) (hk : 0 < k) : cmI (x * k) (y * k) = cmI x y := by
  unfold cmI
  have e1 : x * k < y * k ↔ x < y := ⟨fun h => Int.lt_of_mul_lt_mul_right h (Int.le_of_lt hk), fun h => Int.mul_lt_mul_of_pos_right h hk⟩
  have e2 : y * k < x * k ↔ y < x := ⟨fun h => Int.lt_of_mul_lt_mul_right h (Int.le_of_lt hk), fun h => Int.mul_lt_mul_of_pos_right h hk⟩
  simp only [e1, e2]
theorem rcmpP8_ (B1 B2 : Nat) (n n' : Bool) (m m' : Nat) (s : Bool) (p : Option Addr) (l c : Nat) (q : Option Addr) (k d : Nat) (s2 : Bool) (p2 : Option Addr) (l2 c2 : Nat) (q2 : Option Addr) (k2 d2 : Nat) (w : World) (h1 : RP B1 w s p l c q k d n m) (h2 : RP B2 w s2 p2 l2 c2 q2 k2 d2 n' m') : Calls Try.prog 15 #[.agg #[.bool s, .slice p l c, .slice q k d], .agg #[.bool s2, .slice p2 l2 c2, .slice q2 k2 d2]] w fun e w' => e = .returned (.int .i64 (cmI (Iv n m) (Iv n' m'))) ∧ Kp w w' := by
  obtain ⟨a, b, o1, o2, f1⟩ := h1
  obtain ⟨x, y, o3, o4, f2⟩ := h2
  obtain ⟨K, hK⟩ : ∃ K : Nat, K = 1074 := ⟨_, rfl⟩
  have i1 := f1.iv K hK
  have i2 := f2.iv K hK
  obtain ⟨zb, -, -, j1, j2⟩ := f1 K hK
  obtain ⟨zy, -, -, j3, j4⟩ := f2 K hK
  have h := rcmp6_ s p l c q k d s2 p2 l2 c2 q2 k2 d2 a b x y B1 B2 w o1 o2 o3 o4 zb zy (by omega) (by omega) (by omega) (by omega)
  have e : cmI (rvI s a * (y : Int)) (rvI s2 x * (b : Int)) = cmI (Iv n m) (Iv n' m') := by
    have pk : (0 : Int) < ((2 ^ K : Nat) : Int) := by have := Nat.two_pow_pos K; omega
    have pb : (0 : Int) < (b : Int) * (y : Int) := Int.mul_pos (by omega) (by omega)
    rw [← cmI_scale _ _ _ pk, ← cmI_scale (Iv n m) (Iv n' m') _ pb]
    rw [Int.mul_right_comm, i1, Int.mul_right_comm (rvI s2 x), i2, Int.mul_assoc, Int.mul_assoc, Int.mul_comm (y : Int) (b : Int)]
  rw [e] at h
  exact h
theorem cmI_iv (n n' : Bool) (m m' : Nat) : cmI (Iv n m) (Iv n' m') = cmI (Fq.plz n m) (Fq.plz n' m') := by
  unfold cmI
  simp only [iv_lt8]
theorem cmI_le0 (x y : Int) : cmI x y ≤ 0 ↔ x ≤ y := by
  unfold cmI
  by_cases c1 : x < y
  · rw [if_pos c1]; omega
  · rw [if_neg c1]
    by_cases c2 : y < x
    · rw [if_pos c2]; omega
    · rw [if_neg c2]; omega
theorem cmI_lt (x y : Int) (h : x < y) : cmI x y = -1 := by unfold cmI; rw [if_pos h]
theorem cmI_gt (x y : Int) (h : y < x) : cmI x y = 1 := by unfold cmI; rw [if_neg (by omega), if_pos h]
theorem cmI_eq (x : Int) : cmI x x = 0 := by unfold cmI; rw [if_neg (by omega), if_neg (by omega)]
theorem cmpE_ (B1 B2 : Nat) (n n' : Bool) (m m' : Nat) (hm : m ≤ 9218868437227405312) (hm' : m' ≤ 9218868437227405312) (s : Bool) (p : Option Addr) (l c : Nat) (q : Option Addr) (k d : Nat) (s2 : Bool) (p2 : Option Addr) (l2 c2 : Nat) (q2 : Option Addr) (k2 d2 : Nat) (w : World) (h1 : RP B1 w s p l c q k d (fN n m) (fM m)) (h2 : RP B2 w s2 p2 l2 c2 q2 k2 d2 (fN n' m') (fM m')) : Calls Try.prog 25 #[.agg #[.int .i64 (infS n m), .bool s, .slice p l c, .slice q k d], .agg #[.int .i64 (infS n' m'), .bool s2, .slice p2 l2 c2, .slice q2 k2 d2]] w fun e w' => e = .returned (.int .i64 (cmI (Fq.plz n m) (Fq.plz n' m'))) ∧ Kp w w' := by
  have P1 : Fq.plz n m = if n then -(m : Int) else m := by unfold Fq.plz; cases n <;> rfl
  have P2 : Fq.plz n' m' = if n' then -(m' : Int) else m' := by unfold Fq.plz; cases n' <;> rfl
  by_cases z1 : m = 9218868437227405312
  · by_cases z2 : m' = 9218868437227405312
    · subst z1 z2
      have e1 : infS n 9218868437227405312 = if n then -1 else 1 := by unfold infS; rw [if_pos rfl]
      have e2 : infS n' 9218868437227405312 = if n' then -1 else 1 := by unfold infS; rw [if_pos rfl]
      rw [e1, e2]
      cases n <;> cases n'
      · rw [cmI_eq]; exact endE_ 1 s p l c q k d s2 p2 l2 c2 q2 k2 d2 (by decide) w
      · rw [cmI_gt _ _ (by rw [P1, P2]; decide)]; exact endG_ 1 (-1) s p l c q k d s2 p2 l2 c2 q2 k2 d2 (by decide) (by decide) w
      · rw [cmI_lt _ _ (by rw [P1, P2]; decide)]; exact endL_ (-1) 1 s p l c q k d s2 p2 l2 c2 q2 k2 d2 (by decide) (by decide) w
      · rw [cmI_eq]; exact endE_ (-1) s p l c q k d s2 p2 l2 c2 q2 k2 d2 (by decide) w
    · have e1 : infS n m = if n then -1 else 1 := by unfold infS; rw [if_pos z1]
      have e2 : infS n' m' = 0 := by unfold infS; rw [if_neg z2]
      rw [e1, e2]
      cases n
      · rw [cmI_gt _ _ (by rw [P1, P2]; cases n' <;> simp <;> omega)]; exact endG_ 1 0 s p l c q k d s2 p2 l2 c2 q2 k2 d2 (by decide) (by decide) w
      · rw [cmI_lt _ _ (by rw [P1, P2]; cases n' <;> simp <;> omega)]; exact endL_ (-1) 0 s p l c q k d s2 p2 l2 c2 q2 k2 d2 (by decide) (by decide) w
  · have e1 : infS n m = 0 := by unfold infS; rw [if_neg z1]
    by_cases z2 : m' = 9218868437227405312
    · have e2 : infS n' m' = if n' then -1 else 1 := by unfold infS; rw [if_pos z2]
      rw [e1, e2]
      cases n'
      · rw [cmI_lt _ _ (by rw [P1, P2]; cases n <;> simp <;> omega)]; exact endL_ 0 1 s p l c q k d s2 p2 l2 c2 q2 k2 d2 (by decide) (by decide) w
      · rw [cmI_gt _ _ (by rw [P1, P2]; cases n <;> simp <;> omega)]; exact endG_ 0 (-1) s p l c q k d s2 p2 l2 c2 q2 k2 d2 (by decide) (by decide) w
    · have e2 : infS n' m' = 0 := by unfold infS; rw [if_neg z2]
      have f1 : fN n m = n ∧ fM m = m := by unfold fN fM; rw [if_neg z1, if_neg z1]; exact ⟨rfl, rfl⟩
      have f2 : fN n' m' = n' ∧ fM m' = m' := by unfold fN fM; rw [if_neg z2, if_neg z2]; exact ⟨rfl, rfl⟩
      rw [f1.1, f1.2] at h1
      rw [f2.1, f2.2] at h2
      rw [e1, e2, ← cmI_iv]
      exact endZ_ _ s p l c q k d s2 p2 l2 c2 q2 k2 d2 w (fun W g => rcmpP8_ B1 B2 n n' m m' s p l c q k d s2 p2 l2 c2 q2 k2 d2 W (h1.kp g) (h2.kp g))
end Go.Proofs.Ytolghomhigemgaa
