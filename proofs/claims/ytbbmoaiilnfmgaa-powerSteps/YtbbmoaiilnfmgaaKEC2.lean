import Derived.Test.YtbbmoaiilnfmgaaKEKF
import Derived.Test.YtbbmoaiilnfmgaaKMR18
namespace Go.Proofs.Ytbbmoaiilnfmgaa
open Go.RowKit
set_option maxRecDepth 20000 in
set_option maxHeartbeats 1000000 in
theorem rcmpL_ (S T9 : Int) (s : Bool) (p : Option Addr) (l c : Nat) (q : Option Addr) (k d : Nat) (s2 : Bool) (p2 : Option Addr) (l2 c2 : Nat) (q2 : Option Addr) (k2 d2 : Nat) (w : World) (hs1 : ∀ W : World, Kp w W → Calls Try.prog 46 #[.agg #[.bool s, .slice p l c, .slice q k d]] W fun e w' => e = .returned (.int .i64 S) ∧ Kp W w') (hs2 : ∀ W : World, Kp w W → Calls Try.prog 46 #[.agg #[.bool s2, .slice p2 l2 c2, .slice q2 k2 d2]] W fun e w' => e = .returned (.int .i64 T9) ∧ Kp W w') (t1 : S < T9) : Calls Try.prog 49 #[.agg #[.bool s, .slice p l c, .slice q k d], .agg #[.bool s2, .slice p2 l2 c2, .slice q2 k2 d2]] w fun e w' => e = .returned (.int .i64 (-1)) ∧ Kp w w' := by
  go_enter Try.func49, Try.ntmps49
  go_wp2_with (first | (go_at_call_of 46 (Value.slice p l c); refine (hs1 _ ?q0).mono ?_; (case q0 => exact ((Kp.refl w).alloc _).alloc _); rintro e wa ⟨rfl, ga⟩; have ka : Kp w wa := Kp.trans (((Kp.refl w).alloc _).alloc _) ga; have x0 := kkeep ga (b := w.heap.size) (o := 0) (v := .bool s) (by simp [go_sem]); have x1 := kkeep ga (b := w.heap.size) (o := 1) (v := .slice p l c) (by simp [go_sem]); have x2 := kkeep ga (b := w.heap.size) (o := 2) (v := .slice q k d) (by simp [go_sem]); have x3 := kkeep ga (b := w.heap.size + 1) (o := 0) (v := .bool s2) (by simp [go_sem]); have x4 := kkeep ga (b := w.heap.size + 1) (o := 1) (v := .slice p2 l2 c2) (by simp [go_sem]); have x5 := kkeep ga (b := w.heap.size + 1) (o := 2) (v := .slice q2 k2 d2) (by simp [go_sem])) | (go_at_call_of 46 (Value.slice p2 l2 c2); refine (hs2 _ ?q0).mono ?_; (case q0 => exact ka); rintro e wb ⟨rfl, gb⟩; have kb : Kp w wb := Kp.trans ka gb; have y0 := kkeep gb x0; have y1 := kkeep gb x1; have y2 := kkeep gb x2; have y3 := kkeep gb x3; have y4 := kkeep gb x4; have y5 := kkeep gb x5))
  exact bodyPost_ret (v := .int .i64 (-1)) (by simp [results, Try.results49, go_sem]) rfl ⟨rfl, kb⟩
set_option maxRecDepth 20000 in
set_option maxHeartbeats 1000000 in
theorem rcmpG_ (S T9 : Int) (s : Bool) (p : Option Addr) (l c : Nat) (q : Option Addr) (k d : Nat) (s2 : Bool) (p2 : Option Addr) (l2 c2 : Nat) (q2 : Option Addr) (k2 d2 : Nat) (w : World) (hs1 : ∀ W : World, Kp w W → Calls Try.prog 46 #[.agg #[.bool s, .slice p l c, .slice q k d]] W fun e w' => e = .returned (.int .i64 S) ∧ Kp W w') (hs2 : ∀ W : World, Kp w W → Calls Try.prog 46 #[.agg #[.bool s2, .slice p2 l2 c2, .slice q2 k2 d2]] W fun e w' => e = .returned (.int .i64 T9) ∧ Kp W w') (t2 : T9 < S) : Calls Try.prog 49 #[.agg #[.bool s, .slice p l c, .slice q k d], .agg #[.bool s2, .slice p2 l2 c2, .slice q2 k2 d2]] w fun e w' => e = .returned (.int .i64 1) ∧ Kp w w' := by
  go_enter Try.func49, Try.ntmps49
  go_wp2_with (first | (go_at_call_of 46 (Value.slice p l c); refine (hs1 _ ?q0).mono ?_; (case q0 => exact ((Kp.refl w).alloc _).alloc _); rintro e wa ⟨rfl, ga⟩; have ka : Kp w wa := Kp.trans (((Kp.refl w).alloc _).alloc _) ga; have x0 := kkeep ga (b := w.heap.size) (o := 0) (v := .bool s) (by simp [go_sem]); have x1 := kkeep ga (b := w.heap.size) (o := 1) (v := .slice p l c) (by simp [go_sem]); have x2 := kkeep ga (b := w.heap.size) (o := 2) (v := .slice q k d) (by simp [go_sem]); have x3 := kkeep ga (b := w.heap.size + 1) (o := 0) (v := .bool s2) (by simp [go_sem]); have x4 := kkeep ga (b := w.heap.size + 1) (o := 1) (v := .slice p2 l2 c2) (by simp [go_sem]); have x5 := kkeep ga (b := w.heap.size + 1) (o := 2) (v := .slice q2 k2 d2) (by simp [go_sem])) | (go_at_call_of 46 (Value.slice p2 l2 c2); refine (hs2 _ ?q0).mono ?_; (case q0 => exact ka); rintro e wb ⟨rfl, gb⟩; have kb : Kp w wb := Kp.trans ka gb; have y0 := kkeep gb x0; have y1 := kkeep gb x1; have y2 := kkeep gb x2; have y3 := kkeep gb x3; have y4 := kkeep gb x4; have y5 := kkeep gb x5))
  exact bodyPost_ret (v := .int .i64 1) (by simp [results, Try.results49, go_sem]) rfl ⟨rfl, kb⟩
set_option maxRecDepth 20000 in
set_option maxHeartbeats 1000000 in
theorem rcmpZ_ (S C9 : Int) (P1 P2 : World → Value → Prop) (s : Bool) (p : Option Addr) (l c : Nat) (q : Option Addr) (k d : Nat) (s2 : Bool) (p2 : Option Addr) (l2 c2 : Nat) (q2 : Option Addr) (k2 d2 : Nat) (w : World) (hk1 : ∀ (W W' : World) (v : Value), Kp W W' → P1 W v → P1 W' v) (hs1 : ∀ W : World, Kp w W → Calls Try.prog 46 #[.agg #[.bool s, .slice p l c, .slice q k d]] W fun e w' => e = .returned (.int .i64 S) ∧ Kp W w') (hs2 : ∀ W : World, Kp w W → Calls Try.prog 46 #[.agg #[.bool s2, .slice p2 l2 c2, .slice q2 k2 d2]] W fun e w' => e = .returned (.int .i64 S) ∧ Kp W w') (hT1 : ∀ W : World, Kp w W → Calls Try.prog 75 #[.slice p l c, .slice q2 k2 d2] W fun e w' => ∃ v, e = .returned v ∧ P1 w' v ∧ Kp W w') (hT2 : ∀ W : World, Kp w W → Calls Try.prog 75 #[.slice p2 l2 c2, .slice q k d] W fun e w' => ∃ v, e = .returned v ∧ P2 w' v ∧ Kp W w') (hC : ∀ (W : World) (u v : Value), Kp w W → P1 W u → P2 W v → Calls Try.prog 66 #[u, v] W fun e w' => e = .returned (.int .i64 C9) ∧ Kp W w') (t3 : (S == 0) = true) : Calls Try.prog 49 #[.agg #[.bool s, .slice p l c, .slice q k d], .agg #[.bool s2, .slice p2 l2 c2, .slice q2 k2 d2]] w fun e w' => e = .returned (.int .i64 0) ∧ Kp w w' := by
  cases s
  · skip
    go_enter Try.func49, Try.ntmps49
    go_wp2_with (first | (go_at_call_of 46 (Value.slice p l c); refine (hs1 _ ?q0).mono ?_; (case q0 => exact ((Kp.refl w).alloc _).alloc _); rintro e wa ⟨rfl, ga⟩; have ka : Kp w wa := Kp.trans (((Kp.refl w).alloc _).alloc _) ga; have x0 := kkeep ga (b := w.heap.size) (o := 0) (v := .bool false) (by simp [go_sem]); have x1 := kkeep ga (b := w.heap.size) (o := 1) (v := .slice p l c) (by simp [go_sem]); have x2 := kkeep ga (b := w.heap.size) (o := 2) (v := .slice q k d) (by simp [go_sem]); have x3 := kkeep ga (b := w.heap.size + 1) (o := 0) (v := .bool s2) (by simp [go_sem]); have x4 := kkeep ga (b := w.heap.size + 1) (o := 1) (v := .slice p2 l2 c2) (by simp [go_sem]); have x5 := kkeep ga (b := w.heap.size + 1) (o := 2) (v := .slice q2 k2 d2) (by simp [go_sem])) | (go_at_call_of 46 (Value.slice p2 l2 c2); refine (hs2 _ ?q0).mono ?_; (case q0 => exact ka); rintro e wb ⟨rfl, gb⟩; have kb : Kp w wb := Kp.trans ka gb; have y0 := kkeep gb x0; have y1 := kkeep gb x1; have y2 := kkeep gb x2; have y3 := kkeep gb x3; have y4 := kkeep gb x4; have y5 := kkeep gb x5))
    have dd0 : True := trivial
    have dw0 : wb.drew.cell? ⟨w.heap.size, 0, none⟩ = some (.bool false) := y0
    have dw1 : wb.drew.cell? ⟨w.heap.size, 1, none⟩ = some (.slice p l c) := y1
    have dw2 : wb.drew.cell? ⟨w.heap.size, 2, none⟩ = some (.slice q k d) := y2
    have dw3 : wb.drew.cell? ⟨w.heap.size + 1, 0, none⟩ = some (.bool s2) := y3
    have dw4 : wb.drew.cell? ⟨w.heap.size + 1, 1, none⟩ = some (.slice p2 l2 c2) := y4
    have dw5 : wb.drew.cell? ⟨w.heap.size + 1, 2, none⟩ = some (.slice q2 k2 d2) := y5
    go_region_held3 (fun w' => w'.cell? ⟨w.heap.size, 0, none⟩ = some (.bool false) ∧ w'.cell? ⟨w.heap.size, 1, none⟩ = some (.slice p l c) ∧ w'.cell? ⟨w.heap.size, 2, none⟩ = some (.slice q k d) ∧ w'.cell? ⟨w.heap.size + 1, 0, none⟩ = some (.bool s2) ∧ w'.cell? ⟨w.heap.size + 1, 1, none⟩ = some (.slice p2 l2 c2) ∧ w'.cell? ⟨w.heap.size + 1, 2, none⟩ = some (.slice q2 k2 d2)) (first | (with_reducible exact ⟨dw0, dw1, dw2, dw3, dw4, dw5⟩) | (with_reducible exact ⟨y0, y1, y2, y3, y4, y5⟩) | (with_reducible exact ⟨a0, a1, a2, a3, a4, a5⟩) | (with_reducible exact ⟨b0, b1, b2, b3, b4, b5⟩) | (with_reducible exact ⟨e0, e1, e2, e3, e4, e5⟩)) (first | (go_at_call_of 75 (Value.slice p l c); refine (hT1 _ ?q0).mono ?_; (case q0 => exact kb.drew); rintro e wc ⟨u9, rfl, hu, gc⟩; have kc : Kp w wc := Kp.trans kb.drew gc; have a0 := kkeep (Kp.trans (Kp.drew (Kp.refl _)) gc) y0; have a1 := kkeep (Kp.trans (Kp.drew (Kp.refl _)) gc) y1; have a2 := kkeep (Kp.trans (Kp.drew (Kp.refl _)) gc) y2; have a3 := kkeep (Kp.trans (Kp.drew (Kp.refl _)) gc) y3; have a4 := kkeep (Kp.trans (Kp.drew (Kp.refl _)) gc) y4; have a5 := kkeep (Kp.trans (Kp.drew (Kp.refl _)) gc) y5) | (go_at_call_of 75 (Value.slice p2 l2 c2); refine (hT2 _ ?q0).mono ?_; (case q0 => exact kc); rintro e wd ⟨v9, rfl, hv, gd⟩; have kd : Kp w wd := Kp.trans kc gd; have hu2 := hk1 _ _ _ gd hu; have b0 := kkeep gd a0; have b1 := kkeep gd a1; have b2 := kkeep gd a2; have b3 := kkeep gd a3; have b4 := kkeep gd a4; have b5 := kkeep gd a5) | (go_at_call 66; refine (hC _ u9 v9 kd hu2 hv).mono ?_; rintro e we ⟨rfl, ge⟩; have ke : Kp w we := Kp.trans kd ge; have e0 := kkeep ge b0; have e1 := kkeep ge b1; have e2 := kkeep ge b2; have e3 := kkeep ge b3; have e4 := kkeep ge b4; have e5 := kkeep ge b5))
    go_wp2
    exact bodyPost_ret (v := .int .i64 0) (by simp [results, Try.results49, go_sem]) rfl ⟨rfl, ke⟩
  · skip
    go_enter Try.func49, Try.ntmps49
    go_wp2_with (first | (go_at_call_of 46 (Value.slice p l c); refine (hs1 _ ?q0).mono ?_; (case q0 => exact ((Kp.refl w).alloc _).alloc _); rintro e wa ⟨rfl, ga⟩; have ka : Kp w wa := Kp.trans (((Kp.refl w).alloc _).alloc _) ga; have x0 := kkeep ga (b := w.heap.size) (o := 0) (v := .bool true) (by simp [go_sem]); have x1 := kkeep ga (b := w.heap.size) (o := 1) (v := .slice p l c) (by simp [go_sem]); have x2 := kkeep ga (b := w.heap.size) (o := 2) (v := .slice q k d) (by simp [go_sem]); have x3 := kkeep ga (b := w.heap.size + 1) (o := 0) (v := .bool s2) (by simp [go_sem]); have x4 := kkeep ga (b := w.heap.size + 1) (o := 1) (v := .slice p2 l2 c2) (by simp [go_sem]); have x5 := kkeep ga (b := w.heap.size + 1) (o := 2) (v := .slice q2 k2 d2) (by simp [go_sem])) | (go_at_call_of 46 (Value.slice p2 l2 c2); refine (hs2 _ ?q0).mono ?_; (case q0 => exact ka); rintro e wb ⟨rfl, gb⟩; have kb : Kp w wb := Kp.trans ka gb; have y0 := kkeep gb x0; have y1 := kkeep gb x1; have y2 := kkeep gb x2; have y3 := kkeep gb x3; have y4 := kkeep gb x4; have y5 := kkeep gb x5))
    have dd0 : True := trivial
    have dw0 : wb.drew.cell? ⟨w.heap.size, 0, none⟩ = some (.bool true) := y0
    have dw1 : wb.drew.cell? ⟨w.heap.size, 1, none⟩ = some (.slice p l c) := y1
    have dw2 : wb.drew.cell? ⟨w.heap.size, 2, none⟩ = some (.slice q k d) := y2
    have dw3 : wb.drew.cell? ⟨w.heap.size + 1, 0, none⟩ = some (.bool s2) := y3
    have dw4 : wb.drew.cell? ⟨w.heap.size + 1, 1, none⟩ = some (.slice p2 l2 c2) := y4
    have dw5 : wb.drew.cell? ⟨w.heap.size + 1, 2, none⟩ = some (.slice q2 k2 d2) := y5
    go_region_held3 (fun w' => w'.cell? ⟨w.heap.size, 0, none⟩ = some (.bool true) ∧ w'.cell? ⟨w.heap.size, 1, none⟩ = some (.slice p l c) ∧ w'.cell? ⟨w.heap.size, 2, none⟩ = some (.slice q k d) ∧ w'.cell? ⟨w.heap.size + 1, 0, none⟩ = some (.bool s2) ∧ w'.cell? ⟨w.heap.size + 1, 1, none⟩ = some (.slice p2 l2 c2) ∧ w'.cell? ⟨w.heap.size + 1, 2, none⟩ = some (.slice q2 k2 d2)) (first | (with_reducible exact ⟨dw0, dw1, dw2, dw3, dw4, dw5⟩) | (with_reducible exact ⟨y0, y1, y2, y3, y4, y5⟩) | (with_reducible exact ⟨a0, a1, a2, a3, a4, a5⟩) | (with_reducible exact ⟨b0, b1, b2, b3, b4, b5⟩) | (with_reducible exact ⟨e0, e1, e2, e3, e4, e5⟩)) (first | (go_at_call_of 75 (Value.slice p l c); refine (hT1 _ ?q0).mono ?_; (case q0 => exact kb.drew); rintro e wc ⟨u9, rfl, hu, gc⟩; have kc : Kp w wc := Kp.trans kb.drew gc; have a0 := kkeep (Kp.trans (Kp.drew (Kp.refl _)) gc) y0; have a1 := kkeep (Kp.trans (Kp.drew (Kp.refl _)) gc) y1; have a2 := kkeep (Kp.trans (Kp.drew (Kp.refl _)) gc) y2; have a3 := kkeep (Kp.trans (Kp.drew (Kp.refl _)) gc) y3; have a4 := kkeep (Kp.trans (Kp.drew (Kp.refl _)) gc) y4; have a5 := kkeep (Kp.trans (Kp.drew (Kp.refl _)) gc) y5) | (go_at_call_of 75 (Value.slice p2 l2 c2); refine (hT2 _ ?q0).mono ?_; (case q0 => exact kc); rintro e wd ⟨v9, rfl, hv, gd⟩; have kd : Kp w wd := Kp.trans kc gd; have hu2 := hk1 _ _ _ gd hu; have b0 := kkeep gd a0; have b1 := kkeep gd a1; have b2 := kkeep gd a2; have b3 := kkeep gd a3; have b4 := kkeep gd a4; have b5 := kkeep gd a5) | (go_at_call 66; refine (hC _ u9 v9 kd hu2 hv).mono ?_; rintro e we ⟨rfl, ge⟩; have ke : Kp w we := Kp.trans kd ge; have e0 := kkeep ge b0; have e1 := kkeep ge b1; have e2 := kkeep ge b2; have e3 := kkeep ge b3; have e4 := kkeep ge b4; have e5 := kkeep ge b5))
    go_wp2
    exact bodyPost_ret (v := .int .i64 0) (by simp [results, Try.results49, go_sem]) rfl ⟨rfl, ke⟩
set_option maxRecDepth 20000 in
set_option maxHeartbeats 1000000 in
theorem rcmpP_ (S C9 : Int) (P1 P2 : World → Value → Prop) (p : Option Addr) (l c : Nat) (q : Option Addr) (k d : Nat) (s2 : Bool) (p2 : Option Addr) (l2 c2 : Nat) (q2 : Option Addr) (k2 d2 : Nat) (w : World) (hk1 : ∀ (W W' : World) (v : Value), Kp W W' → P1 W v → P1 W' v) (hs1 : ∀ W : World, Kp w W → Calls Try.prog 46 #[.agg #[.bool false, .slice p l c, .slice q k d]] W fun e w' => e = .returned (.int .i64 S) ∧ Kp W w') (hs2 : ∀ W : World, Kp w W → Calls Try.prog 46 #[.agg #[.bool s2, .slice p2 l2 c2, .slice q2 k2 d2]] W fun e w' => e = .returned (.int .i64 S) ∧ Kp W w') (hT1 : ∀ W : World, Kp w W → Calls Try.prog 75 #[.slice p l c, .slice q2 k2 d2] W fun e w' => ∃ v, e = .returned v ∧ P1 w' v ∧ Kp W w') (hT2 : ∀ W : World, Kp w W → Calls Try.prog 75 #[.slice p2 l2 c2, .slice q k d] W fun e w' => ∃ v, e = .returned v ∧ P2 w' v ∧ Kp W w') (hC : ∀ (W : World) (u v : Value), Kp w W → P1 W u → P2 W v → Calls Try.prog 66 #[u, v] W fun e w' => e = .returned (.int .i64 C9) ∧ Kp W w') (t3 : (S == 0) = false) : Calls Try.prog 49 #[.agg #[.bool false, .slice p l c, .slice q k d], .agg #[.bool s2, .slice p2 l2 c2, .slice q2 k2 d2]] w fun e w' => e = .returned (.int .i64 C9) ∧ Kp w w' := by
  go_enter Try.func49, Try.ntmps49
  go_wp2_with (first | (go_at_call_of 46 (Value.slice p l c); refine (hs1 _ ?q0).mono ?_; (case q0 => exact ((Kp.refl w).alloc _).alloc _); rintro e wa ⟨rfl, ga⟩; have ka : Kp w wa := Kp.trans (((Kp.refl w).alloc _).alloc _) ga; have x0 := kkeep ga (b := w.heap.size) (o := 0) (v := .bool false) (by simp [go_sem]); have x1 := kkeep ga (b := w.heap.size) (o := 1) (v := .slice p l c) (by simp [go_sem]); have x2 := kkeep ga (b := w.heap.size) (o := 2) (v := .slice q k d) (by simp [go_sem]); have x3 := kkeep ga (b := w.heap.size + 1) (o := 0) (v := .bool s2) (by simp [go_sem]); have x4 := kkeep ga (b := w.heap.size + 1) (o := 1) (v := .slice p2 l2 c2) (by simp [go_sem]); have x5 := kkeep ga (b := w.heap.size + 1) (o := 2) (v := .slice q2 k2 d2) (by simp [go_sem])) | (go_at_call_of 46 (Value.slice p2 l2 c2); refine (hs2 _ ?q0).mono ?_; (case q0 => exact ka); rintro e wb ⟨rfl, gb⟩; have kb : Kp w wb := Kp.trans ka gb; have y0 := kkeep gb x0; have y1 := kkeep gb x1; have y2 := kkeep gb x2; have y3 := kkeep gb x3; have y4 := kkeep gb x4; have y5 := kkeep gb x5))
  have dd0 : True := trivial
  have dw0 : wb.drew.cell? ⟨w.heap.size, 0, none⟩ = some (.bool false) := y0
  have dw1 : wb.drew.cell? ⟨w.heap.size, 1, none⟩ = some (.slice p l c) := y1
  have dw2 : wb.drew.cell? ⟨w.heap.size, 2, none⟩ = some (.slice q k d) := y2
  have dw3 : wb.drew.cell? ⟨w.heap.size + 1, 0, none⟩ = some (.bool s2) := y3
  have dw4 : wb.drew.cell? ⟨w.heap.size + 1, 1, none⟩ = some (.slice p2 l2 c2) := y4
  have dw5 : wb.drew.cell? ⟨w.heap.size + 1, 2, none⟩ = some (.slice q2 k2 d2) := y5
  go_region_held3 (fun w' => w'.cell? ⟨w.heap.size, 0, none⟩ = some (.bool false) ∧ w'.cell? ⟨w.heap.size, 1, none⟩ = some (.slice p l c) ∧ w'.cell? ⟨w.heap.size, 2, none⟩ = some (.slice q k d) ∧ w'.cell? ⟨w.heap.size + 1, 0, none⟩ = some (.bool s2) ∧ w'.cell? ⟨w.heap.size + 1, 1, none⟩ = some (.slice p2 l2 c2) ∧ w'.cell? ⟨w.heap.size + 1, 2, none⟩ = some (.slice q2 k2 d2)) (first | (with_reducible exact ⟨dw0, dw1, dw2, dw3, dw4, dw5⟩) | (with_reducible exact ⟨y0, y1, y2, y3, y4, y5⟩) | (with_reducible exact ⟨a0, a1, a2, a3, a4, a5⟩) | (with_reducible exact ⟨b0, b1, b2, b3, b4, b5⟩) | (with_reducible exact ⟨e0, e1, e2, e3, e4, e5⟩)) (first | (go_at_call_of 75 (Value.slice p l c); refine (hT1 _ ?q0).mono ?_; (case q0 => exact kb.drew); rintro e wc ⟨u9, rfl, hu, gc⟩; have kc : Kp w wc := Kp.trans kb.drew gc; have a0 := kkeep (Kp.trans (Kp.drew (Kp.refl _)) gc) y0; have a1 := kkeep (Kp.trans (Kp.drew (Kp.refl _)) gc) y1; have a2 := kkeep (Kp.trans (Kp.drew (Kp.refl _)) gc) y2; have a3 := kkeep (Kp.trans (Kp.drew (Kp.refl _)) gc) y3; have a4 := kkeep (Kp.trans (Kp.drew (Kp.refl _)) gc) y4; have a5 := kkeep (Kp.trans (Kp.drew (Kp.refl _)) gc) y5) | (go_at_call_of 75 (Value.slice p2 l2 c2); refine (hT2 _ ?q0).mono ?_; (case q0 => exact kc); rintro e wd ⟨v9, rfl, hv, gd⟩; have kd : Kp w wd := Kp.trans kc gd; have hu2 := hk1 _ _ _ gd hu; have b0 := kkeep gd a0; have b1 := kkeep gd a1; have b2 := kkeep gd a2; have b3 := kkeep gd a3; have b4 := kkeep gd a4; have b5 := kkeep gd a5) | (go_at_call 66; refine (hC _ u9 v9 kd hu2 hv).mono ?_; rintro e we ⟨rfl, ge⟩; have ke : Kp w we := Kp.trans kd ge; have e0 := kkeep ge b0; have e1 := kkeep ge b1; have e2 := kkeep ge b2; have e3 := kkeep ge b3; have e4 := kkeep ge b4; have e5 := kkeep ge b5))
  go_wp2
  exact bodyPost_ret (v := .int .i64 C9) (by simp [results, Try.results49, go_sem]) rfl ⟨rfl, ke⟩
set_option maxRecDepth 20000 in
set_option maxHeartbeats 1000000 in
theorem rcmpN_ (S C9 : Int) (P1 P2 : World → Value → Prop) (p : Option Addr) (l c : Nat) (q : Option Addr) (k d : Nat) (s2 : Bool) (p2 : Option Addr) (l2 c2 : Nat) (q2 : Option Addr) (k2 d2 : Nat) (w : World) (hk1 : ∀ (W W' : World) (v : Value), Kp W W' → P1 W v → P1 W' v) (hs1 : ∀ W : World, Kp w W → Calls Try.prog 46 #[.agg #[.bool true, .slice p l c, .slice q k d]] W fun e w' => e = .returned (.int .i64 S) ∧ Kp W w') (hs2 : ∀ W : World, Kp w W → Calls Try.prog 46 #[.agg #[.bool s2, .slice p2 l2 c2, .slice q2 k2 d2]] W fun e w' => e = .returned (.int .i64 S) ∧ Kp W w') (hT1 : ∀ W : World, Kp w W → Calls Try.prog 75 #[.slice p l c, .slice q2 k2 d2] W fun e w' => ∃ v, e = .returned v ∧ P1 w' v ∧ Kp W w') (hT2 : ∀ W : World, Kp w W → Calls Try.prog 75 #[.slice p2 l2 c2, .slice q k d] W fun e w' => ∃ v, e = .returned v ∧ P2 w' v ∧ Kp W w') (hC : ∀ (W : World) (u v : Value), Kp w W → P1 W u → P2 W v → Calls Try.prog 66 #[u, v] W fun e w' => e = .returned (.int .i64 C9) ∧ Kp W w') (t3 : (S == 0) = false) (t4 : IntKind.i64.wrap (-C9) = -C9) : Calls Try.prog 49 #[.agg #[.bool true, .slice p l c, .slice q k d], .agg #[.bool s2, .slice p2 l2 c2, .slice q2 k2 d2]] w fun e w' => e = .returned (.int .i64 (-C9)) ∧ Kp w w' := by
  go_enter Try.func49, Try.ntmps49
  go_wp2_with (first | (go_at_call_of 46 (Value.slice p l c); refine (hs1 _ ?q0).mono ?_; (case q0 => exact ((Kp.refl w).alloc _).alloc _); rintro e wa ⟨rfl, ga⟩; have ka : Kp w wa := Kp.trans (((Kp.refl w).alloc _).alloc _) ga; have x0 := kkeep ga (b := w.heap.size) (o := 0) (v := .bool true) (by simp [go_sem]); have x1 := kkeep ga (b := w.heap.size) (o := 1) (v := .slice p l c) (by simp [go_sem]); have x2 := kkeep ga (b := w.heap.size) (o := 2) (v := .slice q k d) (by simp [go_sem]); have x3 := kkeep ga (b := w.heap.size + 1) (o := 0) (v := .bool s2) (by simp [go_sem]); have x4 := kkeep ga (b := w.heap.size + 1) (o := 1) (v := .slice p2 l2 c2) (by simp [go_sem]); have x5 := kkeep ga (b := w.heap.size + 1) (o := 2) (v := .slice q2 k2 d2) (by simp [go_sem])) | (go_at_call_of 46 (Value.slice p2 l2 c2); refine (hs2 _ ?q0).mono ?_; (case q0 => exact ka); rintro e wb ⟨rfl, gb⟩; have kb : Kp w wb := Kp.trans ka gb; have y0 := kkeep gb x0; have y1 := kkeep gb x1; have y2 := kkeep gb x2; have y3 := kkeep gb x3; have y4 := kkeep gb x4; have y5 := kkeep gb x5))
  have dd0 : True := trivial
  have dw0 : wb.drew.cell? ⟨w.heap.size, 0, none⟩ = some (.bool true) := y0
  have dw1 : wb.drew.cell? ⟨w.heap.size, 1, none⟩ = some (.slice p l c) := y1
  have dw2 : wb.drew.cell? ⟨w.heap.size, 2, none⟩ = some (.slice q k d) := y2
  have dw3 : wb.drew.cell? ⟨w.heap.size + 1, 0, none⟩ = some (.bool s2) := y3
  have dw4 : wb.drew.cell? ⟨w.heap.size + 1, 1, none⟩ = some (.slice p2 l2 c2) := y4
  have dw5 : wb.drew.cell? ⟨w.heap.size + 1, 2, none⟩ = some (.slice q2 k2 d2) := y5
  go_region_held3 (fun w' => w'.cell? ⟨w.heap.size, 0, none⟩ = some (.bool true) ∧ w'.cell? ⟨w.heap.size, 1, none⟩ = some (.slice p l c) ∧ w'.cell? ⟨w.heap.size, 2, none⟩ = some (.slice q k d) ∧ w'.cell? ⟨w.heap.size + 1, 0, none⟩ = some (.bool s2) ∧ w'.cell? ⟨w.heap.size + 1, 1, none⟩ = some (.slice p2 l2 c2) ∧ w'.cell? ⟨w.heap.size + 1, 2, none⟩ = some (.slice q2 k2 d2)) (first | (with_reducible exact ⟨dw0, dw1, dw2, dw3, dw4, dw5⟩) | (with_reducible exact ⟨y0, y1, y2, y3, y4, y5⟩) | (with_reducible exact ⟨a0, a1, a2, a3, a4, a5⟩) | (with_reducible exact ⟨b0, b1, b2, b3, b4, b5⟩) | (with_reducible exact ⟨e0, e1, e2, e3, e4, e5⟩)) (first | (go_at_call_of 75 (Value.slice p l c); refine (hT1 _ ?q0).mono ?_; (case q0 => exact kb.drew); rintro e wc ⟨u9, rfl, hu, gc⟩; have kc : Kp w wc := Kp.trans kb.drew gc; have a0 := kkeep (Kp.trans (Kp.drew (Kp.refl _)) gc) y0; have a1 := kkeep (Kp.trans (Kp.drew (Kp.refl _)) gc) y1; have a2 := kkeep (Kp.trans (Kp.drew (Kp.refl _)) gc) y2; have a3 := kkeep (Kp.trans (Kp.drew (Kp.refl _)) gc) y3; have a4 := kkeep (Kp.trans (Kp.drew (Kp.refl _)) gc) y4; have a5 := kkeep (Kp.trans (Kp.drew (Kp.refl _)) gc) y5) | (go_at_call_of 75 (Value.slice p2 l2 c2); refine (hT2 _ ?q0).mono ?_; (case q0 => exact kc); rintro e wd ⟨v9, rfl, hv, gd⟩; have kd : Kp w wd := Kp.trans kc gd; have hu2 := hk1 _ _ _ gd hu; have b0 := kkeep gd a0; have b1 := kkeep gd a1; have b2 := kkeep gd a2; have b3 := kkeep gd a3; have b4 := kkeep gd a4; have b5 := kkeep gd a5) | (go_at_call 66; refine (hC _ u9 v9 kd hu2 hv).mono ?_; rintro e we ⟨rfl, ge⟩; have ke : Kp w we := Kp.trans kd ge; have e0 := kkeep ge b0; have e1 := kkeep ge b1; have e2 := kkeep ge b2; have e3 := kkeep ge b3; have e4 := kkeep ge b4; have e5 := kkeep ge b5))
  go_wp2
  exact bodyPost_ret (v := .int .i64 (-C9)) (by simp [results, Try.results49, go_sem]) rfl ⟨rfl, ke⟩
set_option maxRecDepth 20000 in
set_option maxHeartbeats 400000 in
theorem timesR (v1 v2 : Value) (a b : Nat) (w : World) (h1 : Ls w v1 (dig a)) (h2 : Ls w v2 (dig b)) (l1 : len32 a ≤ 16384) (l2 : len32 b ≤ 16384) :
    Calls Try.prog 75 #[v1, v2] w fun e w' => ∃ p c, e = .returned (.slice p (dig (a * b)).length c) ∧ Arr w' p (dig (a * b)) ∧ (dig (a * b)).length ≤ c ∧ Kp w w' := by
  obtain ⟨p, c, rfl, hA, hc⟩ := h1
  obtain ⟨q, d, rfl, hB, hd⟩ := h2
  have h := rtimes_ p q c d (dig a) (dig b) w hA hB (Wd_dig a) (Wd_dig b) (by change len32 a ≤ _; omega) (by change len32 b ≤ _; omega)
  rw [val_dig, val_dig] at h
  refine h.mono ?_
  rintro e w' ⟨v, h1, h2, h3⟩
  obtain ⟨p, c, rfl, h4, h5⟩ := h2.arr
  exact ⟨p, c, h1, h4, h5, h3⟩
set_option maxRecDepth 20000 in
set_option maxHeartbeats 400000 in
theorem plusR (v1 v2 : Value) (a b : Nat) (w : World) (h1 : Ls w v1 (dig a)) (h2 : Ls w v2 (dig b)) (l1 : len32 a ≤ 32768) (l2 : len32 b ≤ 32768) :
    Calls Try.prog 79 #[v1, v2] w fun e w' => ∃ p c, e = .returned (.slice p (dig (a + b)).length c) ∧ Arr w' p (dig (a + b)) ∧ (dig (a + b)).length ≤ c ∧ Kp w w' := by
  obtain ⟨p, c, rfl, hA, hc⟩ := h1
  obtain ⟨q, d, rfl, hB, hd⟩ := h2
  have h := rplus_ p q c d (dig a) (dig b) w hA hB (Wd_dig a) (Wd_dig b) (by change len32 a < _; omega) (by change len32 b < _; omega)
  refine h.mono ?_
  rintro e w' ⟨v, L, h1, h2, h3, h4, _, h5⟩
  rw [val_dig, val_dig] at h4
  rw [nz_dig L h3, h4] at h2
  obtain ⟨p, c, rfl, h6, h7⟩ := h2.arr
  exact ⟨p, c, h1, h6, h7, h5⟩
set_option maxRecDepth 20000 in
set_option maxHeartbeats 400000 in
theorem minusR (v1 v2 : Value) (a b : Nat) (w : World) (h1 : Ls w v1 (dig a)) (h2 : Ls w v2 (dig b)) (l1 : len32 a ≤ 32768) (hle : b ≤ a) :
    Calls Try.prog 80 #[v1, v2] w fun e w' => ∃ p c, e = .returned (.slice p (dig (a - b)).length c) ∧ Arr w' p (dig (a - b)) ∧ (dig (a - b)).length ≤ c ∧ Kp w w' := by
  obtain ⟨p, c, rfl, hA, hc⟩ := h1
  obtain ⟨q, d, rfl, hB, hd⟩ := h2
  have h := rminus_ p q c d (dig a) (dig b) w hA hB (Wd_dig a) (Wd_dig b) (by change len32 a < _; omega) (by exact len32_mono hle) (by rw [val_dig, val_dig]; exact hle)
  rw [val_dig, val_dig] at h
  refine h.mono ?_
  rintro e w' ⟨v, h1, h2, h3⟩
  obtain ⟨p, c, rfl, h4, h5⟩ := h2.arr
  exact ⟨p, c, h1, h4, h5, h3⟩

def rvI (s : Bool) (a : Nat) : Int := if s then -(a : Int) else a
def cmI (x y : Int) : Int := if x < y then -1 else if y < x then 1 else 0
theorem rcmp6_ (s : Bool) (p : Option Addr) (l c : Nat) (q : Option Addr) (k d : Nat) (s2 : Bool) (p2 : Option Addr) (l2 c2 : Nat) (q2 : Option Addr) (k2 d2 : Nat) (a b x y : Nat) (B1 B2 : Nat) (w : World) (h1 : Own w B1 (.slice p l c) (dig a)) (h2 : Own w B1 (.slice q k d) (dig b)) (h3 : Own w B2 (.slice p2 l2 c2) (dig x)) (h4 : Own w B2 (.slice q2 k2 d2) (dig y)) (zb : b ≠ 0) (zy : y ≠ 0) (la : blen a ≤ 200000) (lb : blen b ≤ 200000) (lx : blen x ≤ 200000) (ly : blen y ≤ 200000) : Calls Try.prog 49 #[.agg #[.bool s, .slice p l c, .slice q k d], .agg #[.bool s2, .slice p2 l2 c2, .slice q2 k2 d2]] w fun e w' => e = .returned (.int .i64 (cmI (rvI s a * y) (rvI s2 x * b))) ∧ Kp w w' := by
  have hs1 : ∀ W : World, Kp w W → Calls Try.prog 46 #[.agg #[.bool s, .slice p l c, .slice q k d]] W fun e w' => e = .returned (.int .i64 (if a = 0 then 0 else if s then -1 else 1)) ∧ Kp W w' := fun W g => rsign_ s _ _ a W (h1.kp g).ls (by omega)
  have hs2 : ∀ W : World, Kp w W → Calls Try.prog 46 #[.agg #[.bool s2, .slice p2 l2 c2, .slice q2 k2 d2]] W fun e w' => e = .returned (.int .i64 (if x = 0 then 0 else if s2 then -1 else 1)) ∧ Kp W w' := fun W g => rsign_ s2 _ _ x W (h3.kp g).ls (by omega)
  have len : ∀ z : Nat, blen z ≤ 200000 → len32 z ≤ 16384 := fun z hz => dlen z 16384 (by omega)
  have hT1 : ∀ W : World, Kp w W → Calls Try.prog 75 #[.slice p l c, .slice q2 k2 d2] W fun e w' => ∃ v, e = .returned v ∧ Ls w' v (dig (a * y)) ∧ Kp W w' := fun W g => (timesR _ _ a y W (h1.kp g).ls (h4.kp g).ls (len a la) (len y ly)).mono (fun e w' ⟨pp, cc, e1, ar, ll, g2⟩ => ⟨_, e1, ⟨pp, cc, rfl, ar, ll⟩, g2⟩)
  have hT2 : ∀ W : World, Kp w W → Calls Try.prog 75 #[.slice p2 l2 c2, .slice q k d] W fun e w' => ∃ v, e = .returned v ∧ Ls w' v (dig (x * b)) ∧ Kp W w' := fun W g => (timesR _ _ x b W (h3.kp g).ls (h2.kp g).ls (len x lx) (len b lb)).mono (fun e w' ⟨pp, cc, e1, ar, ll, g2⟩ => ⟨_, e1, ⟨pp, cc, rfl, ar, ll⟩, g2⟩)
  have bl : ∀ u v : Nat, blen u ≤ 200000 → blen v ≤ 200000 → blen (u * v) ≤ 33554432 := fun u v h1 h2 => by
    obtain ⟨T5, hT5⟩ : ∃ T5 : Nat, T5 = 200000 := ⟨_, rfl⟩
    have g : blen (u * v) ≤ T5 + T5 := by
      rw [blen_le_iff, Nat.pow_add]
      exact Nat.mul_lt_mul'' ((blen_le_iff u T5).1 (by omega)) ((blen_le_iff v T5).1 (by omega))
    omega
  have hC : ∀ (W : World) (u v : Value), Kp w W → Ls W u (dig (a * y)) → Ls W v (dig (x * b)) → Calls Try.prog 66 #[u, v] W fun e w' => e = .returned (.int .i64 (cmpN (a * y) (x * b))) ∧ Kp W w' := fun W u v _ g1 g2 => cmpR u v (a * y) (x * b) W g1 g2 (bl a y la ly) (bl x b lx lb)
  have hk : ∀ (W W' : World) (v : Value), Kp W W' → Ls W v (dig (a * y)) → Ls W' v (dig (a * y)) := fun W W' v g h => h.kp g
  have py : 0 < y := by omega
  have pb : 0 < b := by omega
  have key : ∀ u v : Nat, 0 < v → 0 < u → 0 < u * v := fun u v h1 h2 => Nat.mul_pos h2 h1
  obtain ⟨A9, hA9⟩ : ∃ A9, A9 = a * y := ⟨_, rfl⟩
  obtain ⟨X9, hX9⟩ : ∃ X9, X9 = x * b := ⟨_, rfl⟩
  have eA : rvI s a * (y : Int) = rvI s A9 := by unfold rvI; rw [hA9]; cases s <;> simp [Int.neg_mul]
  have eX : rvI s2 x * (b : Int) = rvI s2 X9 := by unfold rvI; rw [hX9]; cases s2 <;> simp [Int.neg_mul]
  have zA : a = 0 ↔ A9 = 0 := by rw [hA9]; constructor <;> intro h; rw [h]; simp; rcases Nat.mul_eq_zero.1 h with h | h; exact h; omega
  have zX : x = 0 ↔ X9 = 0 := by rw [hX9]; constructor <;> intro h; rw [h]; simp; rcases Nat.mul_eq_zero.1 h with h | h; exact h; omega
  rw [eA, eX]
  rw [← hA9] at hT1 hC hk
  rw [← hX9] at hT2 hC
  simp only [zA] at hs1
  simp only [zX] at hs2
  obtain ⟨S, hS⟩ : ∃ S : Int, S = if A9 = 0 then 0 else if s then -1 else 1 := ⟨_, rfl⟩
  obtain ⟨U, hU⟩ : ∃ U : Int, U = if X9 = 0 then 0 else if s2 then -1 else 1 := ⟨_, rfl⟩
  rw [← hS] at hs1
  rw [← hU] at hs2
  have hcm : cmpN A9 X9 = cmI (A9 : Int) X9 := by
    unfold cmpN cmI
    by_cases c1 : A9 < X9
    · rw [if_pos c1, if_pos (show (A9 : Int) < X9 by omega)]
    · rw [if_neg c1, if_neg (show ¬ (A9 : Int) < X9 by omega)]
      by_cases c2 : X9 < A9
      · rw [if_pos c2, if_pos (show (X9 : Int) < A9 by omega)]
      · rw [if_neg c2, if_neg (show ¬ (X9 : Int) < A9 by omega)]
  clear eA eX zA zX hA9 hX9 h1 h2 h3 h4
  have e1 : S < U → cmI (rvI s A9) (rvI s2 X9) = -1 := fun g => by
    rw [hS, hU] at g
    unfold cmI rvI
    rw [if_pos]
    by_cases c1 : A9 = 0 <;> by_cases c2 : X9 = 0 <;> cases s <;> cases s2 <;> simp [c1, c2] at g ⊢ <;> omega
  have e2 : U < S → cmI (rvI s A9) (rvI s2 X9) = 1 := fun g => by
    rw [hS, hU] at g
    have : rvI s2 X9 < rvI s A9 := by
      unfold rvI
      by_cases c1 : A9 = 0 <;> by_cases c2 : X9 = 0 <;> cases s <;> cases s2 <;> simp [c1, c2] at g ⊢ <;> omega
    unfold cmI
    rw [if_neg (by omega), if_pos this]
  rcases Int.lt_trichotomy S U with g | g | g
  · rw [e1 g]
    exact rcmpL_ S U s p l c q k d s2 p2 l2 c2 q2 k2 d2 w hs1 hs2 g
  · rw [← g] at hs2
    by_cases z : A9 = 0
    · have zU : X9 = 0 := by
        rw [hS, hU, if_pos z] at g
        by_cases c2 : X9 = 0
        · exact c2
        · rw [if_neg c2] at g; cases s2 <;> simp at g
      have e3 : cmI (rvI s A9) (rvI s2 X9) = 0 := by rw [z, zU]; cases s <;> cases s2 <;> rfl
      rw [e3]
      exact rcmpZ_ S _ _ _ s p l c q k d s2 p2 l2 c2 q2 k2 d2 w hk hs1 hs2 hT1 hT2 hC (by rw [hS, if_pos z]; rfl)
    · have zS : (S == 0) = false := by rw [hS, if_neg z]; cases s <;> rfl
      have ss : s = s2 := by
        rw [hS, hU, if_neg z] at g
        by_cases c2 : X9 = 0
        · rw [if_pos c2] at g; cases s <;> simp at g
        · rw [if_neg c2] at g; cases s <;> cases s2 <;> simp at g ⊢
      subst ss
      cases s
      · have e3 : cmI (rvI false A9) (rvI false X9) = cmpN A9 X9 := hcm.symm
        rw [e3]
        exact rcmpP_ S _ _ _ p l c q k d false p2 l2 c2 q2 k2 d2 w hk hs1 hs2 hT1 hT2 hC zS
      · have e3 : cmI (rvI true A9) (rvI true X9) = - cmpN A9 X9 := by
          rw [hcm]; unfold cmI rvI
          by_cases c1 : A9 < X9
          · rw [if_neg (by simp; omega), if_pos (by simp; omega), if_pos (by omega)]; rfl
          · by_cases c2 : X9 < A9
            · rw [if_pos (by simp; omega), if_neg (by omega), if_pos (by omega)]
            · rw [if_neg (by simp; omega), if_neg (by simp; omega), if_neg (by omega), if_neg (by omega)]; rfl
        have wr : IntKind.i64.wrap (-(cmpN A9 X9)) = -(cmpN A9 X9) := by
          rw [hcm]; unfold cmI
          by_cases c1 : (A9 : Int) < X9
          · rw [if_pos c1]; decide +kernel
          · rw [if_neg c1]
            by_cases c2 : (X9 : Int) < A9
            · rw [if_pos c2]; decide +kernel
            · rw [if_neg c2]; decide +kernel
        rw [e3]
        exact rcmpN_ S _ _ _ p l c q k d true p2 l2 c2 q2 k2 d2 w hk hs1 hs2 hT1 hT2 hC zS wr
  · rw [e2 g]
    exact rcmpG_ S U s p l c q k d s2 p2 l2 c2 q2 k2 d2 w hs1 hs2 g
end Go.Proofs.Ytbbmoaiilnfmgaa
