import Derived.Test.YtbbmoaiilnfmgaaKET
import Derived.Test.YtbbmoaiilnfmgaaKS6O
namespace Go.Proofs.Ytbbmoaiilnfmgaa
open Go.RowKit
theorem Fq.H2.two0 (w : World) (a b c d : Value) (s t : TypeId) : Fq.H2 ((w.alloc (.cells #[a, b] s)).alloc (.cells #[c, d] t)) (w.heap.size + 1) c d := by
  unfold Fq.H2; simp [go_sem]

def H6 (w : World) (B : Nat) (a b c d e f : Value) : Prop := Fq.H2 w B a b ∧ Fq.H2 w (B + 1) c d ∧ Fq.H2 w (B + 2) e f
theorem H6.keep {W w : World} {B : Nat} {a b c d e f : Value} (h : H6 W B a b c d e f) (g : Kp W w) : H6 w B a b c d e f := ⟨Fq.H2.keep h.1 g, Fq.H2.keep h.2.1 g, Fq.H2.keep h.2.2 g⟩
theorem H6.new (w : World) (a b c d e f : Value) (s t u : TypeId) : H6 (((w.alloc (.cells #[a, b] s)).alloc (.cells #[c, d] t)).alloc (.cells #[e, f] u)) w.heap.size a b c d e f := by
  refine ⟨?_, ?_, ?_⟩ <;> (unfold Fq.H2; simp [go_sem])
theorem H6.put {w : World} {B : Nat} {a b c d e f : Value} (h : H6 w B a b c d e f) (a' b' c' d' : Value) : H6 ((((w.setCell ⟨B, 0, none⟩ a').setCell ⟨B, 1, none⟩ b').setCell ⟨B + 1, 0, none⟩ c').setCell ⟨B + 1, 1, none⟩ d') B a' b' c' d' e f := by
  refine ⟨?_, ?_, ?_⟩
  · exact Fq.H2.far (Fq.H2.put h.1 a' b') (by omega) c' d'
  · exact Fq.H2.put (Fq.H2.far h.2.1 (by omega) a' b') c' d'
  · exact Fq.H2.far (Fq.H2.far h.2.2 (by omega) a' b') (by omega) c' d'

def QP (base : Nat) (w : World) (s : Bool) (p : Option Addr) (l c : Nat) (q : Option Addr) (k d : Nat) (Z : Int → Nat) : Prop := ∃ a b, Own w base (.slice p l c) (dig a) ∧ Own w base (.slice q k d) (dig b) ∧ b ≠ 0 ∧ blen a ≤ 4194304 ∧ blen b ≤ 4194304 ∧ ∀ dd : Int, refW 53 1074 2098 9218868437227405311 0 dd s a b = Z dd
theorem QP.kp {base : Nat} {w w' : World} {s : Bool} {p : Option Addr} {l c : Nat} {q : Option Addr} {k d : Nat} {Z : Int → Nat} (h : QP base w s p l c q k d Z) (g : Kp w w') : QP base w' s p l c q k d Z := by
  obtain ⟨a, b, h1, h2, h3⟩ := h
  exact ⟨a, b, h1.kp g, h2.kp g, h3⟩
theorem QP.mono {base base' : Nat} {w : World} {s : Bool} {p : Option Addr} {l c : Nat} {q : Option Addr} {k d : Nat} {Z : Int → Nat} (h : QP base w s p l c q k d Z) (g : base' ≤ base) : QP base' w s p l c q k d Z := by
  obtain ⟨a, b, h1, h2, h3⟩ := h
  exact ⟨a, b, h1.mono g, h2.mono g, h3⟩
theorem QP.set {base : Nat} {w : World} {s : Bool} {p : Option Addr} {l c : Nat} {q : Option Addr} {k d : Nat} {Z : Int → Nat} (h : QP base w s p l c q k d Z) {x : Addr} (hx : x.block < base) (u : Value) : QP base (w.setCell x u) s p l c q k d Z := by
  obtain ⟨a, b, h1, h2, h3⟩ := h
  exact ⟨a, b, h1.setOther hx u, h2.setOther hx u, h3⟩
theorem QP.congr {base : Nat} {w : World} {s : Bool} {p : Option Addr} {l c : Nat} {q : Option Addr} {k d : Nat} {Z Y : Int → Nat} (h : QP base w s p l c q k d Z) (e : Z = Y) : QP base w s p l c q k d Y := e ▸ h
theorem qbits_ (s : Bool) (p : Option Addr) (l c : Nat) (q : Option Addr) (k d : Nat) (Z : Int → Nat) (dd : Int) (B1 : Nat) (w : World) (h : QP B1 w s p l c q k d Z) : Calls Try.prog 31 #[.int .i64 dd, .agg #[.bool s, .slice p l c, .slice q k d]] w fun e w' => e = .returned (.int .u64 ((Z dd : Nat) : Int)) ∧ Kp w w' := by
  obtain ⟨a, b, u1, u2, u3, u4, u5, u6⟩ := h
  have h := rbits_ dd s (.slice p l c) (.slice q k d) a b w u1.ls u2.ls u3 u4 u5
  rw [u6 dd] at h
  exact h
set_option maxRecDepth 20000 in
set_option maxHeartbeats 1000000 in
theorem leastNN_ (i : Int) (t1 : (i == 0) = false) (j : Int) (t2 : (j == 0) = false) (s : Bool) (p : Option Addr) (l c : Nat) (q : Option Addr) (k d : Nat) (s2 : Bool) (p2 : Option Addr) (l2 c2 : Nat) (q2 : Option Addr) (k2 d2 : Nat) (w : World) : Calls Try.prog 18 #[.agg #[.bool false, .int .i64 i, .bool s, .slice p l c, .slice q k d, .int .i64 j, .bool s2, .slice p2 l2 c2, .slice q2 k2 d2]] w fun e w' => e = .returned (.agg #[.int .u64 18442240474082181120, .int .u64 9218868437227405312]) ∧ Kp w w' := by
  go_enter Try.func18, Try.ntmps18
  go_wp2_with (first | (go_at_call 30; refine (Fq.rentire_ _).mono ?_; rintro e w' ⟨rfl, rfl⟩))
  exact bodyPost_ret (v := .agg #[.int .u64 18442240474082181120, .int .u64 9218868437227405312]) (by simp [results, Try.results18, go_sem]) rfl ⟨rfl, (by repeat (with_reducible (first | assumption | exact Kp.refl _ | apply Kp.drew | apply Kp.alloc | apply Kp.drewN | (refine Kp.setCell ?_ (by first | omega | (simp <;> omega)) _) | (refine Kp.trans ?_ (by assumption)))))⟩
set_option maxRecDepth 20000 in
set_option maxHeartbeats 1000000 in
theorem leastFN_ (ZA : Int) (j : Int) (t2 : (j == 0) = false) (s : Bool) (p : Option Addr) (l c : Nat) (q : Option Addr) (k d : Nat) (s2 : Bool) (p2 : Option Addr) (l2 c2 : Nat) (q2 : Option Addr) (k2 d2 : Nat) (w : World) (hb1 : ∀ W : World, Kp w W → Calls Try.prog 31 #[.int .i64 (-1), .agg #[.bool s, .slice p l c, .slice q k d]] W fun e w' => e = .returned (.int .u64 ZA) ∧ Kp W w') : Calls Try.prog 18 #[.agg #[.bool false, .int .i64 0, .bool s, .slice p l c, .slice q k d, .int .i64 j, .bool s2, .slice p2 l2 c2, .slice q2 k2 d2]] w fun e w' => e = .returned (.agg #[.int .u64 ZA, .int .u64 9218868437227405312]) ∧ Kp w w' := by
  go_enter Try.func18, Try.ntmps18
  go_wp2_with (first | (go_at_call 30; refine (Fq.rentire_ _).mono ?_; rintro e w' ⟨rfl, rfl⟩) | (go_at_call_of 31 (Value.slice p l c); refine (hb1 _ ?q0).mono ?_; (case q0 => exact ((((Kp.refl w).alloc _).alloc _).alloc _).alloc _); rintro e wa ⟨rfl, ga⟩; have ka : Kp w wa := Kp.trans (((((Kp.refl w).alloc _).alloc _).alloc _).alloc _) ga; have x0 := kkeep ga (b := w.heap.size) (o := 0) (v := .bool false) (by simp [go_sem]); have xz0 : wa.frozen? ⟨w.heap.size, 0, none⟩ = false := (kfro ga (by simp <;> omega)).trans (by simp [go_sem]); have x1 := kkeep ga (b := w.heap.size) (o := 1) (v := .int .i64 0) (by simp [go_sem]); have xz1 : wa.frozen? ⟨w.heap.size, 1, none⟩ = false := (kfro ga (by simp <;> omega)).trans (by simp [go_sem]); have x2 := kkeep ga (b := w.heap.size) (o := 2) (v := .bool s) (by simp [go_sem]); have xz2 : wa.frozen? ⟨w.heap.size, 2, none⟩ = false := (kfro ga (by simp <;> omega)).trans (by simp [go_sem]); have x3 := kkeep ga (b := w.heap.size) (o := 3) (v := .slice p l c) (by simp [go_sem]); have xz3 : wa.frozen? ⟨w.heap.size, 3, none⟩ = false := (kfro ga (by simp <;> omega)).trans (by simp [go_sem]); have x4 := kkeep ga (b := w.heap.size) (o := 4) (v := .slice q k d) (by simp [go_sem]); have xz4 : wa.frozen? ⟨w.heap.size, 4, none⟩ = false := (kfro ga (by simp <;> omega)).trans (by simp [go_sem]); have x5 := kkeep ga (b := w.heap.size) (o := 5) (v := .int .i64 j) (by simp [go_sem]); have xz5 : wa.frozen? ⟨w.heap.size, 5, none⟩ = false := (kfro ga (by simp <;> omega)).trans (by simp [go_sem]); have x6 := kkeep ga (b := w.heap.size) (o := 6) (v := .bool s2) (by simp [go_sem]); have xz6 : wa.frozen? ⟨w.heap.size, 6, none⟩ = false := (kfro ga (by simp <;> omega)).trans (by simp [go_sem]); have x7 := kkeep ga (b := w.heap.size) (o := 7) (v := .slice p2 l2 c2) (by simp [go_sem]); have xz7 : wa.frozen? ⟨w.heap.size, 7, none⟩ = false := (kfro ga (by simp <;> omega)).trans (by simp [go_sem]); have x8 := kkeep ga (b := w.heap.size) (o := 8) (v := .slice q2 k2 d2) (by simp [go_sem]); have xz8 : wa.frozen? ⟨w.heap.size, 8, none⟩ = false := (kfro ga (by simp <;> omega)).trans (by simp [go_sem]); have v0 := kkeep ga (b := w.heap.size + 3) (o := 0) (v := .int .u64 18442240474082181120) (by simp [go_sem]); have vz0 : wa.frozen? ⟨w.heap.size + 3, 0, none⟩ = false := (kfro ga (by simp <;> omega)).trans (by simp [go_sem]); have v1 := kkeep ga (b := w.heap.size + 3) (o := 1) (v := .int .u64 9218868437227405312) (by simp [go_sem]); have vz1 : wa.frozen? ⟨w.heap.size + 3, 1, none⟩ = false := (kfro ga (by simp <;> omega)).trans (by simp [go_sem]); have r0 := kkeep ga (b := w.heap.size + 1) (o := 0) (v := .int .u64 0) (by simp [go_sem]); have rz0 : wa.frozen? ⟨w.heap.size + 1, 0, none⟩ = false := (kfro ga (by simp <;> omega)).trans (by simp [go_sem]); have r1 := kkeep ga (b := w.heap.size + 1) (o := 1) (v := .int .u64 0) (by simp [go_sem]); have rz1 : wa.frozen? ⟨w.heap.size + 1, 1, none⟩ = false := (kfro ga (by simp <;> omega)).trans (by simp [go_sem])))
  exact bodyPost_ret (v := .agg #[.int .u64 ZA, .int .u64 9218868437227405312]) (by simp [results, Try.results18, go_sem, r0, r1]) rfl ⟨rfl, (by repeat (with_reducible (first | assumption | exact Kp.refl _ | apply Kp.drew | apply Kp.alloc | apply Kp.drewN | (refine Kp.setCell ?_ (by first | omega | (simp <;> omega)) _) | (refine Kp.trans ?_ (by assumption)))))⟩
set_option maxRecDepth 20000 in
set_option maxHeartbeats 1000000 in
theorem leastNF_ (i : Int) (t1 : (i == 0) = false) (ZB : Int) (s : Bool) (p : Option Addr) (l c : Nat) (q : Option Addr) (k d : Nat) (s2 : Bool) (p2 : Option Addr) (l2 c2 : Nat) (q2 : Option Addr) (k2 d2 : Nat) (w : World) (hb2 : ∀ W : World, Kp w W → Calls Try.prog 31 #[.int .i64 1, .agg #[.bool s2, .slice p2 l2 c2, .slice q2 k2 d2]] W fun e w' => e = .returned (.int .u64 ZB) ∧ Kp W w') : Calls Try.prog 18 #[.agg #[.bool false, .int .i64 i, .bool s, .slice p l c, .slice q k d, .int .i64 0, .bool s2, .slice p2 l2 c2, .slice q2 k2 d2]] w fun e w' => e = .returned (.agg #[.int .u64 18442240474082181120, .int .u64 ZB]) ∧ Kp w w' := by
  go_enter Try.func18, Try.ntmps18
  go_wp2_with (first | (go_at_call 30; refine (Fq.rentire_ _).mono ?_; rintro e w' ⟨rfl, rfl⟩) | (go_at_call_of 31 (Value.slice p2 l2 c2); refine (hb2 _ ?q0).mono ?_; (case q0 => exact ((((Kp.refl w).alloc _).alloc _).alloc _).alloc _); rintro e wb ⟨rfl, gb⟩; have kb : Kp w wb := Kp.trans (((((Kp.refl w).alloc _).alloc _).alloc _).alloc _) gb; have u0 := kkeep gb (b := w.heap.size + 3) (o := 0) (v := .int .u64 18442240474082181120) (by simp [go_sem]); have uz0 : wb.frozen? ⟨w.heap.size + 3, 0, none⟩ = false := (kfro gb (by simp <;> omega)).trans (by simp [go_sem]); have u1 := kkeep gb (b := w.heap.size + 3) (o := 1) (v := .int .u64 9218868437227405312) (by simp [go_sem]); have uz1 : wb.frozen? ⟨w.heap.size + 3, 1, none⟩ = false := (kfro gb (by simp <;> omega)).trans (by simp [go_sem]); have y0 := kkeep gb (b := w.heap.size + 1) (o := 0) (v := .int .u64 0) (by simp [go_sem]); have yz0 : wb.frozen? ⟨w.heap.size + 1, 0, none⟩ = false := (kfro gb (by simp <;> omega)).trans (by simp [go_sem]); have y1 := kkeep gb (b := w.heap.size + 1) (o := 1) (v := .int .u64 0) (by simp [go_sem]); have yz1 : wb.frozen? ⟨w.heap.size + 1, 1, none⟩ = false := (kfro gb (by simp <;> omega)).trans (by simp [go_sem])))
  exact bodyPost_ret (v := .agg #[.int .u64 18442240474082181120, .int .u64 ZB]) (by simp [results, Try.results18, go_sem, y0, y1]) rfl ⟨rfl, (by repeat (with_reducible (first | assumption | exact Kp.refl _ | apply Kp.drew | apply Kp.alloc | apply Kp.drewN | (refine Kp.setCell ?_ (by first | omega | (simp <;> omega)) _) | (refine Kp.trans ?_ (by assumption)))))⟩
set_option maxRecDepth 20000 in
set_option maxHeartbeats 1000000 in
theorem leastFF_ (ZA : Int) (ZB : Int) (s : Bool) (p : Option Addr) (l c : Nat) (q : Option Addr) (k d : Nat) (s2 : Bool) (p2 : Option Addr) (l2 c2 : Nat) (q2 : Option Addr) (k2 d2 : Nat) (w : World) (hb1 : ∀ W : World, Kp w W → Calls Try.prog 31 #[.int .i64 (-1), .agg #[.bool s, .slice p l c, .slice q k d]] W fun e w' => e = .returned (.int .u64 ZA) ∧ Kp W w') (hb2 : ∀ W : World, Kp w W → Calls Try.prog 31 #[.int .i64 1, .agg #[.bool s2, .slice p2 l2 c2, .slice q2 k2 d2]] W fun e w' => e = .returned (.int .u64 ZB) ∧ Kp W w') : Calls Try.prog 18 #[.agg #[.bool false, .int .i64 0, .bool s, .slice p l c, .slice q k d, .int .i64 0, .bool s2, .slice p2 l2 c2, .slice q2 k2 d2]] w fun e w' => e = .returned (.agg #[.int .u64 ZA, .int .u64 ZB]) ∧ Kp w w' := by
  go_enter Try.func18, Try.ntmps18
  go_wp2_with (first | (go_at_call 30; refine (Fq.rentire_ _).mono ?_; rintro e w' ⟨rfl, rfl⟩) | (go_at_call_of 31 (Value.slice p l c); refine (hb1 _ ?q0).mono ?_; (case q0 => exact ((((Kp.refl w).alloc _).alloc _).alloc _).alloc _); rintro e wa ⟨rfl, ga⟩; have ka : Kp w wa := Kp.trans (((((Kp.refl w).alloc _).alloc _).alloc _).alloc _) ga; have x0 := kkeep ga (b := w.heap.size) (o := 0) (v := .bool false) (by simp [go_sem]); have xz0 : wa.frozen? ⟨w.heap.size, 0, none⟩ = false := (kfro ga (by simp <;> omega)).trans (by simp [go_sem]); have x1 := kkeep ga (b := w.heap.size) (o := 1) (v := .int .i64 0) (by simp [go_sem]); have xz1 : wa.frozen? ⟨w.heap.size, 1, none⟩ = false := (kfro ga (by simp <;> omega)).trans (by simp [go_sem]); have x2 := kkeep ga (b := w.heap.size) (o := 2) (v := .bool s) (by simp [go_sem]); have xz2 : wa.frozen? ⟨w.heap.size, 2, none⟩ = false := (kfro ga (by simp <;> omega)).trans (by simp [go_sem]); have x3 := kkeep ga (b := w.heap.size) (o := 3) (v := .slice p l c) (by simp [go_sem]); have xz3 : wa.frozen? ⟨w.heap.size, 3, none⟩ = false := (kfro ga (by simp <;> omega)).trans (by simp [go_sem]); have x4 := kkeep ga (b := w.heap.size) (o := 4) (v := .slice q k d) (by simp [go_sem]); have xz4 : wa.frozen? ⟨w.heap.size, 4, none⟩ = false := (kfro ga (by simp <;> omega)).trans (by simp [go_sem]); have x5 := kkeep ga (b := w.heap.size) (o := 5) (v := .int .i64 0) (by simp [go_sem]); have xz5 : wa.frozen? ⟨w.heap.size, 5, none⟩ = false := (kfro ga (by simp <;> omega)).trans (by simp [go_sem]); have x6 := kkeep ga (b := w.heap.size) (o := 6) (v := .bool s2) (by simp [go_sem]); have xz6 : wa.frozen? ⟨w.heap.size, 6, none⟩ = false := (kfro ga (by simp <;> omega)).trans (by simp [go_sem]); have x7 := kkeep ga (b := w.heap.size) (o := 7) (v := .slice p2 l2 c2) (by simp [go_sem]); have xz7 : wa.frozen? ⟨w.heap.size, 7, none⟩ = false := (kfro ga (by simp <;> omega)).trans (by simp [go_sem]); have x8 := kkeep ga (b := w.heap.size) (o := 8) (v := .slice q2 k2 d2) (by simp [go_sem]); have xz8 : wa.frozen? ⟨w.heap.size, 8, none⟩ = false := (kfro ga (by simp <;> omega)).trans (by simp [go_sem]); have v0 := kkeep ga (b := w.heap.size + 3) (o := 0) (v := .int .u64 18442240474082181120) (by simp [go_sem]); have vz0 : wa.frozen? ⟨w.heap.size + 3, 0, none⟩ = false := (kfro ga (by simp <;> omega)).trans (by simp [go_sem]); have v1 := kkeep ga (b := w.heap.size + 3) (o := 1) (v := .int .u64 9218868437227405312) (by simp [go_sem]); have vz1 : wa.frozen? ⟨w.heap.size + 3, 1, none⟩ = false := (kfro ga (by simp <;> omega)).trans (by simp [go_sem]); have r0 := kkeep ga (b := w.heap.size + 1) (o := 0) (v := .int .u64 0) (by simp [go_sem]); have rz0 : wa.frozen? ⟨w.heap.size + 1, 0, none⟩ = false := (kfro ga (by simp <;> omega)).trans (by simp [go_sem]); have r1 := kkeep ga (b := w.heap.size + 1) (o := 1) (v := .int .u64 0) (by simp [go_sem]); have rz1 : wa.frozen? ⟨w.heap.size + 1, 1, none⟩ = false := (kfro ga (by simp <;> omega)).trans (by simp [go_sem])) | (go_at_call_of 31 (Value.slice p2 l2 c2); refine (hb2 _ ?q0).mono ?_; (case q0 => exact ka.setCell (by simp <;> omega) _); rintro e wb ⟨rfl, gb⟩; have kb : Kp w wb := Kp.trans (ka.setCell (by simp <;> omega) _) gb; have u0 := kkeep gb (b := w.heap.size + 3) (o := 0) (v := .int .u64 ZA) (by simp [go_sem, v0]); have u1 := kkeep gb (b := w.heap.size + 3) (o := 1) (v := .int .u64 9218868437227405312) (by simp [go_sem, v1]); have uz0 : wb.frozen? ⟨w.heap.size + 3, 0, none⟩ = false := (kfro gb (by have := cell_lt v0; simpa using this)).trans (by simp [go_sem, vz0]); have uz1 : wb.frozen? ⟨w.heap.size + 3, 1, none⟩ = false := (kfro gb (by have := cell_lt v0; simpa using this)).trans (by simp [go_sem, vz1]); have y0 := kkeep gb (b := w.heap.size + 1) (o := 0) (v := .int .u64 0) (by simp [go_sem, r0]); have y1 := kkeep gb (b := w.heap.size + 1) (o := 1) (v := .int .u64 0) (by simp [go_sem, r1]); have yz0 : wb.frozen? ⟨w.heap.size + 1, 0, none⟩ = false := (kfro gb (by have := cell_lt r0; simpa using this)).trans (by simp [go_sem, rz0]); have yz1 : wb.frozen? ⟨w.heap.size + 1, 1, none⟩ = false := (kfro gb (by have := cell_lt r0; simpa using this)).trans (by simp [go_sem, rz1])))
  exact bodyPost_ret (v := .agg #[.int .u64 ZA, .int .u64 ZB]) (by simp [results, Try.results18, go_sem, y0, y1]) rfl ⟨rfl, (by repeat (with_reducible (first | assumption | exact Kp.refl _ | apply Kp.drew | apply Kp.alloc | apply Kp.drewN | (refine Kp.setCell ?_ (by first | omega | (simp <;> omega)) _) | (refine Kp.trans ?_ (by assumption)))))⟩

def SV0 (N : Bool) (v : Value) : Prop := ∃ (i j : Int) (s : Bool) (p : Option Addr) (l c : Nat) (q : Option Addr) (k d : Nat) (s2 : Bool) (p2 : Option Addr) (l2 c2 : Nat) (q2 : Option Addr) (k2 d2 : Nat), v = .agg #[.bool N, .int .i64 i, .bool s, .slice p l c, .slice q k d, .int .i64 j, .bool s2, .slice p2 l2 c2, .slice q2 k2 d2]
def SV1 (n : Bool) (m : Nat) (n' : Bool) (m' : Nat) (W : World) (v : Value) : Prop := ∃ (s : Bool) (p : Option Addr) (l c : Nat) (q : Option Addr) (k d : Nat) (s2 : Bool) (p2 : Option Addr) (l2 c2 : Nat) (q2 : Option Addr) (k2 d2 : Nat), v = .agg #[.bool false, .int .i64 (infS n m), .bool s, .slice p l c, .slice q k d, .int .i64 (infS n' m'), .bool s2, .slice p2 l2 c2, .slice q2 k2 d2] ∧ RP 0 W s p l c q k d (fN n m) (fM m) ∧ RP 0 W s2 p2 l2 c2 q2 k2 d2 (fN n' m') (fM m')
theorem SV1.kp {n : Bool} {m : Nat} {n' : Bool} {m' : Nat} {W W' : World} {v : Value} (g : Kp W W') (h : SV1 n m n' m' W v) : SV1 n m n' m' W' v := by
  obtain ⟨s, p, l, c, q, k, d, s2, p2, l2, c2, q2, k2, d2, e, h1, h2⟩ := h
  exact ⟨s, p, l, c, q, k, d, s2, p2, l2, c2, q2, k2, d2, e, h1.kp g, h2.kp g⟩
theorem pla_ne (x : Nat) : Fq.pla x ≠ 9223372036854775808 := by unfold Fq.pla; split <;> omega
theorem rlo_ne (a b : Nat) : Fq.rlo a b ≠ 9223372036854775808 := by
  unfold Fq.rlo
  split
  · exact pla_ne a
  · decide
theorem rhi_ne (a b : Nat) : Fq.rhi a b ≠ 9223372036854775808 := by
  unfold Fq.rhi
  split
  · exact pla_ne b
  · decide
theorem ofEmpty_ (a b : Nat) (ha : a < 18446744073709551616) (hb : b < 18446744073709551616) (hs : Fq.snd a b = false) (w : World) : Calls Try.prog 16 #[.agg #[.int .u64 ((a : Nat) : Int), .int .u64 ((b : Nat) : Int)]] w fun e w' => ∃ v, e = .returned v ∧ SV0 true v ∧ Kp w w' := by
  have hr : ∀ w : World, Calls Try.prog 27 #[.agg #[.int .u64 ((a : Nat) : Int), .int .u64 ((b : Nat) : Int)]] w fun e w' => e = .returned (.agg #[.int .u64 9218868437227405312, .int .u64 18442240474082181120]) ∧ Kp w w' := by
    obtain ⟨n, m, hm, rfl⟩ := Fq.exD a ha
    obtain ⟨n', m', hm', rfl⟩ := Fq.exD b hb
    intro w
    have h := Fq.rread_ n n' m m' hm hm' w
    rw [show Fq.rlo (Fq.wD n m) (Fq.wD n' m') = 9218868437227405312 from by simp [Fq.rlo, hs], show Fq.rhi (Fq.wD n m) (Fq.wD n' m') = 18442240474082181120 from by simp [Fq.rhi, hs]] at h
    exact h
  refine (ofE_ _ _ hr w).mono ?_
  rintro e w' ⟨s, p, l, c, q, k, d, s2, p2, l2, c2, q2, k2, d2, rfl, -, -, g⟩
  exact ⟨_, rfl, ⟨0, 0, s, p, l, c, q, k, d, s2, p2, l2, c2, q2, k2, d2, rfl⟩, g⟩
theorem ofSound_ (a b : Nat) (ha : a < 18446744073709551616) (hb : b < 18446744073709551616) (hs : Fq.snd a b = true) (n n' : Bool) (m m' : Nat) (hm : m ≤ 9218868437227405312) (hm' : m' ≤ 9218868437227405312) (e1 : Fq.rlo a b = Fq.wD n m) (e2 : Fq.rhi a b = Fq.wD n' m') (w : World) : Calls Try.prog 16 #[.agg #[.int .u64 ((a : Nat) : Int), .int .u64 ((b : Nat) : Int)]] w fun e w' => ∃ v, e = .returned v ∧ SV1 n m n' m' w' v ∧ Kp w w' := by
  have hr : ∀ w : World, Calls Try.prog 27 #[.agg #[.int .u64 ((a : Nat) : Int), .int .u64 ((b : Nat) : Int)]] w fun e w' => e = .returned (.agg #[.int .u64 ((Fq.wD n m : Nat) : Int), .int .u64 ((Fq.wD n' m' : Nat) : Int)]) ∧ Kp w w' := by
    rw [← e1, ← e2]
    obtain ⟨n, m, hm, rfl⟩ := Fq.exD a ha
    obtain ⟨n', m', hm', rfl⟩ := Fq.exD b hb
    exact fun w => Fq.rread_ n n' m m' hm hm' w
  have t1 : (((Fq.wD n m : Nat) : Int) == 9218868437227405312) = false := by
    have h1 : Fq.rlo a b ≠ 9218868437227405312 := by
      have h2 : a ≠ 9218868437227405312 := by intro h; rw [h] at hs; simp [Fq.snd] at hs
      simp only [Fq.rlo, hs, if_true, Fq.pla]; split <;> omega
    rw [e1] at h1
    simp; omega
  refine (ofS_ _ _ _ _ _ _ _ _ _ _ hr (bound_ n m hm (e1 ▸ rlo_ne a b)) (bound_ n' m' hm' (e2 ▸ rhi_ne a b)) t1 w).mono ?_
  rintro e w' ⟨s, p, l, c, q, k, d, s2, p2, l2, c2, q2, k2, d2, rfl, h1, h2, g⟩
  exact ⟨_, rfl, ⟨s, p, l, c, q, k, d, s2, p2, l2, c2, q2, k2, d2, rfl, h1.mono (Nat.zero_le _), h2.mono (Nat.zero_le _)⟩, g⟩

theorem leastP_ (i j : Int) (ZA ZB : Int → Nat) (s : Bool) (p : Option Addr) (l c : Nat) (q : Option Addr) (k d : Nat) (s2 : Bool) (p2 : Option Addr) (l2 c2 : Nat) (q2 : Option Addr) (k2 d2 : Nat) (B1 B2 : Nat) (w : World) (h1 : i = 0 → QP B1 w s p l c q k d ZA) (h2 : j = 0 → QP B2 w s2 p2 l2 c2 q2 k2 d2 ZB) : Calls Try.prog 18 #[.agg #[.bool false, .int .i64 i, .bool s, .slice p l c, .slice q k d, .int .i64 j, .bool s2, .slice p2 l2 c2, .slice q2 k2 d2]] w fun e w' => e = .returned (.agg #[.int .u64 ((if i = 0 then ZA (-1) else 18442240474082181120 : Nat) : Int), .int .u64 ((if j = 0 then ZB 1 else 9218868437227405312 : Nat) : Int)]) ∧ Kp w w' := by
  by_cases e1 : i = 0
  · have g1 := h1 e1
    rw [if_pos e1]
    by_cases e2 : j = 0
    · have g2 := h2 e2
      rw [if_pos e2]
      subst e1 e2
      exact leastFF_ _ _ s p l c q k d s2 p2 l2 c2 q2 k2 d2 w (fun W g => qbits_ s p l c q k d ZA (-1) B1 W (g1.kp g)) (fun W g => qbits_ s2 p2 l2 c2 q2 k2 d2 ZB 1 B2 W (g2.kp g))
    · rw [if_neg e2]
      subst e1
      exact leastFN_ _ j (by simpa using e2) s p l c q k d s2 p2 l2 c2 q2 k2 d2 w (fun W g => qbits_ s p l c q k d ZA (-1) B1 W (g1.kp g))
  · rw [if_neg e1]
    by_cases e2 : j = 0
    · have g2 := h2 e2
      rw [if_pos e2]
      subst e2
      exact leastNF_ i (by simpa using e1) _ s p l c q k d s2 p2 l2 c2 q2 k2 d2 w (fun W g => qbits_ s2 p2 l2 c2 q2 k2 d2 ZB 1 B2 W (g2.kp g))
    · rw [if_neg e2]
      exact leastNN_ i (by simpa using e1) j (by simpa using e2) s p l c q k d s2 p2 l2 c2 q2 k2 d2 w
theorem infS_zero (n : Bool) (m : Nat) : infS n m = 0 ↔ m ≠ 9218868437227405312 := by
  unfold infS
  by_cases c : m = 9218868437227405312
  · rw [if_pos c]; cases n <;> simp [c]
  · rw [if_neg c]; simp [c]
theorem rlo_inf (a b : Nat) (hs : Fq.snd a b = true) (n : Bool) (m : Nat) (e1 : Fq.rlo a b = Fq.wD n m) (c : m = 9218868437227405312) : n = true := by
  have h2 : a ≠ 9218868437227405312 := by intro h; rw [h] at hs; simp [Fq.snd] at hs
  have h1 : Fq.rlo a b ≠ 9218868437227405312 := by simp only [Fq.rlo, hs, if_true, Fq.pla]; split <;> omega
  rw [e1, c] at h1
  cases n
  · exact absurd rfl h1
  · rfl

def pw (z : Int) : Nat := Fq.wD (decide (z < 0)) z.natAbs
def BdZ (z : Int) : Prop := -9218868437227405312 ≤ z ∧ z ≤ 9218868437227405312
theorem plz_pw (z : Int) : Fq.plz (decide (z < 0)) z.natAbs = z := by
  unfold Fq.plz
  by_cases c : z < 0 <;> simp [c] <;> omega
theorem abs_pw (z : Int) (h : BdZ z) : z.natAbs ≤ 9218868437227405312 := by unfold BdZ at h; omega
theorem pw_lt (z : Int) (h : BdZ z) : pw z < 18446744073709551616 := by
  have := abs_pw z h
  unfold pw Fq.wD; split <;> omega
theorem pw_ne (z : Int) (h : BdZ z) : pw z ≠ 9223372036854775808 := by
  have h2 := abs_pw z h
  unfold pw Fq.wD
  by_cases c : z < 0 <;> simp [c] <;> omega
theorem pla_pw (z : Int) (h : BdZ z) : Fq.pla (pw z) = pw z := by unfold Fq.pla; rw [if_neg (pw_ne z h)]
theorem pw_I : pw 9218868437227405312 = 9218868437227405312 := by decide
theorem pw_MI : pw (-9218868437227405312) = 18442240474082181120 := by decide
theorem ord_pw (x y : Int) (hx : BdZ x) (hy : BdZ y) : FloatKind.f64.format.order (pw x) (pw y) = some (compare x y) := by
  have h := Fq.ordD (decide (x < 0)) (decide (y < 0)) x.natAbs y.natAbs (abs_pw x hx) (abs_pw y hy)
  rw [plz_pw, plz_pw] at h
  exact h
theorem plt9 (x y : Int) (hx : BdZ x) (hy : BdZ y) : (FloatKind.f64.format.order (pw x) (pw y) == some Ordering.lt) = decide (x < y) := by
  rw [ord_pw x y hx hy]
  rcases Int.lt_trichotomy x y with g | g | g
  · rw [Fq.cmp_lt g, decide_eq_true g]; rfl
  · rw [Fq.cmp_eq g, decide_eq_false (by omega)]; rfl
  · rw [Fq.cmp_gt g, decide_eq_false (by omega)]; rfl
theorem pgt9 (x y : Int) (hx : BdZ x) (hy : BdZ y) : (FloatKind.f64.format.order (pw x) (pw y) == some Ordering.gt) = decide (y < x) := by
  rw [ord_pw x y hx hy]
  rcases Int.lt_trichotomy x y with g | g | g
  · rw [Fq.cmp_lt g, decide_eq_false (by omega)]; rfl
  · rw [Fq.cmp_eq g, decide_eq_false (by omega)]; rfl
  · rw [Fq.cmp_gt g, decide_eq_true g]; rfl
theorem peq9 (x y : Int) (hx : BdZ x) (hy : BdZ y) : (FloatKind.f64.format.order (pw x) (pw y) == some Ordering.eq) = decide (x = y) := by
  rw [ord_pw x y hx hy]
  rcases Int.lt_trichotomy x y with g | g | g
  · rw [Fq.cmp_lt g, decide_eq_false (by omega)]; rfl
  · rw [Fq.cmp_eq g, decide_eq_true g]; rfl
  · rw [Fq.cmp_gt g, decide_eq_false (by omega)]; rfl
theorem ple9 (x y : Int) (hx : BdZ x) (hy : BdZ y) : (FloatKind.f64.format.order (pw x) (pw y) == some Ordering.lt || FloatKind.f64.format.order (pw x) (pw y) == some Ordering.eq) = decide (x ≤ y) := by
  rw [plt9 x y hx hy, peq9 x y hx hy]
  by_cases c : x < y <;> by_cases c2 : x = y <;> simp [c, c2] <;> omega
theorem pw_inj (x y : Int) (hx : BdZ x) (hy : BdZ y) : pw x = pw y ↔ x = y := by
  constructor
  · intro h
    have e := peq9 x y hx hy
    have e2 := peq9 y y hy hy
    rw [h, e2] at e
    by_cases c : x = y
    · exact c
    · simp [c] at e
  · intro h; rw [h]
def VdZ (L H : Int) : Prop := (L = 9218868437227405312 ∧ H = -9218868437227405312) ∨ (-9218868437227405312 ≤ L ∧ L < 9218868437227405312 ∧ -9218868437227405312 < H ∧ H ≤ 9218868437227405312 ∧ L ≤ H)
theorem VdZ.lo {L H : Int} (h : VdZ L H) : BdZ L := by unfold VdZ at h; unfold BdZ; omega
theorem VdZ.hi {L H : Int} (h : VdZ L H) : BdZ H := by unfold VdZ at h; unfold BdZ; omega
theorem pw_plz (n : Bool) (m : Nat) (h : Fq.wD n m ≠ 9223372036854775808) (hm : m ≤ 9218868437227405312) : pw (Fq.plz n m) = Fq.wD n m ∧ BdZ (Fq.plz n m) := by
  cases n
  · have e : Fq.plz false m = (m : Int) := by simp [Fq.plz]
    rw [e]
    refine ⟨?_, by unfold BdZ; omega⟩
    unfold pw
    rw [show decide ((m : Int) < 0) = false from decide_eq_false (by omega), show ((m : Int)).natAbs = m from by omega]
  · have e : Fq.plz true m = -(m : Int) := by simp [Fq.plz]
    have z : m ≠ 0 := by intro z; apply h; rw [z]; rfl
    rw [e]
    refine ⟨?_, by unfold BdZ; omega⟩
    unfold pw
    rw [show decide (-(m : Int) < 0) = true from decide_eq_true (by omega), show (-(m : Int)).natAbs = m from by omega]
theorem snd_pw (L H : Int) (hL : BdZ L) (hH : BdZ H) : Fq.snd (pw L) (pw H) = decide (L ≤ H ∧ L ≠ 9218868437227405312 ∧ H ≠ -9218868437227405312) := by
  unfold Fq.snd
  rw [ple9 L H hL hH]
  have e1 : (pw L = 9218868437227405312) ↔ L = 9218868437227405312 := by
    have h := pw_inj L 9218868437227405312 hL (by unfold BdZ; omega)
    rw [pw_I] at h; exact h
  have e2 : (pw H = 18442240474082181120) ↔ H = -9218868437227405312 := by
    have h := pw_inj H (-9218868437227405312) hH (by unfold BdZ; omega)
    rw [pw_MI] at h; exact h
  simp only [e1, e2]
  by_cases c1 : L ≤ H <;> by_cases c2 : L = 9218868437227405312 <;> by_cases c3 : H = -9218868437227405312 <;> simp [c1, c2, c3]
theorem rlo_pw (L H : Int) (hL : BdZ L) (hH : BdZ H) : Fq.rlo (pw L) (pw H) = pw (if L ≤ H ∧ L ≠ 9218868437227405312 ∧ H ≠ -9218868437227405312 then L else 9218868437227405312) := by
  unfold Fq.rlo
  rw [snd_pw L H hL hH, pla_pw L hL]
  by_cases c : L ≤ H ∧ L ≠ 9218868437227405312 ∧ H ≠ -9218868437227405312
  · rw [if_pos c, if_pos (decide_eq_true c)]
  · rw [if_neg c, if_neg (by simpa using c), pw_I]
theorem rhi_pw (L H : Int) (hL : BdZ L) (hH : BdZ H) : Fq.rhi (pw L) (pw H) = pw (if L ≤ H ∧ L ≠ 9218868437227405312 ∧ H ≠ -9218868437227405312 then H else -9218868437227405312) := by
  unfold Fq.rhi
  rw [snd_pw L H hL hH, pla_pw H hH]
  by_cases c : L ≤ H ∧ L ≠ 9218868437227405312 ∧ H ≠ -9218868437227405312
  · rw [if_pos c, if_pos (decide_eq_true c)]
  · rw [if_neg c, if_neg (by simpa using c), pw_MI]
theorem read_pw (a b : Nat) (ha : a < 18446744073709551616) (hb : b < 18446744073709551616) : ∃ L H, VdZ L H ∧ Fq.rlo a b = pw L ∧ Fq.rhi a b = pw H := by
  by_cases c : Fq.snd a b = true
  · obtain ⟨n, m, hm, rfl⟩ := Fq.exD a ha
    obtain ⟨n', m', hm', rfl⟩ := Fq.exD b hb
    have es := Fq.snd_w n n' m m' hm hm'
    rw [c] at es
    have es := of_decide_eq_true es.symm
    have key : ∀ (g : Bool) (r : Nat), r ≤ 9218868437227405312 → pw (Fq.plz g r) = Fq.pla (Fq.wD g r) ∧ BdZ (Fq.plz g r) := by
      intro g r hr
      by_cases c2 : Fq.wD g r = 9223372036854775808
      · have hg : g = true ∧ r = 0 := by
          unfold Fq.wD at c2
          cases g
          · simp at c2; omega
          · simp at c2; exact ⟨rfl, c2⟩
        rw [c2, hg.1, hg.2]
        exact ⟨by decide, by unfold BdZ Fq.plz; simp⟩
      · have h := pw_plz g r c2 hr
        rw [show Fq.pla (Fq.wD g r) = Fq.wD g r from by simp [Fq.pla, c2]]
        exact h
    have k1 := key n m es.1
    have k2 := key n' m' es.2.1
    refine ⟨Fq.plz n m, Fq.plz n' m', Or.inr ?_, ?_, ?_⟩
    · have b1 := k1.2
      have b2 := k2.2
      unfold BdZ at b1 b2
      have e1 : Fq.plz n m ≠ 9218868437227405312 := by
        intro h
        apply es.2.2.2.1
        unfold Fq.plz at h
        cases n
        · simp at h; exact ⟨rfl, by omega⟩
        · simp at h; omega
      have e2 : Fq.plz n' m' ≠ -9218868437227405312 := by
        intro h
        apply es.2.2.2.2
        unfold Fq.plz at h
        cases n'
        · simp at h <;> omega
        · simp at h; exact ⟨rfl, by omega⟩
      have := es.2.2.1
      omega
    · rw [k1.1]; simp [Fq.rlo, c]
    · rw [k2.1]; simp [Fq.rhi, c]
  · refine ⟨9218868437227405312, -9218868437227405312, Or.inl ⟨rfl, rfl⟩, ?_, ?_⟩
    · rw [pw_I]; unfold Fq.rlo; rw [if_neg c]
    · rw [pw_MI]; unfold Fq.rhi; rw [if_neg c]
theorem reread9 (L H : Int) (h : VdZ L H) : Fq.rlo (pw L) (pw H) = pw L ∧ Fq.rhi (pw L) (pw H) = pw H := by
  rw [rlo_pw L H h.lo h.hi, rhi_pw L H h.lo h.hi]
  rcases h with ⟨rfl, rfl⟩ | h
  · exact ⟨by rw [if_neg (by omega)], by rw [if_neg (by omega)]⟩
  · exact ⟨by rw [if_pos (by omega)], by rw [if_pos (by omega)]⟩

def Rd (a b : Nat) (L H : Int) : Prop := a < 18446744073709551616 ∧ b < 18446744073709551616 ∧ VdZ L H ∧ Fq.rlo a b = pw L ∧ Fq.rhi a b = pw H
theorem Rd.ex (a b : Nat) (ha : a < 18446744073709551616) (hb : b < 18446744073709551616) : ∃ L H, Rd a b L H := by
  obtain ⟨L, H, h1, h2, h3⟩ := read_pw a b ha hb
  exact ⟨L, H, ha, hb, h1, h2, h3⟩
theorem Rd.of {L H : Int} (h : VdZ L H) : Rd (pw L) (pw H) L H := ⟨pw_lt L h.lo, pw_lt H h.hi, h, (reread9 L H h).1, (reread9 L H h).2⟩
theorem Rd.vd {a b : Nat} {L H : Int} (h : Rd a b L H) : VdZ L H := h.2.2.1
theorem Rd.call {a b : Nat} {L H : Int} (h : Rd a b L H) (w : World) : Calls Try.prog 33 #[.agg #[.float .f64 a, .float .f64 b]] w fun e w' => e = .returned (.agg #[.float .f64 (pw L), .float .f64 (pw H)]) ∧ Kp w w' := by
  have g := Fq.read_ a b h.1 h.2.1 w
  rw [h.2.2.2.1, h.2.2.2.2] at g
  exact g
theorem emp9 (L H : Int) (h : VdZ L H) : decide (pw L = 9218868437227405312 ∧ pw H = 18442240474082181120) = decide (L = 9218868437227405312) := by
  congr 1; apply propext
  have e1 := pw_inj L 9218868437227405312 h.lo (by unfold BdZ; omega)
  have e2 := pw_inj H (-9218868437227405312) h.hi (by unfold BdZ; omega)
  rw [pw_I] at e1
  rw [pw_MI] at e2
  rw [e1, e2]
  unfold VdZ at h
  omega
end Go.Proofs.Ytbbmoaiilnfmgaa
