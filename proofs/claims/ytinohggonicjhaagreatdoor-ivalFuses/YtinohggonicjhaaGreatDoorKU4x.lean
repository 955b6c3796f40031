import Derived.Test.YtinohggonicjhaaGreatDoorKET
import Derived.Test.YtinohggonicjhaaGreatDoorKXZD
namespace Go.Proofs.YtinohggonicjhaaGreatDoor
open Go.RowKit
def badP (m m' : Nat) : Prop := 9218868437227405312 < m ∨ 9218868437227405312 < m' ∨ (m = 9218868437227405312 ∧ m' = 0) ∨ (m = 0 ∧ m' = 9218868437227405312)
theorem mul_bad (n n' : Bool) (m m' : Nat) (hm : m < 9223372036854775808) (hm' : m' < 9223372036854775808) (h : badP m m') : FloatKind.f64.format.mul (Fq.wD n m) (Fq.wD n' m') = none := by
  show Ieee.double.mul _ _ = none
  unfold Ieee.Format.mul
  by_cases c1 : 9218868437227405312 < m
  · rw [nanD9 n m c1 hm]; rfl
  · by_cases c2 : 9218868437227405312 < m'
    · rw [nanD9 n' m' c2 hm']
      by_cases c3 : m = 9218868437227405312
      · rw [c3, infD9]; rfl
      · obtain ⟨a, e, he, _⟩ := finD9 n m (by omega)
        rw [he]; rfl
    · rcases (h.resolve_left c1).resolve_left c2 with ⟨e1, e2⟩ | ⟨e1, e2⟩
      · obtain ⟨a, e, he, hz⟩ := finD9 n' m' (by omega)
        rw [e1, infD9, he]
        unfold Ieee.Datum.product
        simp only
        rw [if_pos (hz.2 e2)]; rfl
      · obtain ⟨a, e, he, hz⟩ := finD9 n m (by omega)
        rw [e2, infD9, he]
        unfold Ieee.Datum.product
        simp only
        rw [if_pos (hz.2 e1)]; rfl
theorem mul_inf (n n' : Bool) (m m' : Nat) (h : ¬ badP m m') (hi : ¬ (m < 9218868437227405312 ∧ m' < 9218868437227405312)) : FloatKind.f64.format.mul (Fq.wD n m) (Fq.wD n' m') = some (Fq.wD (n ^^ n') 9218868437227405312) := by
  unfold badP at h
  show Ieee.double.mul _ _ = _
  unfold Ieee.Format.mul
  by_cases c1 : m = 9218868437227405312
  · rw [c1, infD9]
    by_cases c2 : m' = 9218868437227405312
    · rw [c2, infD9]
      exact congrArg some (wrI9 _)
    · obtain ⟨a, e, he, hz⟩ := finD9 n' m' (by omega)
      rw [he]
      unfold Ieee.Datum.product
      simp only
      rw [if_neg (fun h0 => h (Or.inr (Or.inr (Or.inl ⟨c1, hz.1 h0⟩))))]
      exact congrArg some (wrI9 _)
  · have c2 : m' = 9218868437227405312 := by omega
    obtain ⟨a, e, he, hz⟩ := finD9 n m (by omega)
    rw [c2, infD9, he]
    unfold Ieee.Datum.product
    simp only
    rw [if_neg (fun h0 => h (Or.inr (Or.inr (Or.inr ⟨hz.1 h0, c2⟩)))), show (n ^^ n') = (n' ^^ n) from by cases n <;> cases n' <;> rfl]
    exact congrArg some (wrI9 _)
theorem run_nan_mul (X Y : Nat) (h : FloatKind.f64.format.mul X Y = none) (w : World) : ∃ r, 9218868437227405312 < r % 9223372036854775808 ∧ r < 18446744073709551616 ∧ (binOp .mul 26 (.float .f64 X) (.float .f64 Y)).run Tryz.prog w = .ok (.float .f64 r) w.drew := by
  refine ⟨Question.cut (.nanBits .f64 X Y) _, ?_, ?_, by simp [binOp, Op.floatArith, h]; rfl⟩
  · simp only [Question.cut]; exact (nan_cut9 _).1
  · simp only [Question.cut]; exact (nan_cut9 _).2
set_option maxRecDepth 20000 in
set_option maxHeartbeats 1000000 in
theorem sumA_ (i j : Int) (s : Bool) (p : Option Addr) (l c : Nat) (q : Option Addr) (k d : Nat) (s2 : Bool) (p2 : Option Addr) (l2 c2 : Nat) (q2 : Option Addr) (k2 d2 : Nat) (t1 : (i != 0) = true) (w : World) : Calls Tryz.prog 52 #[.agg #[.int .i64 i, .bool s, .slice p l c, .slice q k d], .agg #[.int .i64 j, .bool s2, .slice p2 l2 c2, .slice q2 k2 d2]] w fun e w' => e = .returned (.agg #[.int .i64 i, .bool s, .slice p l c, .slice q k d]) ∧ Kp w w' := by
  go_enter Tryz.func52, Tryz.ntmps52
  go_wp2
  exact bodyPost_ret (v := .agg #[.int .i64 i, .bool s, .slice p l c, .slice q k d]) (by simp [results, Tryz.results52, go_sem]) rfl ⟨rfl, (by repeat (with_reducible (first | assumption | exact Kp.refl _ | apply Kp.drew | apply Kp.alloc | apply Kp.drewN | (refine Kp.setCell ?_ (by first | omega | (simp <;> omega)) _) | (refine Kp.trans ?_ (by assumption)))))⟩
set_option maxRecDepth 20000 in
set_option maxHeartbeats 1000000 in
theorem sumB_ (i j : Int) (s : Bool) (p : Option Addr) (l c : Nat) (q : Option Addr) (k d : Nat) (s2 : Bool) (p2 : Option Addr) (l2 c2 : Nat) (q2 : Option Addr) (k2 d2 : Nat) (t1 : (i != 0) = false) (t2 : (j != 0) = true) (w : World) : Calls Tryz.prog 52 #[.agg #[.int .i64 i, .bool s, .slice p l c, .slice q k d], .agg #[.int .i64 j, .bool s2, .slice p2 l2 c2, .slice q2 k2 d2]] w fun e w' => e = .returned (.agg #[.int .i64 j, .bool s2, .slice p2 l2 c2, .slice q2 k2 d2]) ∧ Kp w w' := by
  go_enter Tryz.func52, Tryz.ntmps52
  go_wp2
  exact bodyPost_ret (v := .agg #[.int .i64 j, .bool s2, .slice p2 l2 c2, .slice q2 k2 d2]) (by simp [results, Tryz.results52, go_sem]) rfl ⟨rfl, (by repeat (with_reducible (first | assumption | exact Kp.refl _ | apply Kp.drew | apply Kp.alloc | apply Kp.drewN | (refine Kp.setCell ?_ (by first | omega | (simp <;> omega)) _) | (refine Kp.trans ?_ (by assumption)))))⟩
set_option maxRecDepth 20000 in
set_option maxHeartbeats 1000000 in
theorem sumN_ (Z : Int → Nat) (s : Bool) (p : Option Addr) (l c : Nat) (q : Option Addr) (k d : Nat) (s2 : Bool) (p2 : Option Addr) (l2 c2 : Nat) (q2 : Option Addr) (k2 d2 : Nat) (w : World) (hq : ∀ W : World, Kp w W → Calls Tryz.prog 78 #[.agg #[.bool s, .slice p l c, .slice q k d], .agg #[.bool s2, .slice p2 l2 c2, .slice q2 k2 d2]] W fun e w' => ∃ (s3 : Bool) (p3 : Option Addr) (l3 c3 : Nat) (q3 : Option Addr) (k3 d3 : Nat), e = .returned (.agg #[.bool s3, .slice p3 l3 c3, .slice q3 k3 d3]) ∧ QP W.heap.size w' s3 p3 l3 c3 q3 k3 d3 Z ∧ Kp W w') : Calls Tryz.prog 52 #[.agg #[.int .i64 0, .bool s, .slice p l c, .slice q k d], .agg #[.int .i64 0, .bool s2, .slice p2 l2 c2, .slice q2 k2 d2]] w fun e w' => ∃ (s3 : Bool) (p3 : Option Addr) (l3 c3 : Nat) (q3 : Option Addr) (k3 d3 : Nat), e = .returned (.agg #[.int .i64 0, .bool s3, .slice p3 l3 c3, .slice q3 k3 d3]) ∧ QP w.heap.size w' s3 p3 l3 c3 q3 k3 d3 Z ∧ Kp w w' := by
  go_enter Tryz.func52, Tryz.ntmps52
  go_wp2_with (first | (go_at_call 78; refine (hq _ ?q0).mono ?_; (case q0 => exact (((Kp.refl w).alloc _).alloc _).alloc _); rintro e w1 ⟨s3, p3, l3, c3, q3, k3, d3, rfl, hp, g1⟩; have r0 := kkeep g1 (b := w.heap.size + 2) (o := 0) (v := .int .i64 0) (by simp [go_sem]); have rz0 : w1.frozen? ⟨w.heap.size + 2, 0, none⟩ = false := (kfro g1 (by simp <;> omega)).trans (by simp [go_sem]); have r1 := kkeep g1 (b := w.heap.size + 2) (o := 1) (v := .bool false) (by simp [go_sem]); have rz1 : w1.frozen? ⟨w.heap.size + 2, 1, none⟩ = false := (kfro g1 (by simp <;> omega)).trans (by simp [go_sem]); have r2 := kkeep g1 (b := w.heap.size + 2) (o := 2) (v := .slice none 0 0) (by simp [go_sem]); have rz2 : w1.frozen? ⟨w.heap.size + 2, 2, none⟩ = false := (kfro g1 (by simp <;> omega)).trans (by simp [go_sem]); have r3 := kkeep g1 (b := w.heap.size + 2) (o := 3) (v := .slice none 0 0) (by simp [go_sem]); have rz3 : w1.frozen? ⟨w.heap.size + 2, 3, none⟩ = false := (kfro g1 (by simp <;> omega)).trans (by simp [go_sem])))
  exact bodyPost_ret (v := .agg #[.int .i64 0, .bool s3, .slice p3 l3 c3, .slice q3 k3 d3]) (by simp [results, Tryz.results52, go_sem, r0, r1, r2, r3]) rfl ⟨s3, p3, l3, c3, q3, k3, d3, rfl, QP.mono (((((hp).set (x := ⟨w.heap.size + 2, 0, none⟩) (by simp) (.int .i64 0)).set (x := ⟨w.heap.size + 2, 1, none⟩) (by simp) (.bool s3)).set (x := ⟨w.heap.size + 2, 2, none⟩) (by simp) (.slice p3 l3 c3)).set (x := ⟨w.heap.size + 2, 3, none⟩) (by simp) (.slice q3 k3 d3)) (by simp; omega), (((((Kp.trans ((((Kp.refl w).alloc _).alloc _).alloc _) g1)).setCell (by simp <;> omega) _).setCell (by simp <;> omega) _).setCell (by simp <;> omega) _).setCell (by simp <;> omega) _⟩
def sI (i j : Int) : Int := if i = 0 then j else i
set_option maxRecDepth 20000 in
set_option maxHeartbeats 1000000 in
theorem leastE_ (i j : Int) (s : Bool) (p : Option Addr) (l c : Nat) (q : Option Addr) (k d : Nat) (s2 : Bool) (p2 : Option Addr) (l2 c2 : Nat) (q2 : Option Addr) (k2 d2 : Nat) (w : World) : Calls Tryz.prog 23 #[.agg #[.bool true, .int .i64 i, .bool s, .slice p l c, .slice q k d, .int .i64 j, .bool s2, .slice p2 l2 c2, .slice q2 k2 d2]] w fun e w' => e = .returned (.agg #[.int .u64 9218868437227405312, .int .u64 18442240474082181120]) ∧ Kp w w' := by
  go_enter Tryz.func23, Tryz.ntmps23
  go_wp2_with (first | (go_at_call 39; refine (Fq.rempty_ _).mono ?_; rintro e w' ⟨rfl, rfl⟩))
  exact bodyPost_ret (v := .agg #[.int .u64 9218868437227405312, .int .u64 18442240474082181120]) (by simp [results, Tryz.results23, go_sem]) rfl ⟨rfl, (by repeat (with_reducible (first | assumption | exact Kp.refl _ | apply Kp.drew | apply Kp.alloc | apply Kp.drewN | (refine Kp.setCell ?_ (by first | omega | (simp <;> omega)) _) | (refine Kp.trans ?_ (by assumption)))))⟩
set_option maxRecDepth 20000 in
set_option maxHeartbeats 1000000 in
theorem leastNN_ (i : Int) (t1 : (i == 0) = false) (j : Int) (t2 : (j == 0) = false) (s : Bool) (p : Option Addr) (l c : Nat) (q : Option Addr) (k d : Nat) (s2 : Bool) (p2 : Option Addr) (l2 c2 : Nat) (q2 : Option Addr) (k2 d2 : Nat) (w : World) : Calls Tryz.prog 23 #[.agg #[.bool false, .int .i64 i, .bool s, .slice p l c, .slice q k d, .int .i64 j, .bool s2, .slice p2 l2 c2, .slice q2 k2 d2]] w fun e w' => e = .returned (.agg #[.int .u64 18442240474082181120, .int .u64 9218868437227405312]) ∧ Kp w w' := by
  go_enter Tryz.func23, Tryz.ntmps23
  go_wp2_with (first | (go_at_call 40; refine (Fq.rentire_ _).mono ?_; rintro e w' ⟨rfl, rfl⟩))
  exact bodyPost_ret (v := .agg #[.int .u64 18442240474082181120, .int .u64 9218868437227405312]) (by simp [results, Tryz.results23, go_sem]) rfl ⟨rfl, (by repeat (with_reducible (first | assumption | exact Kp.refl _ | apply Kp.drew | apply Kp.alloc | apply Kp.drewN | (refine Kp.setCell ?_ (by first | omega | (simp <;> omega)) _) | (refine Kp.trans ?_ (by assumption)))))⟩
set_option maxRecDepth 20000 in
set_option maxHeartbeats 1000000 in
theorem leastFN_ (ZA : Int) (j : Int) (t2 : (j == 0) = false) (s : Bool) (p : Option Addr) (l c : Nat) (q : Option Addr) (k d : Nat) (s2 : Bool) (p2 : Option Addr) (l2 c2 : Nat) (q2 : Option Addr) (k2 d2 : Nat) (w : World) (hb1 : ∀ W : World, Kp w W → Calls Tryz.prog 41 #[.int .i64 (-1), .agg #[.bool s, .slice p l c, .slice q k d]] W fun e w' => e = .returned (.int .u64 ZA) ∧ Kp W w') : Calls Tryz.prog 23 #[.agg #[.bool false, .int .i64 0, .bool s, .slice p l c, .slice q k d, .int .i64 j, .bool s2, .slice p2 l2 c2, .slice q2 k2 d2]] w fun e w' => e = .returned (.agg #[.int .u64 ZA, .int .u64 9218868437227405312]) ∧ Kp w w' := by
  go_enter Tryz.func23, Tryz.ntmps23
  go_wp2_with (first | (go_at_call 40; refine (Fq.rentire_ _).mono ?_; rintro e w' ⟨rfl, rfl⟩) | (go_at_call_of 41 (Value.slice p l c); refine (hb1 _ ?q0).mono ?_; (case q0 => exact ((((Kp.refl w).alloc _).alloc _).alloc _).alloc _); rintro e wa ⟨rfl, ga⟩; have ka : Kp w wa := Kp.trans (((((Kp.refl w).alloc _).alloc _).alloc _).alloc _) ga; have x0 := kkeep ga (b := w.heap.size) (o := 0) (v := .bool false) (by simp [go_sem]); have xz0 : wa.frozen? ⟨w.heap.size, 0, none⟩ = false := (kfro ga (by simp <;> omega)).trans (by simp [go_sem]); have x1 := kkeep ga (b := w.heap.size) (o := 1) (v := .int .i64 0) (by simp [go_sem]); have xz1 : wa.frozen? ⟨w.heap.size, 1, none⟩ = false := (kfro ga (by simp <;> omega)).trans (by simp [go_sem]); have x2 := kkeep ga (b := w.heap.size) (o := 2) (v := .bool s) (by simp [go_sem]); have xz2 : wa.frozen? ⟨w.heap.size, 2, none⟩ = false := (kfro ga (by simp <;> omega)).trans (by simp [go_sem]); have x3 := kkeep ga (b := w.heap.size) (o := 3) (v := .slice p l c) (by simp [go_sem]); have xz3 : wa.frozen? ⟨w.heap.size, 3, none⟩ = false := (kfro ga (by simp <;> omega)).trans (by simp [go_sem]); have x4 := kkeep ga (b := w.heap.size) (o := 4) (v := .slice q k d) (by simp [go_sem]); have xz4 : wa.frozen? ⟨w.heap.size, 4, none⟩ = false := (kfro ga (by simp <;> omega)).trans (by simp [go_sem]); have x5 := kkeep ga (b := w.heap.size) (o := 5) (v := .int .i64 j) (by simp [go_sem]); have xz5 : wa.frozen? ⟨w.heap.size, 5, none⟩ = false := (kfro ga (by simp <;> omega)).trans (by simp [go_sem]); have x6 := kkeep ga (b := w.heap.size) (o := 6) (v := .bool s2) (by simp [go_sem]); have xz6 : wa.frozen? ⟨w.heap.size, 6, none⟩ = false := (kfro ga (by simp <;> omega)).trans (by simp [go_sem]); have x7 := kkeep ga (b := w.heap.size) (o := 7) (v := .slice p2 l2 c2) (by simp [go_sem]); have xz7 : wa.frozen? ⟨w.heap.size, 7, none⟩ = false := (kfro ga (by simp <;> omega)).trans (by simp [go_sem]); have x8 := kkeep ga (b := w.heap.size) (o := 8) (v := .slice q2 k2 d2) (by simp [go_sem]); have xz8 : wa.frozen? ⟨w.heap.size, 8, none⟩ = false := (kfro ga (by simp <;> omega)).trans (by simp [go_sem]); have v0 := kkeep ga (b := w.heap.size + 3) (o := 0) (v := .int .u64 18442240474082181120) (by simp [go_sem]); have vz0 : wa.frozen? ⟨w.heap.size + 3, 0, none⟩ = false := (kfro ga (by simp <;> omega)).trans (by simp [go_sem]); have v1 := kkeep ga (b := w.heap.size + 3) (o := 1) (v := .int .u64 9218868437227405312) (by simp [go_sem]); have vz1 : wa.frozen? ⟨w.heap.size + 3, 1, none⟩ = false := (kfro ga (by simp <;> omega)).trans (by simp [go_sem]); have r0 := kkeep ga (b := w.heap.size + 1) (o := 0) (v := .int .u64 0) (by simp [go_sem]); have rz0 : wa.frozen? ⟨w.heap.size + 1, 0, none⟩ = false := (kfro ga (by simp <;> omega)).trans (by simp [go_sem]); have r1 := kkeep ga (b := w.heap.size + 1) (o := 1) (v := .int .u64 0) (by simp [go_sem]); have rz1 : wa.frozen? ⟨w.heap.size + 1, 1, none⟩ = false := (kfro ga (by simp <;> omega)).trans (by simp [go_sem])))
  exact bodyPost_ret (v := .agg #[.int .u64 ZA, .int .u64 9218868437227405312]) (by simp [results, Tryz.results23, go_sem, r0, r1]) rfl ⟨rfl, (by repeat (with_reducible (first | assumption | exact Kp.refl _ | apply Kp.drew | apply Kp.alloc | apply Kp.drewN | (refine Kp.setCell ?_ (by first | omega | (simp <;> omega)) _) | (refine Kp.trans ?_ (by assumption)))))⟩
set_option maxRecDepth 20000 in
set_option maxHeartbeats 1000000 in
theorem leastNF_ (i : Int) (t1 : (i == 0) = false) (ZB : Int) (s : Bool) (p : Option Addr) (l c : Nat) (q : Option Addr) (k d : Nat) (s2 : Bool) (p2 : Option Addr) (l2 c2 : Nat) (q2 : Option Addr) (k2 d2 : Nat) (w : World) (hb2 : ∀ W : World, Kp w W → Calls Tryz.prog 41 #[.int .i64 1, .agg #[.bool s2, .slice p2 l2 c2, .slice q2 k2 d2]] W fun e w' => e = .returned (.int .u64 ZB) ∧ Kp W w') : Calls Tryz.prog 23 #[.agg #[.bool false, .int .i64 i, .bool s, .slice p l c, .slice q k d, .int .i64 0, .bool s2, .slice p2 l2 c2, .slice q2 k2 d2]] w fun e w' => e = .returned (.agg #[.int .u64 18442240474082181120, .int .u64 ZB]) ∧ Kp w w' := by
  go_enter Tryz.func23, Tryz.ntmps23
  go_wp2_with (first | (go_at_call 40; refine (Fq.rentire_ _).mono ?_; rintro e w' ⟨rfl, rfl⟩) | (go_at_call_of 41 (Value.slice p2 l2 c2); refine (hb2 _ ?q0).mono ?_; (case q0 => exact ((((Kp.refl w).alloc _).alloc _).alloc _).alloc _); rintro e wb ⟨rfl, gb⟩; have kb : Kp w wb := Kp.trans (((((Kp.refl w).alloc _).alloc _).alloc _).alloc _) gb; have u0 := kkeep gb (b := w.heap.size + 3) (o := 0) (v := .int .u64 18442240474082181120) (by simp [go_sem]); have uz0 : wb.frozen? ⟨w.heap.size + 3, 0, none⟩ = false := (kfro gb (by simp <;> omega)).trans (by simp [go_sem]); have u1 := kkeep gb (b := w.heap.size + 3) (o := 1) (v := .int .u64 9218868437227405312) (by simp [go_sem]); have uz1 : wb.frozen? ⟨w.heap.size + 3, 1, none⟩ = false := (kfro gb (by simp <;> omega)).trans (by simp [go_sem]); have y0 := kkeep gb (b := w.heap.size + 1) (o := 0) (v := .int .u64 0) (by simp [go_sem]); have yz0 : wb.frozen? ⟨w.heap.size + 1, 0, none⟩ = false := (kfro gb (by simp <;> omega)).trans (by simp [go_sem]); have y1 := kkeep gb (b := w.heap.size + 1) (o := 1) (v := .int .u64 0) (by simp [go_sem]); have yz1 : wb.frozen? ⟨w.heap.size + 1, 1, none⟩ = false := (kfro gb (by simp <;> omega)).trans (by simp [go_sem])))
  exact bodyPost_ret (v := .agg #[.int .u64 18442240474082181120, .int .u64 ZB]) (by simp [results, Tryz.results23, go_sem, y0, y1]) rfl ⟨rfl, (by repeat (with_reducible (first | assumption | exact Kp.refl _ | apply Kp.drew | apply Kp.alloc | apply Kp.drewN | (refine Kp.setCell ?_ (by first | omega | (simp <;> omega)) _) | (refine Kp.trans ?_ (by assumption)))))⟩
set_option maxRecDepth 20000 in
set_option maxHeartbeats 1000000 in
theorem leastFF_ (ZA : Int) (ZB : Int) (s : Bool) (p : Option Addr) (l c : Nat) (q : Option Addr) (k d : Nat) (s2 : Bool) (p2 : Option Addr) (l2 c2 : Nat) (q2 : Option Addr) (k2 d2 : Nat) (w : World) (hb1 : ∀ W : World, Kp w W → Calls Tryz.prog 41 #[.int .i64 (-1), .agg #[.bool s, .slice p l c, .slice q k d]] W fun e w' => e = .returned (.int .u64 ZA) ∧ Kp W w') (hb2 : ∀ W : World, Kp w W → Calls Tryz.prog 41 #[.int .i64 1, .agg #[.bool s2, .slice p2 l2 c2, .slice q2 k2 d2]] W fun e w' => e = .returned (.int .u64 ZB) ∧ Kp W w') : Calls Tryz.prog 23 #[.agg #[.bool false, .int .i64 0, .bool s, .slice p l c, .slice q k d, .int .i64 0, .bool s2, .slice p2 l2 c2, .slice q2 k2 d2]] w fun e w' => e = .returned (.agg #[.int .u64 ZA, .int .u64 ZB]) ∧ Kp w w' := by
  go_enter Tryz.func23, Tryz.ntmps23
  go_wp2_with (first | (go_at_call 40; refine (Fq.rentire_ _).mono ?_; rintro e w' ⟨rfl, rfl⟩) | (go_at_call_of 41 (Value.slice p l c); refine (hb1 _ ?q0).mono ?_; (case q0 => exact ((((Kp.refl w).alloc _).alloc _).alloc _).alloc _); rintro e wa ⟨rfl, ga⟩; have ka : Kp w wa := Kp.trans (((((Kp.refl w).alloc _).alloc _).alloc _).alloc _) ga; have x0 := kkeep ga (b := w.heap.size) (o := 0) (v := .bool false) (by simp [go_sem]); have xz0 : wa.frozen? ⟨w.heap.size, 0, none⟩ = false := (kfro ga (by simp <;> omega)).trans (by simp [go_sem]); have x1 := kkeep ga (b := w.heap.size) (o := 1) (v := .int .i64 0) (by simp [go_sem]); have xz1 : wa.frozen? ⟨w.heap.size, 1, none⟩ = false := (kfro ga (by simp <;> omega)).trans (by simp [go_sem]); have x2 := kkeep ga (b := w.heap.size) (o := 2) (v := .bool s) (by simp [go_sem]); have xz2 : wa.frozen? ⟨w.heap.size, 2, none⟩ = false := (kfro ga (by simp <;> omega)).trans (by simp [go_sem]); have x3 := kkeep ga (b := w.heap.size) (o := 3) (v := .slice p l c) (by simp [go_sem]); have xz3 : wa.frozen? ⟨w.heap.size, 3, none⟩ = false := (kfro ga (by simp <;> omega)).trans (by simp [go_sem]); have x4 := kkeep ga (b := w.heap.size) (o := 4) (v := .slice q k d) (by simp [go_sem]); have xz4 : wa.frozen? ⟨w.heap.size, 4, none⟩ = false := (kfro ga (by simp <;> omega)).trans (by simp [go_sem]); have x5 := kkeep ga (b := w.heap.size) (o := 5) (v := .int .i64 0) (by simp [go_sem]); have xz5 : wa.frozen? ⟨w.heap.size, 5, none⟩ = false := (kfro ga (by simp <;> omega)).trans (by simp [go_sem]); have x6 := kkeep ga (b := w.heap.size) (o := 6) (v := .bool s2) (by simp [go_sem]); have xz6 : wa.frozen? ⟨w.heap.size, 6, none⟩ = false := (kfro ga (by simp <;> omega)).trans (by simp [go_sem]); have x7 := kkeep ga (b := w.heap.size) (o := 7) (v := .slice p2 l2 c2) (by simp [go_sem]); have xz7 : wa.frozen? ⟨w.heap.size, 7, none⟩ = false := (kfro ga (by simp <;> omega)).trans (by simp [go_sem]); have x8 := kkeep ga (b := w.heap.size) (o := 8) (v := .slice q2 k2 d2) (by simp [go_sem]); have xz8 : wa.frozen? ⟨w.heap.size, 8, none⟩ = false := (kfro ga (by simp <;> omega)).trans (by simp [go_sem]); have v0 := kkeep ga (b := w.heap.size + 3) (o := 0) (v := .int .u64 18442240474082181120) (by simp [go_sem]); have vz0 : wa.frozen? ⟨w.heap.size + 3, 0, none⟩ = false := (kfro ga (by simp <;> omega)).trans (by simp [go_sem]); have v1 := kkeep ga (b := w.heap.size + 3) (o := 1) (v := .int .u64 9218868437227405312) (by simp [go_sem]); have vz1 : wa.frozen? ⟨w.heap.size + 3, 1, none⟩ = false := (kfro ga (by simp <;> omega)).trans (by simp [go_sem]); have r0 := kkeep ga (b := w.heap.size + 1) (o := 0) (v := .int .u64 0) (by simp [go_sem]); have rz0 : wa.frozen? ⟨w.heap.size + 1, 0, none⟩ = false := (kfro ga (by simp <;> omega)).trans (by simp [go_sem]); have r1 := kkeep ga (b := w.heap.size + 1) (o := 1) (v := .int .u64 0) (by simp [go_sem]); have rz1 : wa.frozen? ⟨w.heap.size + 1, 1, none⟩ = false := (kfro ga (by simp <;> omega)).trans (by simp [go_sem])) | (go_at_call_of 41 (Value.slice p2 l2 c2); refine (hb2 _ ?q0).mono ?_; (case q0 => exact ka.setCell (by simp <;> omega) _); rintro e wb ⟨rfl, gb⟩; have kb : Kp w wb := Kp.trans (ka.setCell (by simp <;> omega) _) gb; have u0 := kkeep gb (b := w.heap.size + 3) (o := 0) (v := .int .u64 ZA) (by simp [go_sem, v0]); have u1 := kkeep gb (b := w.heap.size + 3) (o := 1) (v := .int .u64 9218868437227405312) (by simp [go_sem, v1]); have uz0 : wb.frozen? ⟨w.heap.size + 3, 0, none⟩ = false := (kfro gb (by have := cell_lt v0; simpa using this)).trans (by simp [go_sem, vz0]); have uz1 : wb.frozen? ⟨w.heap.size + 3, 1, none⟩ = false := (kfro gb (by have := cell_lt v0; simpa using this)).trans (by simp [go_sem, vz1]); have y0 := kkeep gb (b := w.heap.size + 1) (o := 0) (v := .int .u64 0) (by simp [go_sem, r0]); have y1 := kkeep gb (b := w.heap.size + 1) (o := 1) (v := .int .u64 0) (by simp [go_sem, r1]); have yz0 : wb.frozen? ⟨w.heap.size + 1, 0, none⟩ = false := (kfro gb (by have := cell_lt r0; simpa using this)).trans (by simp [go_sem, rz0]); have yz1 : wb.frozen? ⟨w.heap.size + 1, 1, none⟩ = false := (kfro gb (by have := cell_lt r0; simpa using this)).trans (by simp [go_sem, rz1])))
  exact bodyPost_ret (v := .agg #[.int .u64 ZA, .int .u64 ZB]) (by simp [results, Tryz.results23, go_sem, y0, y1]) rfl ⟨rfl, (by repeat (with_reducible (first | assumption | exact Kp.refl _ | apply Kp.drew | apply Kp.alloc | apply Kp.drewN | (refine Kp.setCell ?_ (by first | omega | (simp <;> omega)) _) | (refine Kp.trans ?_ (by assumption)))))⟩

def SV0 (N : Bool) (v : Value) : Prop := ∃ (i j : Int) (s : Bool) (p : Option Addr) (l c : Nat) (q : Option Addr) (k d : Nat) (s2 : Bool) (p2 : Option Addr) (l2 c2 : Nat) (q2 : Option Addr) (k2 d2 : Nat), v = .agg #[.bool N, .int .i64 i, .bool s, .slice p l c, .slice q k d, .int .i64 j, .bool s2, .slice p2 l2 c2, .slice q2 k2 d2]
def SV1 (n : Bool) (m : Nat) (n' : Bool) (m' : Nat) (W : World) (v : Value) : Prop := ∃ (s : Bool) (p : Option Addr) (l c : Nat) (q : Option Addr) (k d : Nat) (s2 : Bool) (p2 : Option Addr) (l2 c2 : Nat) (q2 : Option Addr) (k2 d2 : Nat), v = .agg #[.bool false, .int .i64 (infS n m), .bool s, .slice p l c, .slice q k d, .int .i64 (infS n' m'), .bool s2, .slice p2 l2 c2, .slice q2 k2 d2] ∧ RP 0 W s p l c q k d (fN n m) (fM m) ∧ RP 0 W s2 p2 l2 c2 q2 k2 d2 (fN n' m') (fM m')
theorem SV1.sv0 {n : Bool} {m : Nat} {n' : Bool} {m' : Nat} {W : World} {v : Value} (h : SV1 n m n' m' W v) : SV0 false v := by
  obtain ⟨s, p, l, c, q, k, d, s2, p2, l2, c2, q2, k2, d2, e, -, -⟩ := h
  exact ⟨_, _, s, p, l, c, q, k, d, s2, p2, l2, c2, q2, k2, d2, e⟩
theorem SV1.kp {n : Bool} {m : Nat} {n' : Bool} {m' : Nat} {W W' : World} {v : Value} (g : Kp W W') (h : SV1 n m n' m' W v) : SV1 n m n' m' W' v := by
  obtain ⟨s, p, l, c, q, k, d, s2, p2, l2, c2, q2, k2, d2, e, h1, h2⟩ := h
  exact ⟨s, p, l, c, q, k, d, s2, p2, l2, c2, q2, k2, d2, e, h1.kp g, h2.kp g⟩
theorem pla_ne (x : Nat) : Fq.pla x ≠ 9223372036854775808 := by unfold Fq.pla; split <;> omega
theorem rlo_ne (a b : Nat) : Fq.rlo a b ≠ 9223372036854775808 := by
  unfold Fq.rlo
  split
  · exact pla_ne a
  · decide
theorem rhi_ne (a b : Nat) : Fq.rhi a b ≠ 9223372036854775808 := by
  unfold Fq.rhi
  split
  · exact pla_ne b
  · decide
theorem ofEmpty_ (a b : Nat) (ha : a < 18446744073709551616) (hb : b < 18446744073709551616) (hs : Fq.snd a b = false) (w : World) : Calls Tryz.prog 25 #[.agg #[.int .u64 ((a : Nat) : Int), .int .u64 ((b : Nat) : Int)]] w fun e w' => ∃ v, e = .returned v ∧ SV0 true v ∧ Kp w w' := by
  have hr : ∀ w : World, Calls Tryz.prog 46 #[.agg #[.int .u64 ((a : Nat) : Int), .int .u64 ((b : Nat) : Int)]] w fun e w' => e = .returned (.agg #[.int .u64 9218868437227405312, .int .u64 18442240474082181120]) ∧ Kp w w' := by
    obtain ⟨n, m, hm, rfl⟩ := Fq.exD a ha
    obtain ⟨n', m', hm', rfl⟩ := Fq.exD b hb
    intro w
    have h := Fq.rread_ n n' m m' hm hm' w
    rw [show Fq.rlo (Fq.wD n m) (Fq.wD n' m') = 9218868437227405312 from by simp [Fq.rlo, hs], show Fq.rhi (Fq.wD n m) (Fq.wD n' m') = 18442240474082181120 from by simp [Fq.rhi, hs]] at h
    exact h
  refine (ofE_ _ _ hr w).mono ?_
  rintro e w' ⟨s, p, l, c, q, k, d, s2, p2, l2, c2, q2, k2, d2, rfl, -, -, g⟩
  exact ⟨_, rfl, ⟨0, 0, s, p, l, c, q, k, d, s2, p2, l2, c2, q2, k2, d2, rfl⟩, g⟩
theorem ofSound_ (a b : Nat) (ha : a < 18446744073709551616) (hb : b < 18446744073709551616) (hs : Fq.snd a b = true) (n n' : Bool) (m m' : Nat) (hm : m ≤ 9218868437227405312) (hm' : m' ≤ 9218868437227405312) (e1 : Fq.rlo a b = Fq.wD n m) (e2 : Fq.rhi a b = Fq.wD n' m') (w : World) : Calls Tryz.prog 25 #[.agg #[.int .u64 ((a : Nat) : Int), .int .u64 ((b : Nat) : Int)]] w fun e w' => ∃ v, e = .returned v ∧ SV1 n m n' m' w' v ∧ Kp w w' := by
  have hr : ∀ w : World, Calls Tryz.prog 46 #[.agg #[.int .u64 ((a : Nat) : Int), .int .u64 ((b : Nat) : Int)]] w fun e w' => e = .returned (.agg #[.int .u64 ((Fq.wD n m : Nat) : Int), .int .u64 ((Fq.wD n' m' : Nat) : Int)]) ∧ Kp w w' := by
    rw [← e1, ← e2]
    obtain ⟨n, m, hm, rfl⟩ := Fq.exD a ha
    obtain ⟨n', m', hm', rfl⟩ := Fq.exD b hb
    exact fun w => Fq.rread_ n n' m m' hm hm' w
  have t1 : (((Fq.wD n m : Nat) : Int) == 9218868437227405312) = false := by
    have h1 : Fq.rlo a b ≠ 9218868437227405312 := by
      have h2 : a ≠ 9218868437227405312 := by intro h; rw [h] at hs; simp [Fq.snd] at hs
      simp only [Fq.rlo, hs, if_true, Fq.pla]; split <;> omega
    rw [e1] at h1
    simp; omega
  refine (ofS_ _ _ _ _ _ _ _ _ _ _ hr (bound_ n m hm (e1 ▸ rlo_ne a b)) (bound_ n' m' hm' (e2 ▸ rhi_ne a b)) t1 w).mono ?_
  rintro e w' ⟨s, p, l, c, q, k, d, s2, p2, l2, c2, q2, k2, d2, rfl, h1, h2, g⟩
  exact ⟨_, rfl, ⟨s, p, l, c, q, k, d, s2, p2, l2, c2, q2, k2, d2, rfl, h1.mono (Nat.zero_le _), h2.mono (Nat.zero_le _)⟩, g⟩
end Go.Proofs.YtinohggonicjhaaGreatDoor
