import Derived.Test.YtnjbheammpdjfaaProg
import Derived.Test.YtnjbheammpdjfaaKXA0
import Derived.Test.YtnjbheammpdjfaaKXM
import Derived.Test.YtnjbheammpdjfaaKXY
import Derived.Test.YtnjbheammpdjfaaKXQF
import Derived.Test.YtnjbheammpdjfaaKQA
import Derived.Test.YtnjbheammpdjfaaKQP
import Derived.Test.YtnjbheammpdjfaaKXQU
import Derived.Test.YtnjbheammpdjfaaKXEA
import Derived.Test.YtnjbheammpdjfaaKXEE
import Derived.Test.YtnjbheammpdjfaaKMR7Q
import Derived.Test.YtnjbheammpdjfaaKXMR
import Derived.Test.YtnjbheammpdjfaaKXM3
import Derived.Test.YtnjbheammpdjfaaKXO
import Derived.Test.YtnjbheammpdjfaaKXO3
import Derived.Test.YtnjbheammpdjfaaKXT
import Derived.Test.YtnjbheammpdjfaaKXLB
import Derived.Test.YtnjbheammpdjfaaKRX
import Derived.Test.YtnjbheammpdjfaaKXRL
import Derived.Test.YtnjbheammpdjfaaKXCO
import Derived.Test.YtnjbheammpdjfaaKLN
import Derived.Test.YtnjbheammpdjfaaKXRN
import Derived.Test.YtnjbheammpdjfaaKW4
import Derived.Test.YtnjbheammpdjfaaKBY
import Derived.Test.YtnjbheammpdjfaaKBW
import Derived.Test.YtnjbheammpdjfaaKXTZ
import Derived.Test.YtnjbheammpdjfaaKXG1
import Derived.Test.YtnjbheammpdjfaaKNSm
import Derived.Test.YtnjbheammpdjfaaKXH2Q
import Derived.Test.YtnjbheammpdjfaaKXG4
import Derived.Test.YtnjbheammpdjfaaKXS6
import Derived.Test.YtnjbheammpdjfaaKEKF
import Derived.Test.YtnjbheammpdjfaaKXET
import Derived.Test.YtnjbheammpdjfaaKRP
import Derived.WalkKit
import Derived.ProofKit
import Derived.RowKit3
import Derived.WalkSpells
import Derived.StillTactics
import Derived.Deep.QuietTactic
import Derived.BigQuiet
import Derived.Below
import Derived.Deep.OwnRows
import Derived.OwnWalk
import Derived.Laws.BitsAllLaws
import Derived.Laws.Slices
import Derived.Laws.Bits64b
import Derived.Laws.FloatArith
import Derived.Deep.RegionHeld3
namespace Go.Proofs.Ytnjbheammpdjfaa
open Go.RowKit

/-- a ratio that is rounded to Z d in direction d, with rows of its own from 'base' on -/
def QP (base : Nat) (w : World) (s : Bool) (p : Option Addr) (l c : Nat) (q : Option Addr) (k d : Nat) (Z : Int → Nat) : Prop := ∃ a b, Own w base (.slice p l c) (dig a) ∧ Own w base (.slice q k d) (dig b) ∧ b ≠ 0 ∧ blen a ≤ 4194304 ∧ blen b ≤ 4194304 ∧ ∀ dd : Int, refW 53 1074 2098 9218868437227405311 0 dd s a b = Z dd
theorem QP.kp {base : Nat} {w w' : World} {s : Bool} {p : Option Addr} {l c : Nat} {q : Option Addr} {k d : Nat} {Z : Int → Nat} (h : QP base w s p l c q k d Z) (g : Kp w w') : QP base w' s p l c q k d Z := by
  obtain ⟨a, b, h1, h2, h3⟩ := h
  exact ⟨a, b, h1.kp g, h2.kp g, h3⟩
theorem QP.mono {base base' : Nat} {w : World} {s : Bool} {p : Option Addr} {l c : Nat} {q : Option Addr} {k d : Nat} {Z : Int → Nat} (h : QP base w s p l c q k d Z) (g : base' ≤ base) : QP base' w s p l c q k d Z := by
  obtain ⟨a, b, h1, h2, h3⟩ := h
  exact ⟨a, b, h1.mono g, h2.mono g, h3⟩
theorem QP.set {base : Nat} {w : World} {s : Bool} {p : Option Addr} {l c : Nat} {q : Option Addr} {k d : Nat} {Z : Int → Nat} (h : QP base w s p l c q k d Z) {x : Addr} (hx : x.block < base) (u : Value) : QP base (w.setCell x u) s p l c q k d Z := by
  obtain ⟨a, b, h1, h2, h3⟩ := h
  exact ⟨a, b, h1.setOther hx u, h2.setOther hx u, h3⟩
theorem QP.congr {base : Nat} {w : World} {s : Bool} {p : Option Addr} {l c : Nat} {q : Option Addr} {k d : Nat} {Z Y : Int → Nat} (h : QP base w s p l c q k d Z) (e : Z = Y) : QP base w s p l c q k d Y := e ▸ h
/-- a number's ratio is rounded to the number -/
theorem RP.qp {base : Nat} {w : World} {s : Bool} {p : Option Addr} {l c : Nat} {q : Option Addr} {k d : Nat} {n : Bool} {m : Nat} (h : RP base w s p l c q k d n m) : QP base w s p l c q k d (fun dd => sumW dd (Iv n m)) := by
  obtain ⟨a, b, h1, h2, h3⟩ := h
  obtain ⟨K, hK⟩ : ∃ K : Nat, K = 1074 := ⟨_, rfl⟩
  obtain ⟨f1, f2, f3, f4, f5⟩ := h3 K hK
  refine ⟨a, b, h1, h2, f1, by omega, by omega, fun dd => ?_⟩
  refine ratio_sum dd (Iv n m) a b a b K s hK f1 ⟨f1, Iff.rfl, fun d' p' t' _ => by rw [Int.add_zero], by omega, by omega⟩ ?_ s (fun _ => rfl) ?_
  · rw [f2]
    congr 1
    unfold Iv; cases n <;> simp
  · intro hne
    rw [f3] at hne ⊢
    cases s <;> simp at hne ⊢ <;> omega

theorem qadd_ (n n' : Bool) (m m' : Nat) (s : Bool) (p : Option Addr) (l c : Nat) (q : Option Addr) (k d : Nat) (s2 : Bool) (p2 : Option Addr) (l2 c2 : Nat) (q2 : Option Addr) (k2 d2 : Nat) (B1 B2 : Nat) (w : World) (h1 : RP B1 w s p l c q k d n m) (h2 : RP B2 w s2 p2 l2 c2 q2 k2 d2 n' m') : Calls Try.prog 78 #[.agg #[.bool s, .slice p l c, .slice q k d], .agg #[.bool s2, .slice p2 l2 c2, .slice q2 k2 d2]] w fun e w' => ∃ (s3 : Bool) (p3 : Option Addr) (l3 c3 : Nat) (q3 : Option Addr) (k3 d3 : Nat), e = .returned (.agg #[.bool s3, .slice p3 l3 c3, .slice q3 k3 d3]) ∧ QP w.heap.size w' s3 p3 l3 c3 q3 k3 d3 (fun dd => sumW dd (Iv n m + Iv n' m')) ∧ Kp w w' := by
  obtain ⟨a1, a2, u1, u2, u3⟩ := h1
  obtain ⟨b1, b2, v1, v2, v3⟩ := h2
  obtain ⟨K, hK⟩ : ∃ K : Nat, K = 1074 := ⟨_, rfl⟩
  obtain ⟨P1, C1, e1, x1, y1⟩ := u1.arr
  obtain ⟨P2, C2, e2, x2, y2⟩ := u2.arr
  obtain ⟨Q1, D1, e3, x3, y3⟩ := v1.arr
  obtain ⟨Q2, D2, e4, x4, y4⟩ := v2.arr
  rw [e1, e2, e3, e4]
  refine (raddVO_ n n' m m' K hK s s2 a1 a2 b1 b2 P1 P2 Q1 Q2 C1 C2 D1 D2 w x1 y1 x2 y2 x3 y3 x4 y4 (u3 K hK) (v3 K hK)).mono ?_
  rintro e w' ⟨vn, vd, a', b', ng, rfl, o1, o2, ⟨f1, f2, f3, f4⟩, g⟩
  obtain ⟨p3, c3, rfl, -, -⟩ := o1.arr
  obtain ⟨q3, d3, rfl, -, -⟩ := o2.arr
  exact ⟨ng, p3, _, c3, q3, _, d3, rfl, ⟨a', b', o1, o2, f2, f3, f4, f1⟩, g⟩
theorem qbits_ (s : Bool) (p : Option Addr) (l c : Nat) (q : Option Addr) (k d : Nat) (Z : Int → Nat) (dd : Int) (B1 : Nat) (w : World) (h : QP B1 w s p l c q k d Z) : Calls Try.prog 69 #[.int .i64 dd, .agg #[.bool s, .slice p l c, .slice q k d]] w fun e w' => e = .returned (.int .u64 ((Z dd : Nat) : Int)) ∧ Kp w w' := by
  obtain ⟨a, b, u1, u2, u3, u4, u5, u6⟩ := h
  have h := rbits_ dd s (.slice p l c) (.slice q k d) a b w u1.ls u2.ls u3 u4 u5
  rw [u6 dd] at h
  exact h
set_option maxRecDepth 20000 in
set_option maxHeartbeats 1000000 in
theorem leastE_ (i j : Int) (s : Bool) (p : Option Addr) (l c : Nat) (q : Option Addr) (k d : Nat) (s2 : Bool) (p2 : Option Addr) (l2 c2 : Nat) (q2 : Option Addr) (k2 d2 : Nat) (w : World) : Calls Try.prog 47 #[.agg #[.bool true, .int .i64 i, .bool s, .slice p l c, .slice q k d, .int .i64 j, .bool s2, .slice p2 l2 c2, .slice q2 k2 d2]] w fun e w' => e = .returned (.agg #[.int .u64 9218868437227405312, .int .u64 18442240474082181120]) ∧ Kp w w' := by
  go_enter Try.func47, Try.ntmps47
  go_wp2_with (first | (go_at_call 50; refine (Fq.rempty_ _).mono ?_; rintro e w' ⟨rfl, rfl⟩))
  exact bodyPost_ret (v := .agg #[.int .u64 9218868437227405312, .int .u64 18442240474082181120]) (by simp [results, Try.results47, go_sem]) rfl ⟨rfl, (by repeat (with_reducible (first | assumption | exact Kp.refl _ | apply Kp.drew | apply Kp.alloc | apply Kp.drewN | (refine Kp.setCell ?_ (by first | omega | (simp <;> omega)) _) | (refine Kp.trans ?_ (by assumption)))))⟩
set_option maxRecDepth 20000 in
set_option maxHeartbeats 1000000 in
theorem leastNN_ (i : Int) (t1 : (i == 0) = false) (j : Int) (t2 : (j == 0) = false) (s : Bool) (p : Option Addr) (l c : Nat) (q : Option Addr) (k d : Nat) (s2 : Bool) (p2 : Option Addr) (l2 c2 : Nat) (q2 : Option Addr) (k2 d2 : Nat) (w : World) : Calls Try.prog 47 #[.agg #[.bool false, .int .i64 i, .bool s, .slice p l c, .slice q k d, .int .i64 j, .bool s2, .slice p2 l2 c2, .slice q2 k2 d2]] w fun e w' => e = .returned (.agg #[.int .u64 18442240474082181120, .int .u64 9218868437227405312]) ∧ Kp w w' := by
  go_enter Try.func47, Try.ntmps47
  go_wp2_with (first | (go_at_call 68; refine (Fq.rentire_ _).mono ?_; rintro e w' ⟨rfl, rfl⟩))
  exact bodyPost_ret (v := .agg #[.int .u64 18442240474082181120, .int .u64 9218868437227405312]) (by simp [results, Try.results47, go_sem]) rfl ⟨rfl, (by repeat (with_reducible (first | assumption | exact Kp.refl _ | apply Kp.drew | apply Kp.alloc | apply Kp.drewN | (refine Kp.setCell ?_ (by first | omega | (simp <;> omega)) _) | (refine Kp.trans ?_ (by assumption)))))⟩
set_option maxRecDepth 20000 in
set_option maxHeartbeats 1000000 in
theorem leastFN_ (ZA : Int) (j : Int) (t2 : (j == 0) = false) (s : Bool) (p : Option Addr) (l c : Nat) (q : Option Addr) (k d : Nat) (s2 : Bool) (p2 : Option Addr) (l2 c2 : Nat) (q2 : Option Addr) (k2 d2 : Nat) (w : World) (hb1 : ∀ W : World, Kp w W → Calls Try.prog 69 #[.int .i64 (-1), .agg #[.bool s, .slice p l c, .slice q k d]] W fun e w' => e = .returned (.int .u64 ZA) ∧ Kp W w') : Calls Try.prog 47 #[.agg #[.bool false, .int .i64 0, .bool s, .slice p l c, .slice q k d, .int .i64 j, .bool s2, .slice p2 l2 c2, .slice q2 k2 d2]] w fun e w' => e = .returned (.agg #[.int .u64 ZA, .int .u64 9218868437227405312]) ∧ Kp w w' := by
  go_enter Try.func47, Try.ntmps47
  go_wp2_with (first | (go_at_call 68; refine (Fq.rentire_ _).mono ?_; rintro e w' ⟨rfl, rfl⟩) | (go_at_call_of 69 (Value.slice p l c); refine (hb1 _ ?q0).mono ?_; (case q0 => exact ((((Kp.refl w).alloc _).alloc _).alloc _).alloc _); rintro e wa ⟨rfl, ga⟩; have ka : Kp w wa := Kp.trans (((((Kp.refl w).alloc _).alloc _).alloc _).alloc _) ga; have x0 := kkeep ga (b := w.heap.size) (o := 0) (v := .bool false) (by simp [go_sem]); have xz0 : wa.frozen? ⟨w.heap.size, 0, none⟩ = false := (kfro ga (by simp <;> omega)).trans (by simp [go_sem]); have x1 := kkeep ga (b := w.heap.size) (o := 1) (v := .int .i64 0) (by simp [go_sem]); have xz1 : wa.frozen? ⟨w.heap.size, 1, none⟩ = false := (kfro ga (by simp <;> omega)).trans (by simp [go_sem]); have x2 := kkeep ga (b := w.heap.size) (o := 2) (v := .bool s) (by simp [go_sem]); have xz2 : wa.frozen? ⟨w.heap.size, 2, none⟩ = false := (kfro ga (by simp <;> omega)).trans (by simp [go_sem]); have x3 := kkeep ga (b := w.heap.size) (o := 3) (v := .slice p l c) (by simp [go_sem]); have xz3 : wa.frozen? ⟨w.heap.size, 3, none⟩ = false := (kfro ga (by simp <;> omega)).trans (by simp [go_sem]); have x4 := kkeep ga (b := w.heap.size) (o := 4) (v := .slice q k d) (by simp [go_sem]); have xz4 : wa.frozen? ⟨w.heap.size, 4, none⟩ = false := (kfro ga (by simp <;> omega)).trans (by simp [go_sem]); have x5 := kkeep ga (b := w.heap.size) (o := 5) (v := .int .i64 j) (by simp [go_sem]); have xz5 : wa.frozen? ⟨w.heap.size, 5, none⟩ = false := (kfro ga (by simp <;> omega)).trans (by simp [go_sem]); have x6 := kkeep ga (b := w.heap.size) (o := 6) (v := .bool s2) (by simp [go_sem]); have xz6 : wa.frozen? ⟨w.heap.size, 6, none⟩ = false := (kfro ga (by simp <;> omega)).trans (by simp [go_sem]); have x7 := kkeep ga (b := w.heap.size) (o := 7) (v := .slice p2 l2 c2) (by simp [go_sem]); have xz7 : wa.frozen? ⟨w.heap.size, 7, none⟩ = false := (kfro ga (by simp <;> omega)).trans (by simp [go_sem]); have x8 := kkeep ga (b := w.heap.size) (o := 8) (v := .slice q2 k2 d2) (by simp [go_sem]); have xz8 : wa.frozen? ⟨w.heap.size, 8, none⟩ = false := (kfro ga (by simp <;> omega)).trans (by simp [go_sem]); have v0 := kkeep ga (b := w.heap.size + 3) (o := 0) (v := .int .u64 18442240474082181120) (by simp [go_sem]); have vz0 : wa.frozen? ⟨w.heap.size + 3, 0, none⟩ = false := (kfro ga (by simp <;> omega)).trans (by simp [go_sem]); have v1 := kkeep ga (b := w.heap.size + 3) (o := 1) (v := .int .u64 9218868437227405312) (by simp [go_sem]); have vz1 : wa.frozen? ⟨w.heap.size + 3, 1, none⟩ = false := (kfro ga (by simp <;> omega)).trans (by simp [go_sem]); have r0 := kkeep ga (b := w.heap.size + 1) (o := 0) (v := .int .u64 0) (by simp [go_sem]); have rz0 : wa.frozen? ⟨w.heap.size + 1, 0, none⟩ = false := (kfro ga (by simp <;> omega)).trans (by simp [go_sem]); have r1 := kkeep ga (b := w.heap.size + 1) (o := 1) (v := .int .u64 0) (by simp [go_sem]); have rz1 : wa.frozen? ⟨w.heap.size + 1, 1, none⟩ = false := (kfro ga (by simp <;> omega)).trans (by simp [go_sem])))
  exact bodyPost_ret (v := .agg #[.int .u64 ZA, .int .u64 9218868437227405312]) (by simp [results, Try.results47, go_sem, r0, r1]) rfl ⟨rfl, (by repeat (with_reducible (first | assumption | exact Kp.refl _ | apply Kp.drew | apply Kp.alloc | apply Kp.drewN | (refine Kp.setCell ?_ (by first | omega | (simp <;> omega)) _) | (refine Kp.trans ?_ (by assumption)))))⟩
set_option maxRecDepth 20000 in
set_option maxHeartbeats 1000000 in
theorem leastNF_ (i : Int) (t1 : (i == 0) = false) (ZB : Int) (s : Bool) (p : Option Addr) (l c : Nat) (q : Option Addr) (k d : Nat) (s2 : Bool) (p2 : Option Addr) (l2 c2 : Nat) (q2 : Option Addr) (k2 d2 : Nat) (w : World) (hb2 : ∀ W : World, Kp w W → Calls Try.prog 69 #[.int .i64 1, .agg #[.bool s2, .slice p2 l2 c2, .slice q2 k2 d2]] W fun e w' => e = .returned (.int .u64 ZB) ∧ Kp W w') : Calls Try.prog 47 #[.agg #[.bool false, .int .i64 i, .bool s, .slice p l c, .slice q k d, .int .i64 0, .bool s2, .slice p2 l2 c2, .slice q2 k2 d2]] w fun e w' => e = .returned (.agg #[.int .u64 18442240474082181120, .int .u64 ZB]) ∧ Kp w w' := by
  go_enter Try.func47, Try.ntmps47
  go_wp2_with (first | (go_at_call 68; refine (Fq.rentire_ _).mono ?_; rintro e w' ⟨rfl, rfl⟩) | (go_at_call_of 69 (Value.slice p2 l2 c2); refine (hb2 _ ?q0).mono ?_; (case q0 => exact ((((Kp.refl w).alloc _).alloc _).alloc _).alloc _); rintro e wb ⟨rfl, gb⟩; have kb : Kp w wb := Kp.trans (((((Kp.refl w).alloc _).alloc _).alloc _).alloc _) gb; have u0 := kkeep gb (b := w.heap.size + 3) (o := 0) (v := .int .u64 18442240474082181120) (by simp [go_sem]); have uz0 : wb.frozen? ⟨w.heap.size + 3, 0, none⟩ = false := (kfro gb (by simp <;> omega)).trans (by simp [go_sem]); have u1 := kkeep gb (b := w.heap.size + 3) (o := 1) (v := .int .u64 9218868437227405312) (by simp [go_sem]); have uz1 : wb.frozen? ⟨w.heap.size + 3, 1, none⟩ = false := (kfro gb (by simp <;> omega)).trans (by simp [go_sem]); have y0 := kkeep gb (b := w.heap.size + 1) (o := 0) (v := .int .u64 0) (by simp [go_sem]); have yz0 : wb.frozen? ⟨w.heap.size + 1, 0, none⟩ = false := (kfro gb (by simp <;> omega)).trans (by simp [go_sem]); have y1 := kkeep gb (b := w.heap.size + 1) (o := 1) (v := .int .u64 0) (by simp [go_sem]); have yz1 : wb.frozen? ⟨w.heap.size + 1, 1, none⟩ = false := (kfro gb (by simp <;> omega)).trans (by simp [go_sem])))
  exact bodyPost_ret (v := .agg #[.int .u64 18442240474082181120, .int .u64 ZB]) (by simp [results, Try.results47, go_sem, y0, y1]) rfl ⟨rfl, (by repeat (with_reducible (first | assumption | exact Kp.refl _ | apply Kp.drew | apply Kp.alloc | apply Kp.drewN | (refine Kp.setCell ?_ (by first | omega | (simp <;> omega)) _) | (refine Kp.trans ?_ (by assumption)))))⟩
set_option maxRecDepth 20000 in
set_option maxHeartbeats 1000000 in
theorem leastFF_ (ZA : Int) (ZB : Int) (s : Bool) (p : Option Addr) (l c : Nat) (q : Option Addr) (k d : Nat) (s2 : Bool) (p2 : Option Addr) (l2 c2 : Nat) (q2 : Option Addr) (k2 d2 : Nat) (w : World) (hb1 : ∀ W : World, Kp w W → Calls Try.prog 69 #[.int .i64 (-1), .agg #[.bool s, .slice p l c, .slice q k d]] W fun e w' => e = .returned (.int .u64 ZA) ∧ Kp W w') (hb2 : ∀ W : World, Kp w W → Calls Try.prog 69 #[.int .i64 1, .agg #[.bool s2, .slice p2 l2 c2, .slice q2 k2 d2]] W fun e w' => e = .returned (.int .u64 ZB) ∧ Kp W w') : Calls Try.prog 47 #[.agg #[.bool false, .int .i64 0, .bool s, .slice p l c, .slice q k d, .int .i64 0, .bool s2, .slice p2 l2 c2, .slice q2 k2 d2]] w fun e w' => e = .returned (.agg #[.int .u64 ZA, .int .u64 ZB]) ∧ Kp w w' := by
  go_enter Try.func47, Try.ntmps47
  go_wp2_with (first | (go_at_call 68; refine (Fq.rentire_ _).mono ?_; rintro e w' ⟨rfl, rfl⟩) | (go_at_call_of 69 (Value.slice p l c); refine (hb1 _ ?q0).mono ?_; (case q0 => exact ((((Kp.refl w).alloc _).alloc _).alloc _).alloc _); rintro e wa ⟨rfl, ga⟩; have ka : Kp w wa := Kp.trans (((((Kp.refl w).alloc _).alloc _).alloc _).alloc _) ga; have x0 := kkeep ga (b := w.heap.size) (o := 0) (v := .bool false) (by simp [go_sem]); have xz0 : wa.frozen? ⟨w.heap.size, 0, none⟩ = false := (kfro ga (by simp <;> omega)).trans (by simp [go_sem]); have x1 := kkeep ga (b := w.heap.size) (o := 1) (v := .int .i64 0) (by simp [go_sem]); have xz1 : wa.frozen? ⟨w.heap.size, 1, none⟩ = false := (kfro ga (by simp <;> omega)).trans (by simp [go_sem]); have x2 := kkeep ga (b := w.heap.size) (o := 2) (v := .bool s) (by simp [go_sem]); have xz2 : wa.frozen? ⟨w.heap.size, 2, none⟩ = false := (kfro ga (by simp <;> omega)).trans (by simp [go_sem]); have x3 := kkeep ga (b := w.heap.size) (o := 3) (v := .slice p l c) (by simp [go_sem]); have xz3 : wa.frozen? ⟨w.heap.size, 3, none⟩ = false := (kfro ga (by simp <;> omega)).trans (by simp [go_sem]); have x4 := kkeep ga (b := w.heap.size) (o := 4) (v := .slice q k d) (by simp [go_sem]); have xz4 : wa.frozen? ⟨w.heap.size, 4, none⟩ = false := (kfro ga (by simp <;> omega)).trans (by simp [go_sem]); have x5 := kkeep ga (b := w.heap.size) (o := 5) (v := .int .i64 0) (by simp [go_sem]); have xz5 : wa.frozen? ⟨w.heap.size, 5, none⟩ = false := (kfro ga (by simp <;> omega)).trans (by simp [go_sem]); have x6 := kkeep ga (b := w.heap.size) (o := 6) (v := .bool s2) (by simp [go_sem]); have xz6 : wa.frozen? ⟨w.heap.size, 6, none⟩ = false := (kfro ga (by simp <;> omega)).trans (by simp [go_sem]); have x7 := kkeep ga (b := w.heap.size) (o := 7) (v := .slice p2 l2 c2) (by simp [go_sem]); have xz7 : wa.frozen? ⟨w.heap.size, 7, none⟩ = false := (kfro ga (by simp <;> omega)).trans (by simp [go_sem]); have x8 := kkeep ga (b := w.heap.size) (o := 8) (v := .slice q2 k2 d2) (by simp [go_sem]); have xz8 : wa.frozen? ⟨w.heap.size, 8, none⟩ = false := (kfro ga (by simp <;> omega)).trans (by simp [go_sem]); have v0 := kkeep ga (b := w.heap.size + 3) (o := 0) (v := .int .u64 18442240474082181120) (by simp [go_sem]); have vz0 : wa.frozen? ⟨w.heap.size + 3, 0, none⟩ = false := (kfro ga (by simp <;> omega)).trans (by simp [go_sem]); have v1 := kkeep ga (b := w.heap.size + 3) (o := 1) (v := .int .u64 9218868437227405312) (by simp [go_sem]); have vz1 : wa.frozen? ⟨w.heap.size + 3, 1, none⟩ = false := (kfro ga (by simp <;> omega)).trans (by simp [go_sem]); have r0 := kkeep ga (b := w.heap.size + 1) (o := 0) (v := .int .u64 0) (by simp [go_sem]); have rz0 : wa.frozen? ⟨w.heap.size + 1, 0, none⟩ = false := (kfro ga (by simp <;> omega)).trans (by simp [go_sem]); have r1 := kkeep ga (b := w.heap.size + 1) (o := 1) (v := .int .u64 0) (by simp [go_sem]); have rz1 : wa.frozen? ⟨w.heap.size + 1, 1, none⟩ = false := (kfro ga (by simp <;> omega)).trans (by simp [go_sem])) | (go_at_call_of 69 (Value.slice p2 l2 c2); refine (hb2 _ ?q0).mono ?_; (case q0 => exact ka.setCell (by simp <;> omega) _); rintro e wb ⟨rfl, gb⟩; have kb : Kp w wb := Kp.trans (ka.setCell (by simp <;> omega) _) gb; have u0 := kkeep gb (b := w.heap.size + 3) (o := 0) (v := .int .u64 ZA) (by simp [go_sem, v0]); have u1 := kkeep gb (b := w.heap.size + 3) (o := 1) (v := .int .u64 9218868437227405312) (by simp [go_sem, v1]); have uz0 : wb.frozen? ⟨w.heap.size + 3, 0, none⟩ = false := (kfro gb (by have := cell_lt v0; simpa using this)).trans (by simp [go_sem, vz0]); have uz1 : wb.frozen? ⟨w.heap.size + 3, 1, none⟩ = false := (kfro gb (by have := cell_lt v0; simpa using this)).trans (by simp [go_sem, vz1]); have y0 := kkeep gb (b := w.heap.size + 1) (o := 0) (v := .int .u64 0) (by simp [go_sem, r0]); have y1 := kkeep gb (b := w.heap.size + 1) (o := 1) (v := .int .u64 0) (by simp [go_sem, r1]); have yz0 : wb.frozen? ⟨w.heap.size + 1, 0, none⟩ = false := (kfro gb (by have := cell_lt r0; simpa using this)).trans (by simp [go_sem, rz0]); have yz1 : wb.frozen? ⟨w.heap.size + 1, 1, none⟩ = false := (kfro gb (by have := cell_lt r0; simpa using this)).trans (by simp [go_sem, rz1])))
  exact bodyPost_ret (v := .agg #[.int .u64 ZA, .int .u64 ZB]) (by simp [results, Try.results47, go_sem, y0, y1]) rfl ⟨rfl, (by repeat (with_reducible (first | assumption | exact Kp.refl _ | apply Kp.drew | apply Kp.alloc | apply Kp.drewN | (refine Kp.setCell ?_ (by first | omega | (simp <;> omega)) _) | (refine Kp.trans ?_ (by assumption)))))⟩
end Go.Proofs.Ytnjbheammpdjfaa
