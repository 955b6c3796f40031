import Derived.Test.YtjkbapnndoldgaaKH8Q
import Derived.Test.YtjkbapnndoldgaaKNHa
import Derived.Test.YtjkbapnndoldgaaKSHi
namespace Go.Proofs.Ytjkbapnndoldgaa
open Go.RowKit
set_option linter.unusedVariables false
set_option maxRecDepth 20000 in
set_option maxHeartbeats 2000000 in
theorem rhull9c_ (X Y C D LO HI : Int) (P1 P2 P3 : World → Value → Prop) (w : World) (hk1 : ∀ (W W' : World) (v : Value), Kp W W' → P1 W v → P1 W' v) (hO1 : ∀ W : World, Kp w W → Calls Try.prog 54 #[.agg #[.int .u64 X, .int .u64 Y]] W fun e w' => ∃ v, e = .returned v ∧ P1 w' v ∧ Kp W w') (hO2 : ∀ W : World, Kp w W → Calls Try.prog 54 #[.agg #[.int .u64 C, .int .u64 D]] W fun e w' => ∃ v, e = .returned v ∧ P2 w' v ∧ Kp W w')  (hPl : ∀ (W : World) (u v : Value), Kp w W → P1 W u → P2 W v → Calls Try.prog 53 #[u, v] W fun e w' => ∃ v', e = .returned v' ∧ P3 w' v' ∧ Kp W w') (hLe : ∀ (W : World) (v : Value), Kp w W → P3 W v → Calls Try.prog 52 #[v] W fun e w' => e = .returned (.agg #[.int .u64 LO, .int .u64 HI]) ∧ Kp W w') : Calls Try.prog 29 #[.agg #[.int .u64 X, .int .u64 Y], .agg #[.int .u64 C, .int .u64 D]] w fun e w' => e = .returned (.agg #[.int .u64 LO, .int .u64 HI]) ∧ Kp w w' := by
  go_enter Try.func29, Try.ntmps29
  go_wp2
  generalize hW : (((w.alloc (.cells #[.int .u64 X, .int .u64 Y] 36)).alloc (.cells #[.int .u64 C, .int .u64 D] 36)).alloc (.cells #[.int .u64 0, .int .u64 0] 36)) = W
  have kw : Kp w W := by rw [← hW]; exact (((Kp.refl w).alloc _).alloc _).alloc _
  have xw0 : W.cell? ⟨w.heap.size, 0, none⟩ = some (.int .u64 X) := by rw [← hW]; simp [go_sem]
  have dw0 : W.drew.cell? ⟨w.heap.size, 0, none⟩ = some (.int .u64 X) := xw0
  have xw1 : W.cell? ⟨w.heap.size, 1, none⟩ = some (.int .u64 Y) := by rw [← hW]; simp [go_sem]
  have dw1 : W.drew.cell? ⟨w.heap.size, 1, none⟩ = some (.int .u64 Y) := xw1
  have xw2 : W.cell? ⟨w.heap.size + 1, 0, none⟩ = some (.int .u64 C) := by rw [← hW]; simp [go_sem]
  have dw2 : W.drew.cell? ⟨w.heap.size + 1, 0, none⟩ = some (.int .u64 C) := xw2
  have xw3 : W.cell? ⟨w.heap.size + 1, 1, none⟩ = some (.int .u64 D) := by rw [← hW]; simp [go_sem]
  have dw3 : W.drew.cell? ⟨w.heap.size + 1, 1, none⟩ = some (.int .u64 D) := xw3
  have r0 : W.cell? ⟨w.heap.size + 2, 0, none⟩ = some (.int .u64 0) := by rw [← hW]; simp [go_sem]
  have rz0 : W.frozen? ⟨w.heap.size + 2, 0, none⟩ = false := by rw [← hW]; simp [go_sem]
  have r1 : W.cell? ⟨w.heap.size + 2, 1, none⟩ = some (.int .u64 0) := by rw [← hW]; simp [go_sem]
  have rz1 : W.frozen? ⟨w.heap.size + 2, 1, none⟩ = false := by rw [← hW]; simp [go_sem]
  have hn1 : w.heap.size + 2 ≠ w.heap.size := by omega
  have hn2 : w.heap.size + 2 ≠ w.heap.size + 1 := by omega
  clear hW
  go_region_held3 (fun w' => w'.cell? ⟨w.heap.size, 0, none⟩ = some (.int .u64 X) ∧ w'.cell? ⟨w.heap.size, 1, none⟩ = some (.int .u64 Y) ∧ w'.cell? ⟨w.heap.size + 1, 0, none⟩ = some (.int .u64 C) ∧ w'.cell? ⟨w.heap.size + 1, 1, none⟩ = some (.int .u64 D)) (first | (with_reducible exact ⟨xw0, xw1, xw2, xw3⟩) | (with_reducible exact ⟨dw0, dw1, dw2, dw3⟩) | (with_reducible exact ⟨wA0, wA1, wA2, wA3⟩) | (with_reducible exact ⟨wB0, wB1, wB2, wB3⟩) | (with_reducible exact ⟨wC0, wC1, wC2, wC3⟩) | (with_reducible exact ⟨wD0, wD1, wD2, wD3⟩) | (exact ⟨((World.cell?_setCell_far _ _ _ _ hn1).trans ((World.cell?_setCell_far _ _ _ _ hn1).trans wD0)), ((World.cell?_setCell_far _ _ _ _ hn1).trans ((World.cell?_setCell_far _ _ _ _ hn1).trans wD1)), ((World.cell?_setCell_far _ _ _ _ hn2).trans ((World.cell?_setCell_far _ _ _ _ hn2).trans wD2)), ((World.cell?_setCell_far _ _ _ _ hn2).trans ((World.cell?_setCell_far _ _ _ _ hn2).trans wD3))⟩)) (first | (go_at_call_of 54 (Value.int .u64 X); refine (hO1 _ ?q0).mono ?_; (case q0 => exact kw.drew); rintro e wA ⟨v1, rfl, hv1, gA⟩; have kA : Kp W wA := Kp.trans (Kp.drew (Kp.refl _)) gA; have wA0 := kkeep kA xw0; have wA1 := kkeep kA xw1; have wA2 := kkeep kA xw2; have wA3 := kkeep kA xw3) | (go_at_call_of 54 (Value.int .u64 C); refine (hO2 _ ?q0).mono ?_; (case q0 => exact kw.trans kA); rintro e wB ⟨v2, rfl, hv2, gB⟩; have kB : Kp W wB := Kp.trans kA gB; have hv3 := hk1 _ _ _ gB hv1; have wB0 := kkeep kB xw0; have wB1 := kkeep kB xw1; have wB2 := kkeep kB xw2; have wB3 := kkeep kB xw3) | (go_at_call 53; refine (hPl _ v1 v2 (kw.trans kB) hv3 hv2).mono ?_; rintro e wC ⟨v6, rfl, hv6, gC⟩; have kC : Kp W wC := Kp.trans kB gC; have wC0 := kkeep kC xw0; have wC1 := kkeep kC xw1; have wC2 := kkeep kC xw2; have wC3 := kkeep kC xw3) | (go_at_call 52; refine (hLe _ v6 (kw.trans kC) hv6).mono ?_; rintro e wD ⟨rfl, gD⟩; have kD : Kp W wD := Kp.trans kC gD; have wD0 := kkeep kD xw0; have wD1 := kkeep kD xw1; have wD2 := kkeep kD xw2; have wD3 := kkeep kD xw3; have R0 := kkeep kD r0; have Rz0 : wD.frozen? ⟨w.heap.size + 2, 0, none⟩ = false := (kfro kD (cell_lt r0)).trans rz0; have R1 := kkeep kD r1; have Rz1 : wD.frozen? ⟨w.heap.size + 2, 1, none⟩ = false := (kfro kD (cell_lt r1)).trans rz1))
  go_wp2
  exact bodyPost_ret (v := .agg #[.int .u64 LO, .int .u64 HI]) (by simp [results, Try.results29, go_sem, R0, R1]) rfl ⟨rfl, (((Kp.trans kw kD)).setCell (by simp <;> omega) _).setCell (by simp <;> omega) _⟩

theorem cmI_nlt (x y : Int) (h : ¬ x < y) : ¬ (cmI x y < 0) := by unfold cmI; rw [if_neg h]; split <;> omega
theorem cmI_ngt (x y : Int) (h : ¬ y < x) : ¬ (0 < cmI x y) := by unfold cmI; rw [if_neg h]; split <;> omega
theorem hullX1_ (W : World) (u v : Value) (h1 : SV0 true u) (N2 : Bool) (h2 : SV0 N2 v) : Calls Try.prog 53 #[u, v] W fun e w' => e = .returned v ∧ Kp W w' := by
  obtain ⟨i, j, s, p, l, c, q, k, d, s2, p2, l2, c2, q2, k2, d2, rfl⟩ := h1
  obtain ⟨i2, j2, s5, p5, l5, c5, q5, k5, d5, s6, p6, l6, c6, q6, k6, d6, rfl⟩ := h2
  exact hullE1_ i j i2 j2 s p l c q k d s2 p2 l2 c2 q2 k2 d2 s5 p5 l5 c5 q5 k5 d5 s6 p6 l6 c6 q6 k6 d6 N2 W
theorem hullX2_ (W : World) (u v : Value) (h1 : SV0 false u) (h2 : SV0 true v) : Calls Try.prog 53 #[u, v] W fun e w' => e = .returned u ∧ Kp W w' := by
  obtain ⟨i, j, s, p, l, c, q, k, d, s2, p2, l2, c2, q2, k2, d2, rfl⟩ := h1
  obtain ⟨i2, j2, s5, p5, l5, c5, q5, k5, d5, s6, p6, l6, c6, q6, k6, d6, rfl⟩ := h2
  exact hullE2_ i j i2 j2 s p l c q k d s2 p2 l2 c2 q2 k2 d2 s5 p5 l5 c5 q5 k5 d5 s6 p6 l6 c6 q6 k6 d6 W
theorem hullSTT_ (n1 g1 n2 g2 : Bool) (m1 r1 m2 r2 : Nat) (l1 : m1 ≤ 9218868437227405312) (l2 : r1 ≤ 9218868437227405312) (l3 : m2 ≤ 9218868437227405312) (l4 : r2 ≤ 9218868437227405312) (c1 : Fq.plz n2 m2 < Fq.plz n1 m1) (c2 : Fq.plz g1 r1 < Fq.plz g2 r2) (W : World) (u v : Value) (h1 : SV1 n1 m1 g1 r1 W u) (h2 : SV1 n2 m2 g2 r2 W v) : Calls Try.prog 53 #[u, v] W fun e w' => ∃ v', e = .returned v' ∧ SV1 n2 m2 g2 r2 w' v' ∧ Kp W w' := by
  obtain ⟨s, p, l, c, q, k, d, s2, p2, l2', c2', q2, k2, d2, rfl, u1, u2⟩ := h1
  obtain ⟨s5, p5, l5, c5, q5, k5, d5, s6, p6, l6, c6, q6, k6, d6, rfl, u3, u4⟩ := h2
  refine (hullTT_ _ _ _ _ s p l c q k d s2 p2 l2' c2' q2 k2 d2 s5 p5 l5 c5 q5 k5 d5 s6 p6 l6 c6 q6 k6 d6 W (fun W' g => lesserB_ (infS n1 m1) (infS n2 m2) _ s p l c q k d s5 p5 l5 c5 q5 k5 d5 (by rw [cmI_lt _ _ c1]; decide) W' (fun W2 y => cmpE_ 0 0 n2 n1 m2 m1 l3 l1 s5 p5 l5 c5 q5 k5 d5 s p l c q k d W2 ((u3.kp g).kp y) ((u1.kp g).kp y))) (fun W' g => greaterB_ (infS g1 r1) (infS g2 r2) _ s2 p2 l2' c2' q2 k2 d2 s6 p6 l6 c6 q6 k6 d6 (by rw [cmI_gt _ _ c2]; decide) W' (fun W2 y => cmpE_ 0 0 g2 g1 r2 r1 l4 l2 s6 p6 l6 c6 q6 k6 d6 s2 p2 l2' c2' q2 k2 d2 W2 ((u4.kp g).kp y) ((u2.kp g).kp y)))).mono ?_
  rintro e w' ⟨rfl, g⟩
  exact ⟨_, rfl, ⟨s5, p5, l5, c5, q5, k5, d5, s6, p6, l6, c6, q6, k6, d6, rfl, u3.kp g, u4.kp g⟩, g⟩
theorem hullSTS_ (n1 g1 n2 g2 : Bool) (m1 r1 m2 r2 : Nat) (l1 : m1 ≤ 9218868437227405312) (l2 : r1 ≤ 9218868437227405312) (l3 : m2 ≤ 9218868437227405312) (l4 : r2 ≤ 9218868437227405312) (c1 : Fq.plz n2 m2 < Fq.plz n1 m1) (c2 : ¬ Fq.plz g1 r1 < Fq.plz g2 r2) (W : World) (u v : Value) (h1 : SV1 n1 m1 g1 r1 W u) (h2 : SV1 n2 m2 g2 r2 W v) : Calls Try.prog 53 #[u, v] W fun e w' => ∃ v', e = .returned v' ∧ SV1 n2 m2 g1 r1 w' v' ∧ Kp W w' := by
  obtain ⟨s, p, l, c, q, k, d, s2, p2, l2', c2', q2, k2, d2, rfl, u1, u2⟩ := h1
  obtain ⟨s5, p5, l5, c5, q5, k5, d5, s6, p6, l6, c6, q6, k6, d6, rfl, u3, u4⟩ := h2
  refine (hullTS_ _ _ _ _ s p l c q k d s2 p2 l2' c2' q2 k2 d2 s5 p5 l5 c5 q5 k5 d5 s6 p6 l6 c6 q6 k6 d6 W (fun W' g => lesserB_ (infS n1 m1) (infS n2 m2) _ s p l c q k d s5 p5 l5 c5 q5 k5 d5 (by rw [cmI_lt _ _ c1]; decide) W' (fun W2 y => cmpE_ 0 0 n2 n1 m2 m1 l3 l1 s5 p5 l5 c5 q5 k5 d5 s p l c q k d W2 ((u3.kp g).kp y) ((u1.kp g).kp y))) (fun W' g => greaterA_ (infS g1 r1) (infS g2 r2) _ s2 p2 l2' c2' q2 k2 d2 s6 p6 l6 c6 q6 k6 d6 (cmI_ngt _ _ c2) W' (fun W2 y => cmpE_ 0 0 g2 g1 r2 r1 l4 l2 s6 p6 l6 c6 q6 k6 d6 s2 p2 l2' c2' q2 k2 d2 W2 ((u4.kp g).kp y) ((u2.kp g).kp y)))).mono ?_
  rintro e w' ⟨rfl, g⟩
  exact ⟨_, rfl, ⟨s5, p5, l5, c5, q5, k5, d5, s2, p2, l2', c2', q2, k2, d2, rfl, u3.kp g, u2.kp g⟩, g⟩
theorem hullSST_ (n1 g1 n2 g2 : Bool) (m1 r1 m2 r2 : Nat) (l1 : m1 ≤ 9218868437227405312) (l2 : r1 ≤ 9218868437227405312) (l3 : m2 ≤ 9218868437227405312) (l4 : r2 ≤ 9218868437227405312) (c1 : ¬ Fq.plz n2 m2 < Fq.plz n1 m1) (c2 : Fq.plz g1 r1 < Fq.plz g2 r2) (W : World) (u v : Value) (h1 : SV1 n1 m1 g1 r1 W u) (h2 : SV1 n2 m2 g2 r2 W v) : Calls Try.prog 53 #[u, v] W fun e w' => ∃ v', e = .returned v' ∧ SV1 n1 m1 g2 r2 w' v' ∧ Kp W w' := by
  obtain ⟨s, p, l, c, q, k, d, s2, p2, l2', c2', q2, k2, d2, rfl, u1, u2⟩ := h1
  obtain ⟨s5, p5, l5, c5, q5, k5, d5, s6, p6, l6, c6, q6, k6, d6, rfl, u3, u4⟩ := h2
  refine (hullST_ _ _ _ _ s p l c q k d s2 p2 l2' c2' q2 k2 d2 s5 p5 l5 c5 q5 k5 d5 s6 p6 l6 c6 q6 k6 d6 W (fun W' g => lesserA_ (infS n1 m1) (infS n2 m2) _ s p l c q k d s5 p5 l5 c5 q5 k5 d5 (cmI_nlt _ _ c1) W' (fun W2 y => cmpE_ 0 0 n2 n1 m2 m1 l3 l1 s5 p5 l5 c5 q5 k5 d5 s p l c q k d W2 ((u3.kp g).kp y) ((u1.kp g).kp y))) (fun W' g => greaterB_ (infS g1 r1) (infS g2 r2) _ s2 p2 l2' c2' q2 k2 d2 s6 p6 l6 c6 q6 k6 d6 (by rw [cmI_gt _ _ c2]; decide) W' (fun W2 y => cmpE_ 0 0 g2 g1 r2 r1 l4 l2 s6 p6 l6 c6 q6 k6 d6 s2 p2 l2' c2' q2 k2 d2 W2 ((u4.kp g).kp y) ((u2.kp g).kp y)))).mono ?_
  rintro e w' ⟨rfl, g⟩
  exact ⟨_, rfl, ⟨s, p, l, c, q, k, d, s6, p6, l6, c6, q6, k6, d6, rfl, u1.kp g, u4.kp g⟩, g⟩
theorem hullSSS_ (n1 g1 n2 g2 : Bool) (m1 r1 m2 r2 : Nat) (l1 : m1 ≤ 9218868437227405312) (l2 : r1 ≤ 9218868437227405312) (l3 : m2 ≤ 9218868437227405312) (l4 : r2 ≤ 9218868437227405312) (c1 : ¬ Fq.plz n2 m2 < Fq.plz n1 m1) (c2 : ¬ Fq.plz g1 r1 < Fq.plz g2 r2) (W : World) (u v : Value) (h1 : SV1 n1 m1 g1 r1 W u) (h2 : SV1 n2 m2 g2 r2 W v) : Calls Try.prog 53 #[u, v] W fun e w' => ∃ v', e = .returned v' ∧ SV1 n1 m1 g1 r1 w' v' ∧ Kp W w' := by
  obtain ⟨s, p, l, c, q, k, d, s2, p2, l2', c2', q2, k2, d2, rfl, u1, u2⟩ := h1
  obtain ⟨s5, p5, l5, c5, q5, k5, d5, s6, p6, l6, c6, q6, k6, d6, rfl, u3, u4⟩ := h2
  refine (hullSS_ _ _ _ _ s p l c q k d s2 p2 l2' c2' q2 k2 d2 s5 p5 l5 c5 q5 k5 d5 s6 p6 l6 c6 q6 k6 d6 W (fun W' g => lesserA_ (infS n1 m1) (infS n2 m2) _ s p l c q k d s5 p5 l5 c5 q5 k5 d5 (cmI_nlt _ _ c1) W' (fun W2 y => cmpE_ 0 0 n2 n1 m2 m1 l3 l1 s5 p5 l5 c5 q5 k5 d5 s p l c q k d W2 ((u3.kp g).kp y) ((u1.kp g).kp y))) (fun W' g => greaterA_ (infS g1 r1) (infS g2 r2) _ s2 p2 l2' c2' q2 k2 d2 s6 p6 l6 c6 q6 k6 d6 (cmI_ngt _ _ c2) W' (fun W2 y => cmpE_ 0 0 g2 g1 r2 r1 l4 l2 s6 p6 l6 c6 q6 k6 d6 s2 p2 l2' c2' q2 k2 d2 W2 ((u4.kp g).kp y) ((u2.kp g).kp y)))).mono ?_
  rintro e w' ⟨rfl, g⟩
  exact ⟨_, rfl, ⟨s, p, l, c, q, k, d, s2, p2, l2', c2', q2, k2, d2, rfl, u1.kp g, u2.kp g⟩, g⟩

theorem lv9_ (L H : Int) (d : VdZ L H) (hL : L ≠ 9218868437227405312) (W : World) (v : Value) (h : SV1 (decide (L < 0)) L.natAbs (decide (H < 0)) H.natAbs W v) : Calls Try.prog 52 #[v] W fun e w' => e = .returned (.agg #[.int .u64 (pI L), .int .u64 (pI H)]) ∧ Kp W w' := by
  have dd := d
  unfold VdZ at dd
  have g := (leastV_ (decide (L < 0)) (decide (H < 0)) L.natAbs H.natAbs (abs_pw L d.lo) (abs_pw H d.hi) (fun h => decide_eq_true (by omega)) (fun h => decide_eq_false (by omega)) W v h)
  have e1 := pla_pw L d.lo
  have e2 := pla_pw H d.hi
  rw [show Fq.pla (Fq.wD (decide (L < 0)) L.natAbs) = pw L from e1, show Fq.pla (Fq.wD (decide (H < 0)) H.natAbs) = pw H from e2] at g
  exact g
theorem of9s_ (a b : Nat) (L H : Int) (r : Rd a b L H) (hL : L ≠ 9218868437227405312) (W : World) : Calls Try.prog 54 #[.agg #[.int .u64 ((a : Nat) : Int), .int .u64 ((b : Nat) : Int)]] W fun e w' => ∃ v, e = .returned v ∧ SV1 (decide (L < 0)) L.natAbs (decide (H < 0)) H.natAbs w' v ∧ Kp W w' := by
  have hs : Fq.snd a b = true := by
    rcases hs : Fq.snd a b with _ | _
    · exfalso
      have e := r.2.2.2.1
      have : Fq.rlo a b = 9218868437227405312 := by simp [Fq.rlo, hs]
      rw [this] at e
      have i := pw_inj L 9218868437227405312 r.vd.lo (by unfold BdZ; omega)
      rw [pw_I] at i
      exact hL (i.1 e.symm)
    · rfl
  exact ofSound_ a b r.1 r.2.1 hs _ _ _ _ (abs_pw L r.vd.lo) (abs_pw H r.vd.hi) r.2.2.2.1 r.2.2.2.2 W
theorem of9e_ (a b : Nat) (L H : Int) (r : Rd a b L H) (hL : L = 9218868437227405312) (W : World) : Calls Try.prog 54 #[.agg #[.int .u64 ((a : Nat) : Int), .int .u64 ((b : Nat) : Int)]] W fun e w' => ∃ v, e = .returned v ∧ SV0 true v ∧ Kp W w' := by
  have hs : Fq.snd a b = false := by
    rcases hs : Fq.snd a b with _ | _
    · rfl
    · exfalso
      have e := r.2.2.2.1
      have h2 : a ≠ 9218868437227405312 := by intro h; rw [h] at hs; simp [Fq.snd] at hs
      have : Fq.rlo a b ≠ 9218868437227405312 := by simp only [Fq.rlo, hs, if_true, Fq.pla]; split <;> omega
      rw [e, hL, pw_I] at this
      exact this rfl
  exact ofEmpty_ a b r.1 r.2.1 hs W
set_option maxHeartbeats 2000000 in
theorem rhull9_ (a b c d : Nat) (L1 H1 L2 H2 : Int) (r1 : Rd a b L1 H1) (r2 : Rd c d L2 H2) (w : World) : Calls Try.prog 29 #[.agg #[.int .u64 ((a : Nat) : Int), .int .u64 ((b : Nat) : Int)], .agg #[.int .u64 ((c : Nat) : Int), .int .u64 ((d : Nat) : Int)]] w fun e w' => e = .returned (.agg #[.int .u64 (pI (min L1 L2)), .int .u64 (pI (max H1 H2))]) ∧ Kp w w' := by
  have d1 := r1.vd
  have d2 := r2.vd
  have D1 := d1
  have D2 := d2
  unfold VdZ at D1 D2
  have pI_I : pI 9218868437227405312 = 9218868437227405312 := by decide
  have pI_M : pI (-9218868437227405312) = 18442240474082181120 := by decide
  by_cases c1 : L1 = 9218868437227405312
  · by_cases c2 : L2 = 9218868437227405312
    · rw [show min L1 L2 = 9218868437227405312 from by omega, show max H1 H2 = -9218868437227405312 from by omega, pI_I, pI_M]
      exact rhull9c_ _ _ _ _ _ _ (fun _ v => SV0 true v) (fun _ v => SV0 true v) (fun _ v => SV0 true v) w (fun W W' v g h => h) (fun W _ => of9e_ a b L1 H1 r1 c1 W) (fun W _ => of9e_ c d L2 H2 r2 c2 W) (fun W u v _ h1 h2 => (hullX1_ W u v h1 true h2).mono (fun e w' h => ⟨v, h.1, h2, h.2⟩)) (fun W v _ h => leastN_ W v h)
    · rw [show min L1 L2 = L2 from by omega, show max H1 H2 = H2 from by omega]
      exact rhull9c_ _ _ _ _ _ _ (fun _ v => SV0 true v) (SV1 (decide (L2 < 0)) L2.natAbs (decide (H2 < 0)) H2.natAbs) (SV1 (decide (L2 < 0)) L2.natAbs (decide (H2 < 0)) H2.natAbs) w (fun W W' v g h => h) (fun W _ => of9e_ a b L1 H1 r1 c1 W) (fun W _ => of9s_ c d L2 H2 r2 c2 W) (fun W u v _ h1 h2 => (hullX1_ W u v h1 false h2.sv0).mono (fun e w' h => ⟨v, h.1, h2.kp h.2, h.2⟩)) (fun W v _ h => lv9_ L2 H2 d2 c2 W v h)
  · by_cases c2 : L2 = 9218868437227405312
    · rw [show min L1 L2 = L1 from by omega, show max H1 H2 = H1 from by omega]
      exact rhull9c_ _ _ _ _ _ _ (SV1 (decide (L1 < 0)) L1.natAbs (decide (H1 < 0)) H1.natAbs) (fun _ v => SV0 true v) (SV1 (decide (L1 < 0)) L1.natAbs (decide (H1 < 0)) H1.natAbs) w (fun W W' v g h => h.kp g) (fun W _ => of9s_ a b L1 H1 r1 c1 W) (fun W _ => of9e_ c d L2 H2 r2 c2 W) (fun W u v _ h1 h2 => (hullX2_ W u v h1.sv0 h2).mono (fun e w' h => ⟨u, h.1, h1.kp h.2, h.2⟩)) (fun W v _ h => lv9_ L1 H1 d1 c1 W v h)
    · have dh := vd_hull L1 H1 L2 H2 d1 d2
      by_cases k00 : (L2 < L1) ∧ (H1 < H2)
      · rw [show min L1 L2 = L2 from by omega, show max H1 H2 = H2 from by omega] at dh ⊢
        exact rhull9c_ _ _ _ _ _ _ (SV1 (decide (L1 < 0)) L1.natAbs (decide (H1 < 0)) H1.natAbs) (SV1 (decide (L2 < 0)) L2.natAbs (decide (H2 < 0)) H2.natAbs) (SV1 (decide (L2 < 0)) L2.natAbs (decide (H2 < 0)) H2.natAbs) w (fun W W' v g h => h.kp g) (fun W _ => of9s_ a b L1 H1 r1 c1 W) (fun W _ => of9s_ c d L2 H2 r2 c2 W) (fun W u v _ h1 h2 => hullSTT_ _ _ _ _ _ _ _ _ (abs_pw _ d1.lo) (abs_pw _ d1.hi) (abs_pw _ d2.lo) (abs_pw _ d2.hi) (by rw [plz_pw, plz_pw]; exact k00.1) (by rw [plz_pw, plz_pw]; exact k00.2) W u v h1 h2) (fun W v _ h => lv9_ L2 H2 dh (by omega) W v h)
      by_cases k01 : (L2 < L1) ∧ (¬ H1 < H2)
      · rw [show min L1 L2 = L2 from by omega, show max H1 H2 = H1 from by omega] at dh ⊢
        exact rhull9c_ _ _ _ _ _ _ (SV1 (decide (L1 < 0)) L1.natAbs (decide (H1 < 0)) H1.natAbs) (SV1 (decide (L2 < 0)) L2.natAbs (decide (H2 < 0)) H2.natAbs) (SV1 (decide (L2 < 0)) L2.natAbs (decide (H1 < 0)) H1.natAbs) w (fun W W' v g h => h.kp g) (fun W _ => of9s_ a b L1 H1 r1 c1 W) (fun W _ => of9s_ c d L2 H2 r2 c2 W) (fun W u v _ h1 h2 => hullSTS_ _ _ _ _ _ _ _ _ (abs_pw _ d1.lo) (abs_pw _ d1.hi) (abs_pw _ d2.lo) (abs_pw _ d2.hi) (by rw [plz_pw, plz_pw]; exact k01.1) (by rw [plz_pw, plz_pw]; exact k01.2) W u v h1 h2) (fun W v _ h => lv9_ L2 H1 dh (by omega) W v h)
      by_cases k10 : (¬ L2 < L1) ∧ (H1 < H2)
      · rw [show min L1 L2 = L1 from by omega, show max H1 H2 = H2 from by omega] at dh ⊢
        exact rhull9c_ _ _ _ _ _ _ (SV1 (decide (L1 < 0)) L1.natAbs (decide (H1 < 0)) H1.natAbs) (SV1 (decide (L2 < 0)) L2.natAbs (decide (H2 < 0)) H2.natAbs) (SV1 (decide (L1 < 0)) L1.natAbs (decide (H2 < 0)) H2.natAbs) w (fun W W' v g h => h.kp g) (fun W _ => of9s_ a b L1 H1 r1 c1 W) (fun W _ => of9s_ c d L2 H2 r2 c2 W) (fun W u v _ h1 h2 => hullSST_ _ _ _ _ _ _ _ _ (abs_pw _ d1.lo) (abs_pw _ d1.hi) (abs_pw _ d2.lo) (abs_pw _ d2.hi) (by rw [plz_pw, plz_pw]; exact k10.1) (by rw [plz_pw, plz_pw]; exact k10.2) W u v h1 h2) (fun W v _ h => lv9_ L1 H2 dh (by omega) W v h)
      by_cases k11 : (¬ L2 < L1) ∧ (¬ H1 < H2)
      · rw [show min L1 L2 = L1 from by omega, show max H1 H2 = H1 from by omega] at dh ⊢
        exact rhull9c_ _ _ _ _ _ _ (SV1 (decide (L1 < 0)) L1.natAbs (decide (H1 < 0)) H1.natAbs) (SV1 (decide (L2 < 0)) L2.natAbs (decide (H2 < 0)) H2.natAbs) (SV1 (decide (L1 < 0)) L1.natAbs (decide (H1 < 0)) H1.natAbs) w (fun W W' v g h => h.kp g) (fun W _ => of9s_ a b L1 H1 r1 c1 W) (fun W _ => of9s_ c d L2 H2 r2 c2 W) (fun W u v _ h1 h2 => hullSSS_ _ _ _ _ _ _ _ _ (abs_pw _ d1.lo) (abs_pw _ d1.hi) (abs_pw _ d2.lo) (abs_pw _ d2.hi) (by rw [plz_pw, plz_pw]; exact k11.1) (by rw [plz_pw, plz_pw]; exact k11.2) W u v h1 h2) (fun W v _ h => lv9_ L1 H1 dh (by omega) W v h)
      exfalso; omega
end Go.Proofs.Ytjkbapnndoldgaa
