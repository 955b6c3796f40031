import Derived.Test.YtinohggonicjhaaGreatDoorKIMu
namespace Go.Proofs.YtinohggonicjhaaGreatDoor
open Go.RowKit
set_option linter.unusedVariables false
theorem XP.qpN {base : Nat} {w : World} {s : Bool} {p : Option Addr} {l c : Nat} {q : Option Addr} {k d : Nat} {V : Int} {K N : Nat} (hN : N ≤ 4194304) (hK : K = 1074) (h : XP base w s p l c q k d V (2 ^ K * 2 ^ K) N) : QP base w s p l c q k d (fun dd => pz (g53 dd 1 (2 ^ K) V)) := by
  obtain ⟨a, b, h1, h2, f1, f2, f3, f4, f5⟩ := h
  refine ⟨a, b, h1, h2, f1, by omega, by omega, fun dd => ?_⟩
  show _ = pz (g53 dd 1 (2 ^ K) V)
  rw [← fmaW_g K hK, ← mul_fma dd V (decide (V < 0)) V.natAbs rfl (fun _ => rfl)]
  have pc : (0 : Int) < ((2 ^ K * 2 ^ K : Nat) : Int) := by
    have := Nat.mul_pos (Nat.two_pow_pos K) (Nat.two_pow_pos K); omega
  have pb : (0 : Int) < (b : Int) := by omega
  refine ref_mul dd s (decide (V < 0)) a b a b V.natAbs K hK f1 ⟨f1, Iff.rfl, fun d' p' t' _ => by rw [Int.add_zero], by omega, by omega⟩ (fun hx => ?_) ?_
  · generalize ((2 ^ K * 2 ^ K : Nat) : Int) = C at pc f3
    have pa : (0 : Int) < (a : Int) := by omega
    have k1 := Int.mul_pos pa pc
    unfold rvI at f3
    cases s
    · rw [if_neg (by decide)] at f3
      refine (decide_eq_false (fun hv => ?_)).symm
      have k2 := Int.mul_neg_of_neg_of_pos hv pb
      omega
    · rw [if_pos rfl, Int.neg_mul] at f3
      refine (decide_eq_true ?_).symm
      by_cases hv : V < 0
      · exact hv
      · have k2 := Int.mul_nonneg (show 0 ≤ V by omega) (Int.le_of_lt pb)
        omega
  · have k := congrArg Int.natAbs f3
    rw [Int.natAbs_mul, Int.natAbs_mul, Int.natAbs_natCast, Int.natAbs_natCast, show (rvI s a).natAbs = a from by unfold rvI; cases s <;> simp] at k
    rw [Nat.pow_add]
    exact k
def SVt (K : Nat) (L H : Int × Int) (W : World) (v : Value) : Prop := ∃ (i j : Int) (s : Bool) (p : Option Addr) (l c : Nat) (q : Option Addr) (k d : Nat) (s2 : Bool) (p2 : Option Addr) (l2 c2 : Nat) (q2 : Option Addr) (k2 d2 : Nat), v = .agg #[.bool false, .int .i64 i, .bool s, .slice p l c, .slice q k d, .int .i64 j, .bool s2, .slice p2 l2 c2, .slice q2 k2 d2] ∧ EB K 0 L W i s p l c q k d ∧ EB K 0 H W j s2 p2 l2 c2 q2 k2 d2
theorem timesS_ (K : Nat) (hK : K = 1074) (n1 g1 n2 g2 : Bool) (m1 r1 m2 r2 : Nat) (y1 : m1 ≤ 9218868437227405312) (y2 : r1 ≤ 9218868437227405312) (y3 : m2 ≤ 9218868437227405312) (y4 : r2 ≤ 9218868437227405312) (W : World) (u v : Value) (h1 : SV1 n1 m1 g1 r1 W u) (h2 : SV1 n2 m2 g2 r2 W v) : Calls Tryz.prog 31 #[u, v] W fun e w' => ∃ v', e = .returned v' ∧ SVt K (lB (lB (pi9 (Fq.plz n1 m1) (Fq.plz n2 m2), pV9 (Fq.plz n1 m1) (Fq.plz n2 m2)) (pi9 (Fq.plz n1 m1) (Fq.plz g2 r2), pV9 (Fq.plz n1 m1) (Fq.plz g2 r2))) (lB (pi9 (Fq.plz g1 r1) (Fq.plz n2 m2), pV9 (Fq.plz g1 r1) (Fq.plz n2 m2)) (pi9 (Fq.plz g1 r1) (Fq.plz g2 r2), pV9 (Fq.plz g1 r1) (Fq.plz g2 r2)))) (gB (gB (pi9 (Fq.plz n1 m1) (Fq.plz n2 m2), pV9 (Fq.plz n1 m1) (Fq.plz n2 m2)) (pi9 (Fq.plz n1 m1) (Fq.plz g2 r2), pV9 (Fq.plz n1 m1) (Fq.plz g2 r2))) (gB (pi9 (Fq.plz g1 r1) (Fq.plz n2 m2), pV9 (Fq.plz g1 r1) (Fq.plz n2 m2)) (pi9 (Fq.plz g1 r1) (Fq.plz g2 r2), pV9 (Fq.plz g1 r1) (Fq.plz g2 r2)))) w' v' ∧ Kp W w' := by
  obtain ⟨s, p, l, c, q, k, d, s2, p2, l2, c2, q2, k2, d2, rfl, a1, a2⟩ := h1
  obtain ⟨s3, p3, l3', c3, q3, k3, d3, s4, p4, l4', c4, q4, k4, d4, rfl, b1, b2⟩ := h2
  refine (timesE_ K hK n1 g1 n2 g2 m1 r1 m2 r2 y1 y2 y3 y4 s p l c q k d s2 p2 l2 c2 q2 k2 d2 s3 p3 l3' c3 q3 k3 d3 s4 p4 l4' c4 q4 k4 d4 0 0 0 0 W a1 a2 b1 b2).mono ?_
  rintro e w' ⟨Gi, Gn, Gp, Gl, Gc, Gq, Gk, Gd, Oi, On, Op, Ol, Oc, Oq, Ok, Od, rfl, x1, x2, g⟩
  exact ⟨_, rfl, ⟨Gi, Oi, Gn, Gp, Gl, Gc, Gq, Gk, Gd, On, Op, Ol, Oc, Oq, Ok, Od, rfl, ⟨x1.1, fun z => (x1.2 z).mono (Nat.zero_le _)⟩, ⟨x2.1, fun z => (x2.2 z).mono (Nat.zero_le _)⟩⟩, g⟩
theorem rd_snd (a b : Nat) (L H : Int) (h : Rd a b L H) (hs : Fq.snd a b = true) : L ≠ 9218868437227405312 := by
  intro e
  have h2 : a ≠ 9218868437227405312 := by intro h; rw [h] at hs; simp [Fq.snd] at hs
  have h1 : Fq.rlo a b ≠ 9218868437227405312 := by simp only [Fq.rlo, hs, if_true, Fq.pla]; split <;> omega
  exact h1 (by rw [h.2.2.2.1, e, pw_I])
theorem rd_void (a b : Nat) (ha : a < 18446744073709551616) (hb : b < 18446744073709551616) (hs : Fq.snd a b = false) : Rd a b 9218868437227405312 (-9218868437227405312) :=
  ⟨ha, hb, Or.inl ⟨rfl, rfl⟩, by rw [pw_I]; simp [Fq.rlo, hs], by rw [pw_MI]; simp [Fq.rhi, hs]⟩
theorem natAbs_bd (z : Int) (h : BdZ z) : z.natAbs ≤ 9218868437227405312 := by unfold BdZ at h; omega

theorem sumT_ (K : Nat) (hK : K = 1074) (B : Int × Int) (n : Bool) (m : Nat) (i : Int) (s : Bool) (p : Option Addr) (l c : Nat) (q : Option Addr) (k d : Nat) (s2 : Bool) (p2 : Option Addr) (l2 c2 : Nat) (q2 : Option Addr) (k2 d2 : Nat) (B1 B2 : Nat) (w : World) (h1 : EB K B1 B w i s p l c q k d) (h2 : RP B2 w s2 p2 l2 c2 q2 k2 d2 (fN n m) (fM m)) : Calls Tryz.prog 52 #[.agg #[.int .i64 i, .bool s, .slice p l c, .slice q k d], .agg #[.int .i64 (infS n m), .bool s2, .slice p2 l2 c2, .slice q2 k2 d2]] w fun e w' => ∃ (s3 : Bool) (p3 : Option Addr) (l3 c3 : Nat) (q3 : Option Addr) (k3 d3 : Nat), e = .returned (.agg #[.int .i64 (sI i (infS n m)), .bool s3, .slice p3 l3 c3, .slice q3 k3 d3]) ∧ (i = 0 → infS n m = 0 → QP w.heap.size w' s3 p3 l3 c3 q3 k3 d3 (fun dd => pz (g53 dd 1 (2 ^ K) (B.2 + Iv (fN n m) (fM m) * ((2 ^ K : Nat) : Int))))) ∧ Kp w w' := by
  by_cases e1 : i = 0
  · by_cases e2 : infS n m = 0
    · have x1 := h1.2 (by rw [← h1.1]; exact e1)
      have x2 := h2.xp K hK
      rw [e2]
      subst e1
      refine (sumN_ (fun dd => pz (g53 dd 1 (2 ^ K) (B.2 + Iv (fN n m) (fM m) * ((2 ^ K : Nat) : Int)))) s p l c q k d s2 p2 l2 c2 q2 k2 d2 w (fun W g => ?_)).mono ?_
      · refine (xadd_ B.2 (Iv (fN n m) (fM m)) (2 ^ K * 2 ^ K) (2 ^ K) 7000 1500 (by omega) s p l c q k d s2 p2 l2 c2 q2 k2 d2 B1 B2 W (x1.kp g) (x2.kp g)).mono ?_
        rintro e w' ⟨s3, p3, l3, c3, q3, k3, d3, rfl, hp, g⟩
        have hp2 := hp.as (B.2 + Iv (fN n m) (fM m) * ((2 ^ K : Nat) : Int)) (2 ^ K * 2 ^ K) 20000 (Nat.mul_ne_zero (by have := Nat.two_pow_pos K; omega) (by have := Nat.two_pow_pos K; omega)) (by
          simp only [Int.natCast_mul]
          generalize ((2 ^ K : Nat) : Int) = Q
          generalize Iv (fN n m) (fM m) = X
          grind) (by omega)
        exact ⟨s3, p3, l3, c3, q3, k3, d3, rfl, hp2.qpN (by decide) hK, g⟩
      · rintro e w' ⟨s3, p3, l3, c3, q3, k3, d3, rfl, hp, g⟩
        exact ⟨s3, p3, l3, c3, q3, k3, d3, rfl, fun _ _ => hp, g⟩
    · refine (sumB_ i (infS n m) s p l c q k d s2 p2 l2 c2 q2 k2 d2 (by simp [e1]) (by simp [e2]) w).mono ?_
      rintro e w' ⟨rfl, g⟩
      exact ⟨s2, p2, l2, c2, q2, k2, d2, by simp [sI, e1], fun _ h => absurd h e2, g⟩
  · refine (sumA_ i (infS n m) s p l c q k d s2 p2 l2 c2 q2 k2 d2 (by simp [e1]) w).mono ?_
    rintro e w' ⟨rfl, g⟩
    exact ⟨s, p, l, c, q, k, d, by simp [sI, e1], fun h => absurd h e1, g⟩
def SVf (K : Nat) (L H : Int × Int) (n g : Bool) (m r : Nat) (W : World) (v : Value) : Prop := ∃ (s : Bool) (p : Option Addr) (l c : Nat) (q : Option Addr) (k d : Nat) (s2 : Bool) (p2 : Option Addr) (l2 c2 : Nat) (q2 : Option Addr) (k2 d2 : Nat), v = .agg #[.bool false, .int .i64 (sI L.1 (infS n m)), .bool s, .slice p l c, .slice q k d, .int .i64 (sI H.1 (infS g r)), .bool s2, .slice p2 l2 c2, .slice q2 k2 d2] ∧ (L.1 = 0 → infS n m = 0 → QP 0 W s p l c q k d (fun dd => pz (g53 dd 1 (2 ^ K) (L.2 + Iv (fN n m) (fM m) * ((2 ^ K : Nat) : Int))))) ∧ (H.1 = 0 → infS g r = 0 → QP 0 W s2 p2 l2 c2 q2 k2 d2 (fun dd => pz (g53 dd 1 (2 ^ K) (H.2 + Iv (fN g r) (fM r) * ((2 ^ K : Nat) : Int)))))
theorem plusT_ (K : Nat) (hK : K = 1074) (L H : Int × Int) (n g : Bool) (m r : Nat) (W : World) (u v : Value) (h1 : SVt K L H W u) (h2 : SV1 n m g r W v) : Calls Tryz.prog 30 #[u, v] W fun e w' => ∃ v', e = .returned v' ∧ SVf K L H n g m r w' v' ∧ Kp W w' := by
  obtain ⟨i, j, s, p, l, c, q, k, d, s2, p2, l2, c2, q2, k2, d2, rfl, a1, a2⟩ := h1
  obtain ⟨s3, p3, l3, c3, q3, k3, d3, s4, p4, l4, c4, q4, k4, d4, rfl, b1, b2⟩ := h2
  have ei := a1.1
  have ej := a2.1
  subst ei
  subst ej
  refine (plusN_ L.1 H.1 (infS n m) (infS g r) (fun dd => pz (g53 dd 1 (2 ^ K) (L.2 + Iv (fN n m) (fM m) * ((2 ^ K : Nat) : Int)))) (fun dd => pz (g53 dd 1 (2 ^ K) (H.2 + Iv (fN g r) (fM r) * ((2 ^ K : Nat) : Int)))) s p l c q k d s2 p2 l2 c2 q2 k2 d2 s3 p3 l3 c3 q3 k3 d3 s4 p4 l4 c4 q4 k4 d4 W (fun W' y => sumT_ K hK L n m L.1 s p l c q k d s3 p3 l3 c3 q3 k3 d3 0 0 W' (a1.kp y) (b1.kp y)) (fun W' y => sumT_ K hK H g r H.1 s2 p2 l2 c2 q2 k2 d2 s4 p4 l4 c4 q4 k4 d4 0 0 W' (a2.kp y) (b2.kp y))).mono ?_
  rintro e w' ⟨s5, p5, l5, c5, q5, k5, d5, s6, p6, l6, c6, q6, k6, d6, rfl, x1, x2, y⟩
  exact ⟨_, rfl, ⟨s5, p5, l5, c5, q5, k5, d5, s6, p6, l6, c6, q6, k6, d6, rfl, fun y z => (x1 y z).mono (Nat.zero_le _), fun y z => (x2 y z).mono (Nat.zero_le _)⟩, y⟩
theorem infS_z9 (z : Int) (h : BdZ z) : infS (decide (z < 0)) z.natAbs = 0 ↔ (z ≠ 9218868437227405312 ∧ z ≠ -9218868437227405312) := by
  unfold BdZ at h
  unfold infS
  by_cases c : z.natAbs = 9218868437227405312
  · rw [if_pos c]
    constructor
    · intro x; split at x <;> omega
    · intro x; omega
  · rw [if_neg c]
    constructor
    · intro _; omega
    · intro _; rfl
theorem leastF_ (K : Nat) (L H : Int × Int) (L3 H3 : Int) (d3 : VdZ L3 H3) (n3 : L3 ≠ 9218868437227405312) (W : World) (v : Value) (h : SVf K L H (decide (L3 < 0)) (decide (H3 < 0)) L3.natAbs H3.natAbs W v) : Calls Tryz.prog 23 #[v] W fun e w' => e = .returned (.agg #[.int .u64 ((pw (if L.1 = 0 ∧ L3 ≠ -9218868437227405312 then g53 (-1) 1 (2 ^ K) (L.2 + vZ L3 * ((2 ^ K : Nat) : Int)) else -9218868437227405312) : Nat) : Int), .int .u64 ((pw (if H.1 = 0 ∧ H3 ≠ 9218868437227405312 then g53 1 1 (2 ^ K) (H.2 + vZ H3 * ((2 ^ K : Nat) : Int)) else 9218868437227405312) : Nat) : Int)]) ∧ Kp W w' := by
  obtain ⟨s, p, l, c, q, k, d, s2, p2, l2, c2, q2, k2, d2, rfl, x1, x2⟩ := h
  have b1 := d3.lo; have b2 := d3.hi
  have i1 := infS_z9 L3 b1
  have i2 := infS_z9 H3 b2
  have z1 : ∀ i j : Int, sI i j = 0 ↔ (i = 0 ∧ j = 0) := fun i j => by
    unfold sI
    by_cases c : i = 0
    · rw [if_pos c]; simp [c]
    · rw [if_neg c]; simp [c]
  have h := leastP_ (sI L.1 (infS (decide (L3 < 0)) L3.natAbs)) (sI H.1 (infS (decide (H3 < 0)) H3.natAbs)) (fun dd => pz (g53 dd 1 (2 ^ K) (L.2 + Iv (fN (decide (L3 < 0)) L3.natAbs) (fM L3.natAbs) * ((2 ^ K : Nat) : Int)))) (fun dd => pz (g53 dd 1 (2 ^ K) (H.2 + Iv (fN (decide (H3 < 0)) H3.natAbs) (fM H3.natAbs) * ((2 ^ K : Nat) : Int)))) s p l c q k d s2 p2 l2 c2 q2 k2 d2 0 0 W (fun y => x1 ((z1 _ _).1 y).1 ((z1 _ _).1 y).2) (fun y => x2 ((z1 _ _).1 y).1 ((z1 _ _).1 y).2)
  unfold VdZ at d3
  have f1 : (if sI L.1 (infS (decide (L3 < 0)) L3.natAbs) = 0 then (fun dd => pz (g53 dd 1 (2 ^ K) (L.2 + Iv (fN (decide (L3 < 0)) L3.natAbs) (fM L3.natAbs) * ((2 ^ K : Nat) : Int)))) (-1) else 18442240474082181120) = pw (if L.1 = 0 ∧ L3 ≠ -9218868437227405312 then g53 (-1) 1 (2 ^ K) (L.2 + vZ L3 * ((2 ^ K : Nat) : Int)) else -9218868437227405312) := by
    by_cases c : L.1 = 0 ∧ L3 ≠ -9218868437227405312
    · rw [if_pos c, if_pos ((z1 _ _).2 ⟨c.1, i1.2 (by omega)⟩)]
      unfold fN fM
      rw [if_neg (by omega), if_neg (by omega)]; rfl
    · rw [if_neg c, if_neg (fun x => c (by have y := (z1 _ _).1 x; have z := i1.1 y.2; exact ⟨y.1, z.2⟩)), pw_MI]
  have f2 : (if sI H.1 (infS (decide (H3 < 0)) H3.natAbs) = 0 then (fun dd => pz (g53 dd 1 (2 ^ K) (H.2 + Iv (fN (decide (H3 < 0)) H3.natAbs) (fM H3.natAbs) * ((2 ^ K : Nat) : Int)))) 1 else 9218868437227405312) = pw (if H.1 = 0 ∧ H3 ≠ 9218868437227405312 then g53 1 1 (2 ^ K) (H.2 + vZ H3 * ((2 ^ K : Nat) : Int)) else 9218868437227405312) := by
    by_cases c : H.1 = 0 ∧ H3 ≠ 9218868437227405312
    · rw [if_pos c, if_pos ((z1 _ _).2 ⟨c.1, i2.2 (by omega)⟩)]
      unfold fN fM
      rw [if_neg (by omega), if_neg (by omega)]; rfl
    · rw [if_neg c, if_neg (fun x => c (by have y := (z1 _ _).1 x; have z := i2.1 y.2; exact ⟨y.1, z.1⟩)), pw_I]
  rw [f1, f2] at h
  exact h
theorem SVt.kp {K : Nat} {L H : Int × Int} {W W' : World} {v : Value} (h : SVt K L H W v) (g : Kp W W') : SVt K L H W' v := by
  obtain ⟨i, j, s, p, l, c, q, k, d, s2, p2, l2, c2, q2, k2, d2, rfl, a1, a2⟩ := h
  exact ⟨i, j, s, p, l, c, q, k, d, s2, p2, l2, c2, q2, k2, d2, rfl, a1.kp g, a2.kp g⟩
theorem SVt.sv0 {K : Nat} {L H : Int × Int} {W : World} {v : Value} (h : SVt K L H W v) : SV0 false v := by
  obtain ⟨i, j, s, p, l, c, q, k, d, s2, p2, l2, c2, q2, k2, d2, rfl, a1, a2⟩ := h
  exact ⟨i, j, s, p, l, c, q, k, d, s2, p2, l2, c2, q2, k2, d2, rfl⟩
theorem fuse_both6 (a b c d e5 f5 : Nat) (ha : a < 18446744073709551616) (hb : b < 18446744073709551616) (hc : c < 18446744073709551616) (hd : d < 18446744073709551616) (he5 : e5 < 18446744073709551616) (hf5 : f5 < 18446744073709551616) : ∃ LO HI : Nat, (∀ w : World, Tab w → Fq.Tab w → Calls Tryz.prog 12 #[.agg #[.float .f64 a, .float .f64 b], .agg #[.float .f64 c, .float .f64 d], .agg #[.float .f64 e5, .float .f64 f5]] w fun e w' => e = .returned (.agg #[.float .f64 LO, .float .f64 HI]) ∧ Kp w w') ∧ (∀ w : World, Calls Tryz.prog 13 #[.agg #[.int .u64 ((a : Nat) : Int), .int .u64 ((b : Nat) : Int)], .agg #[.int .u64 ((c : Nat) : Int), .int .u64 ((d : Nat) : Int)], .agg #[.int .u64 ((e5 : Nat) : Int), .int .u64 ((f5 : Nat) : Int)]] w fun e w' => e = .returned (.agg #[.int .u64 ((LO : Nat) : Int), .int .u64 ((HI : Nat) : Int)]) ∧ Kp w w') := by
  obtain ⟨K, hK⟩ : ∃ K : Nat, K = 1074 := ⟨_, rfl⟩
  obtain ⟨M1, J1, w1⟩ := Rd.ex a b ha hb
  obtain ⟨M2, J2, w2⟩ := Rd.ex c d hc hd
  obtain ⟨M3, J3, w3⟩ := Rd.ex e5 f5 he5 hf5
  have void : ∀ (x y : Nat) (hx : x < 18446744073709551616) (hy : y < 18446744073709551616) (L H : Int), Rd x y L H → Fq.snd x y = false → L = 9218868437227405312 := by
    intro x y hx hy L H r s
    have r2 := rd_void x y hx hy s
    have e := r.2.2.2.1
    rw [r2.2.2.2.1] at e
    exact ((pw_inj 9218868437227405312 L (by unfold BdZ; omega) r.vd.lo).1 e).symm
  by_cases s1 : Fq.snd a b = true
  case neg =>
    have s1 : Fq.snd a b = false := by simpa using s1
    have v1 := void a b ha hb M1 J1 w1 s1
    refine ⟨9218868437227405312, 18442240474082181120, fun w hT hQ => ?_, fun w => ?_⟩
    · have h := fma9_ K hK a b c d e5 f5 M1 J1 M2 J2 M3 J3 w1 w2 w3 w ⟨hT, hQ⟩
      unfold fLo fHi at h
      rw [if_pos (Or.inl v1), if_pos (Or.inl v1), pw_I, pw_MI] at h
      exact h
    · refine rfma6c_ _ _ _ _ _ _ _ _ (fun _ v => SV0 (!(Fq.snd a b)) v) (fun _ v => SV0 (!(Fq.snd c d)) v) (fun _ v => SV0 (!(Fq.snd e5 f5)) v) (fun _ v => SV0 true v) (fun _ v => SV0 true v) w (fun W W' v g h => h) (fun W W' v g h => h) (fun W _ => of0_ a b ha hb W) (fun W _ => of0_ c d hc hd W) (fun W _ => of0_ e5 f5 he5 hf5 W) (fun W u v _ h1 h2 => timesX_ _ _ ?_ W u v h1 h2) (fun W u v _ h1 h2 => plusX_ _ _ (Or.inl rfl) W u v h1 h2) (fun W v _ h => leastN_ W v h)
      rw [s1]; exact .inl rfl
  by_cases s2 : Fq.snd c d = true
  case neg =>
    have s2 : Fq.snd c d = false := by simpa using s2
    have v2 := void c d hc hd M2 J2 w2 s2
    refine ⟨9218868437227405312, 18442240474082181120, fun w hT hQ => ?_, fun w => ?_⟩
    · have h := fma9_ K hK a b c d e5 f5 M1 J1 M2 J2 M3 J3 w1 w2 w3 w ⟨hT, hQ⟩
      unfold fLo fHi at h
      rw [if_pos (Or.inr (Or.inl v2)), if_pos (Or.inr (Or.inl v2)), pw_I, pw_MI] at h
      exact h
    · refine rfma6c_ _ _ _ _ _ _ _ _ (fun _ v => SV0 (!(Fq.snd a b)) v) (fun _ v => SV0 (!(Fq.snd c d)) v) (fun _ v => SV0 (!(Fq.snd e5 f5)) v) (fun _ v => SV0 true v) (fun _ v => SV0 true v) w (fun W W' v g h => h) (fun W W' v g h => h) (fun W _ => of0_ a b ha hb W) (fun W _ => of0_ c d hc hd W) (fun W _ => of0_ e5 f5 he5 hf5 W) (fun W u v _ h1 h2 => timesX_ _ _ ?_ W u v h1 h2) (fun W u v _ h1 h2 => plusX_ _ _ (Or.inl rfl) W u v h1 h2) (fun W v _ h => leastN_ W v h)
      rw [s2]; exact .inr rfl
  have nL1 := rd_snd a b M1 J1 w1 s1
  have nL2 := rd_snd c d M2 J2 w2 s2
  have l1 := natAbs_bd M1 w1.vd.lo
  have l2 := natAbs_bd J1 w1.vd.hi
  have l3 := natAbs_bd M2 w2.vd.lo
  have l4 := natAbs_bd J2 w2.vd.hi
  have ht := fun (W : World) (u v : Value) => timesS_ K hK (decide (M1 < 0)) (decide (J1 < 0)) (decide (M2 < 0)) (decide (J2 < 0)) M1.natAbs J1.natAbs M2.natAbs J2.natAbs l1 l2 l3 l4 W u v
  simp only [plz_pw] at ht
  by_cases s3 : Fq.snd e5 f5 = true
  case neg =>
    have s3 : Fq.snd e5 f5 = false := by simpa using s3
    have v3 := void e5 f5 he5 hf5 M3 J3 w3 s3
    refine ⟨9218868437227405312, 18442240474082181120, fun w hT hQ => ?_, fun w => ?_⟩
    · have h := fma9_ K hK a b c d e5 f5 M1 J1 M2 J2 M3 J3 w1 w2 w3 w ⟨hT, hQ⟩
      unfold fLo fHi at h
      rw [if_pos (Or.inr (Or.inr v3)), if_pos (Or.inr (Or.inr v3)), pw_I, pw_MI] at h
      exact h
    · refine rfma6c_ _ _ _ _ _ _ _ _ (SV1 (decide (M1 < 0)) M1.natAbs (decide (J1 < 0)) J1.natAbs) (SV1 (decide (M2 < 0)) M2.natAbs (decide (J2 < 0)) J2.natAbs) (fun _ v => SV0 (!(Fq.snd e5 f5)) v) (SVt K _ _) (fun _ v => SV0 true v) w (fun W W' v g h => h.kp g) (fun W W' v g h => h.kp g) (fun W _ => ofSound_ a b ha hb s1 _ _ _ _ l1 l2 w1.2.2.2.1 w1.2.2.2.2 W) (fun W _ => ofSound_ c d hc hd s2 _ _ _ _ l3 l4 w2.2.2.2.1 w2.2.2.2.2 W) (fun W _ => of0_ e5 f5 he5 hf5 W) (fun W u v _ h1 h2 => ht W u v h1 h2) (fun W u v _ h1 h2 => plusX_ false _ ?_ W u v h1.sv0 h2) (fun W v _ h => leastN_ W v h)
      rw [s3]; exact .inr rfl
  have nL3 := rd_snd e5 f5 M3 J3 w3 s3
  have l5 := natAbs_bd M3 w3.vd.lo
  have l6 := natAbs_bd J3 w3.vd.hi
  have v3 := w3.vd
  have v3' := v3
  unfold VdZ at v3'
  have q1 := fuse_lo K M1 J1 M2 J2 M3 w1.vd w2.vd nL1 nL2 (by omega)
  have q2 := fuse_hi K M1 J1 M2 J2 J3 w1.vd w2.vd nL1 nL2 (by omega)
  refine ⟨pw (fLo K M1 J1 M2 J2 M3 J3), pw (fHi K M1 J1 M2 J2 M3 J3), fun w hT hQ => fma9_ K hK a b c d e5 f5 M1 J1 M2 J2 M3 J3 w1 w2 w3 w ⟨hT, hQ⟩, fun w => ?_⟩
  have cE : ¬ (M1 = 9218868437227405312 ∨ M2 = 9218868437227405312 ∨ M3 = 9218868437227405312) := by omega
  unfold fLo fHi
  rw [if_neg cE, if_neg cE, ← q1.1, ← q2.1]
  exact rfma6c_ _ _ _ _ _ _ _ _ (SV1 (decide (M1 < 0)) M1.natAbs (decide (J1 < 0)) J1.natAbs) (SV1 (decide (M2 < 0)) M2.natAbs (decide (J2 < 0)) J2.natAbs) (SV1 (decide (M3 < 0)) M3.natAbs (decide (J3 < 0)) J3.natAbs) (SVt K _ _) (SVf K _ _ (decide (M3 < 0)) (decide (J3 < 0)) M3.natAbs J3.natAbs) w (fun W W' v g h => h.kp g) (fun W W' v g h => h.kp g) (fun W _ => ofSound_ a b ha hb s1 _ _ _ _ l1 l2 w1.2.2.2.1 w1.2.2.2.2 W) (fun W _ => ofSound_ c d hc hd s2 _ _ _ _ l3 l4 w2.2.2.2.1 w2.2.2.2.2 W) (fun W _ => ofSound_ e5 f5 he5 hf5 s3 _ _ _ _ l5 l6 w3.2.2.2.1 w3.2.2.2.2 W) (fun W u v _ h1 h2 => ht W u v h1 h2) (fun W u v _ h1 h2 => plusT_ K hK _ _ _ _ _ _ W u v h1 h2) (fun W v _ h => leastF_ K _ _ M3 J3 v3 nL3 W v h)
set_option maxRecDepth 20000 in
set_option maxHeartbeats 4000000 in
theorem ivfuses_ (a b c d e5 f5 : Nat) (ha : a < 18446744073709551616) (hb : b < 18446744073709551616) (hc : c < 18446744073709551616) (hd : d < 18446744073709551616) (he5 : e5 < 18446744073709551616) (hf5 : f5 < 18446744073709551616) (w : World) (hT : Tab w) (hQ : Fq.Tab w) : Calls Tryz.prog 5 #[.agg #[.int .u64 ((a : Nat) : Int), .int .u64 ((b : Nat) : Int)], .agg #[.int .u64 ((c : Nat) : Int), .int .u64 ((d : Nat) : Int)], .agg #[.int .u64 ((e5 : Nat) : Int), .int .u64 ((f5 : Nat) : Int)]] w fun e w' => e = .returned (.bool true) ∧ Kp w w' := by
  obtain ⟨LO, HI, hP0, hR⟩ := fuse_both6 a b c d e5 f5 ha hb hc hd he5 hf5
  have hP : ∀ W : World, Kp w W → Calls Tryz.prog 12 #[.agg #[.float .f64 a, .float .f64 b], .agg #[.float .f64 c, .float .f64 d], .agg #[.float .f64 e5, .float .f64 f5]] W fun e w' => e = .returned (.agg #[.float .f64 LO, .float .f64 HI]) ∧ Kp W w' := fun W g => hP0 W (hT.grown g) (Fq.Tab.grown hQ g)
  have h1 := Fq.in_ a b
  have h2 := Fq.in_ c d
  have h3 := Fq.in_ e5 f5
  have hO := Fq.out_ LO HI
  clear hP0 hT hQ ha hb hc hd he5 hf5
  generalize (LO : Int) = LI at hR hO
  generalize (HI : Int) = HJ at hR hO
  generalize (a : Int) = X at h1 hR ⊢
  generalize (b : Int) = Y at h1 hR ⊢
  generalize (c : Int) = Z at h2 hR ⊢
  generalize (d : Int) = V at h2 hR ⊢
  generalize (e5 : Int) = S at h3 hR ⊢
  generalize (f5 : Int) = U at h3 hR ⊢
  go_enter Tryz.func5, Tryz.ntmps5
  go_wp2
  refine Fq.wp_region_grow (by kernel_rfl) (by kernel_rfl) (fun ι _ G hG hall => ?_)
  have cc0 : ∀ n, (G n).cell? ⟨w.heap.size, 0, none⟩ = some (.int .u64 X) := fun n => Fq.gkeep (hG n) (by simp [go_sem])
  have cc1 : ∀ n, (G n).cell? ⟨w.heap.size, 1, none⟩ = some (.int .u64 Y) := fun n => Fq.gkeep (hG n) (by simp [go_sem])
  have cc2 : ∀ n, (G n).cell? ⟨w.heap.size + 1, 0, none⟩ = some (.int .u64 Z) := fun n => Fq.gkeep (hG n) (by simp [go_sem])
  have cc3 : ∀ n, (G n).cell? ⟨w.heap.size + 1, 1, none⟩ = some (.int .u64 V) := fun n => Fq.gkeep (hG n) (by simp [go_sem])
  have cc4 : ∀ n, (G n).cell? ⟨w.heap.size + 2, 0, none⟩ = some (.int .u64 S) := fun n => Fq.gkeep (hG n) (by simp [go_sem])
  have cc5 : ∀ n, (G n).cell? ⟨w.heap.size + 2, 1, none⟩ = some (.int .u64 U) := fun n => Fq.gkeep (hG n) (by simp [go_sem])
  have kG : ∀ n, Kp w (G n) := fun n => Kp.trans ((((Kp.refl w).alloc _).alloc _).alloc _) (hG n)
  repeat (go_big_quiet_step (first | (go_at_call_of 8 (Value.int .u64 X); exact (h1 _).mono (fun e w' h => ⟨h.1, hall _ (Fq.gtrans (hG _) h.2)⟩)) | (go_at_call_of 8 (Value.int .u64 Z); exact (h2 _).mono (fun e w' h => ⟨h.1, hall _ (Fq.gtrans (hG _) h.2)⟩)) | (go_at_call_of 8 (Value.int .u64 S); exact (h3 _).mono (fun e w' h => ⟨h.1, hall _ (Fq.gtrans (hG _) h.2)⟩)) | (go_at_call 12; exact (hP _ (kG _)).mono (fun e w' h => ⟨h.1, hall _ (Fq.gtrans (hG _) h.2)⟩)) | (go_at_call 6; exact (hO _).mono (fun e w' h => ⟨h.1, hall _ (Fq.gtrans (hG _) h.2)⟩)) | (go_at_call 13; exact (hR _).mono (fun e w' h => ⟨h.1, hall _ (Fq.gtrans (hG _) h.2)⟩))))
  refine wpQuiet_nil ?_
  rintro _ ⟨nq, rfl⟩
  have gq := kG nq
  clear cc0 cc1 cc2 cc3 cc4 cc5 hall hG kG
  go_wp2
  exact bodyPost_ret (v := .bool true) (by simp [results, Tryz.results5, go_sem]) rfl ⟨rfl, gq⟩
end Go.Proofs.YtinohggonicjhaaGreatDoor
