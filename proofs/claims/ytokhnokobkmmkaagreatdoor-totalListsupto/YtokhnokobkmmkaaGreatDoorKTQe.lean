import Derived.Test.YtokhnokobkmmkaaGreatDoorKTOa
import Derived.Test.YtokhnokobkmmkaaGreatDoorKTQb
import Derived.Test.YtokhnokobkmmkaaGreatDoorKTQc
namespace Go.Proofs.YtokhnokobkmmkaaGreatDoor
open Go.RowKit

theorem odd_one (o t k : Nat) (ho : o % 2 = 1) (h : 2 ^ t = o * 2 ^ k) : o = 1 ∧ k = t := by
  rcases Nat.lt_or_ge t k with c | c
  · have e : 2 ^ k = 2 ^ t * 2 ^ (k - t) := by rw [← Nat.pow_add]; congr 1; omega
    rw [e, ← Nat.mul_assoc, Nat.mul_comm o, Nat.mul_assoc] at h
    have hp := Nat.two_pow_pos t
    have h2 : o * 2 ^ (k - t) = 1 := by
      have : 2 ^ t * (o * 2 ^ (k - t)) = 2 ^ t * 1 := by rw [← h, Nat.mul_one]
      exact Nat.eq_of_mul_eq_mul_left hp this
    have h3 := Nat.eq_one_of_mul_eq_one_left h2
    have : 2 ^ 1 ≤ 2 ^ (k - t) := Nat.pow_le_pow_right (by decide) (by omega)
    omega
  · have e : 2 ^ t = 2 ^ (t - k) * 2 ^ k := by rw [← Nat.pow_add]; congr 1; omega
    rw [e] at h
    have h2 := Nat.eq_of_mul_eq_mul_right (Nat.two_pow_pos k) h
    cases hd : t - k with
    | zero => rw [hd] at h2; simp at h2; omega
    | succ u => rw [hd, Nat.pow_succ] at h2; omega
def Dv (a j E U : Nat) : Prop := j ≤ E ∧ (a % 2 = 1 ∨ j = 0) ∧ a * 2 ^ (E - j) = U
theorem dy_frac (X t E U a' b' : Nat) (h : FracX X (2 ^ t) 0 a' b') (hU : X * 2 ^ E = U * 2 ^ t) : ∃ j, b' = 2 ^ j ∧ Dv a' j E U := by
  by_cases c : X = 0
  · obtain ⟨h1, h2⟩ := h.2.1 c
    refine ⟨0, by rw [h2], Nat.zero_le _, Or.inr rfl, ?_⟩
    rw [c, Nat.zero_mul] at hU
    rcases Nat.mul_eq_zero.1 hU.symm with z | z
    · rw [h1, z, Nat.zero_mul]
    · have := Nat.two_pow_pos t; omega
  · obtain ⟨oa, ob, ka, kb, x, y, g1, g2, g3, g4, g5, g6, g7, g8⟩ := h.2.2 c
    obtain ⟨r1, r2⟩ := odd_one ob t kb g2 g4
    subst r1 r2
    rw [Nat.one_mul] at g6
    have hp := Nat.two_pow_pos kb
    rw [g3] at hU
    refine ⟨y, g6, ?_⟩
    rcases g7 with z | z
    · subst z
      rw [Nat.pow_zero, Nat.mul_one] at g5
      have e : kb = y + ka := by omega
      rw [e, Nat.pow_add, Nat.mul_right_comm, ← Nat.mul_assoc] at hU
      have hU := Nat.eq_of_mul_eq_mul_right (Nat.two_pow_pos ka) hU
      have hy : y ≤ E := by
        apply Classical.byContradiction
        intro n
        have e2 : 2 ^ y = 2 ^ (y - E) * 2 ^ E := by rw [← Nat.pow_add]; congr 1; omega
        rw [e2, ← Nat.mul_assoc] at hU
        have hU := Nat.eq_of_mul_eq_mul_right (Nat.two_pow_pos E) hU
        have e3 : 2 ^ (y - E) = 2 * 2 ^ (y - E - 1) := by rw [← Nat.pow_succ']; congr 1; omega
        rw [e3, ← Nat.mul_assoc, Nat.mul_comm U 2, Nat.mul_assoc] at hU
        omega
      refine ⟨hy, Or.inl (by rw [g5]; exact g1), ?_⟩
      rw [g5]
      have e4 : 2 ^ E = 2 ^ (E - y) * 2 ^ y := by rw [← Nat.pow_add]; congr 1; omega
      rw [e4, ← Nat.mul_assoc] at hU
      exact Nat.eq_of_mul_eq_mul_right (Nat.two_pow_pos y) hU
    · subst z
      have e : ka = x + kb := by omega
      rw [e, Nat.pow_add, ← Nat.mul_assoc, Nat.mul_right_comm] at hU
      have hU := Nat.eq_of_mul_eq_mul_right hp hU
      exact ⟨Nat.zero_le _, Or.inr rfl, by rw [g5, Nat.sub_zero]; exact hU⟩
def Dy (base : Nat) (w : World) (s1 : Bool) (p1 : Option Addr) (l1 c1 : Nat) (q1 : Option Addr) (k1 d1 : Nat) (V : Int) (E : Nat) : Prop := ∃ a j, Own w base (.slice p1 l1 c1) (dig a) ∧ Own w base (.slice q1 k1 d1) (dig (2 ^ j)) ∧ Dv a j E V.natAbs ∧ (V ≠ 0 → s1 = decide (V < 0))
theorem Dy.kp {base : Nat} {w w' : World} {s1 : Bool} {p1 : Option Addr} {l1 c1 : Nat} {q1 : Option Addr} {k1 d1 : Nat} {V : Int} {E : Nat} (h : Dy base w s1 p1 l1 c1 q1 k1 d1 V E) (g : Kp w w') : Dy base w' s1 p1 l1 c1 q1 k1 d1 V E := by
  obtain ⟨a, j, h1, h2, h3⟩ := h
  exact ⟨a, j, h1.kp g, h2.kp g, h3⟩
theorem Dy.mono {base b2 : Nat} {w : World} {s1 : Bool} {p1 : Option Addr} {l1 c1 : Nat} {q1 : Option Addr} {k1 d1 : Nat} {V : Int} {E : Nat} (h : Dy base w s1 p1 l1 c1 q1 k1 d1 V E) (g : b2 ≤ base) : Dy b2 w s1 p1 l1 c1 q1 k1 d1 V E := by
  obtain ⟨a, j, h1, h2, h3⟩ := h
  exact ⟨a, j, h1.mono g, h2.mono g, h3⟩
theorem len_le (n k : Nat) (h : n < 2 ^ (32 * k)) : len32 n ≤ k := by
  apply Classical.byContradiction
  intro c
  have := len32_lt n k (by omega)
  rw [show (4294967296 : Nat) = 2 ^ 32 from rfl, ← Nat.pow_mul] at this
  omega
theorem Dv.lt {a j E U : Nat} (h : Dv a j E U) (B : Nat) (hU : U < 2 ^ B) : a < 2 ^ B := by
  obtain ⟨h1, h2, h3⟩ := h
  have := Nat.two_pow_pos (E - j)
  have : a * 1 ≤ a * 2 ^ (E - j) := Nat.mul_le_mul_left a this
  omega

theorem dy_sum (a1 a2 j1 j2 E U1 U2 : Nat) (h1 : Dv a1 j1 E U1) (h2 : Dv a2 j2 E U2) : (a1 * 2 ^ j2) * 2 ^ E = U1 * 2 ^ (j1 + j2) ∧ (a2 * 2 ^ j1) * 2 ^ E = U2 * 2 ^ (j1 + j2) := by
  obtain ⟨x1, -, x3⟩ := h1
  obtain ⟨y1, -, y3⟩ := h2
  rw [← x3, ← y3]
  constructor
  · rw [Nat.mul_assoc, Nat.mul_assoc, ← Nat.pow_add, ← Nat.pow_add]; congr 2; omega
  · rw [Nat.mul_assoc, Nat.mul_assoc, ← Nat.pow_add, ← Nat.pow_add]; congr 2; omega
theorem pow_mul2 (x B j C : Nat) (h : x < 2 ^ B) (hj : j ≤ C) : x * 2 ^ j < 2 ^ (B + C) := by
  rw [Nat.pow_add]
  exact Nat.lt_of_lt_of_le ((Nat.mul_lt_mul_right (Nat.two_pow_pos j)).2 h) (Nat.mul_le_mul_left _ (Nat.pow_le_pow_right (by decide) hj))
theorem len_b (n k B : Nat) (h : n < 2 ^ B) (hB : B ≤ 32 * k) : len32 n ≤ k := len_le n k (Nat.lt_of_lt_of_le h (Nat.pow_le_pow_right (by decide) hB))
theorem sgn_of (V : Int) (s : Bool) (h : V ≠ 0 → s = decide (V < 0)) : V = if s then -((V.natAbs : Nat) : Int) else ((V.natAbs : Nat) : Int) := by
  by_cases c : V = 0
  · rw [c]; cases s <;> rfl
  · rw [h c]
    by_cases d : V < 0
    · rw [decide_eq_true d]; simp; omega
    · rw [decide_eq_false d]; simp; omega
theorem dyadd_ (s1 : Bool) (p1 : Option Addr) (l1 c1 : Nat) (q1 : Option Addr) (k1 d1 : Nat) (s2 : Bool) (p2 : Option Addr) (l2 c2 : Nat) (q2 : Option Addr) (k2 d2 : Nat) (V1 V2 : Int) (E B : Nat) (hB : B ≤ 60000) (hE : E ≤ 60000) (hV1 : V1.natAbs < 2 ^ B) (hV2 : V2.natAbs < 2 ^ B) (b1 b2 : Nat) (w : World) (h1 : Dy b1 w s1 p1 l1 c1 q1 k1 d1 V1 E) (h2 : Dy b2 w s2 p2 l2 c2 q2 k2 d2 V2 E) : Calls Tryz.prog 55 #[.agg #[.bool s1, .slice p1 l1 c1, .slice q1 k1 d1], .agg #[.bool s2, .slice p2 l2 c2, .slice q2 k2 d2]] w fun e w' => ∃ (s3 : Bool) (p3 : Option Addr) (l3 c3 : Nat) (q3 : Option Addr) (k3 d3 : Nat), e = .returned (.agg #[.bool s3, .slice p3 l3 c3, .slice q3 k3 d3]) ∧ Dy w.heap.size w' s3 p3 l3 c3 q3 k3 d3 (V1 + V2) E ∧ Kp w w' := by
  obtain ⟨a1, j1, o1, o2, f1, g1⟩ := h1
  obtain ⟨a2, j2, o3, o4, f2, g2⟩ := h2
  obtain ⟨P1, C1, e1, r1, t1⟩ := o1.arr
  obtain ⟨P2, C2, e2, r2, t2⟩ := o2.arr
  obtain ⟨P3, C3, e3, r3, t3⟩ := o3.arr
  obtain ⟨P4, C4, e4, r4, t4⟩ := o4.arr
  injection e1 with x1 x2 x3; subst x1 x2 x3
  injection e2 with x1 x2 x3; subst x1 x2 x3
  injection e3 with x1 x2 x3; subst x1 x2 x3
  injection e4 with x1 x2 x3; subst x1 x2 x3
  obtain ⟨m1, m2⟩ := dy_sum a1 a2 j1 j2 E _ _ f1 f2
  have A1 := f1.lt B hV1
  have A2 := f2.lt B hV2
  have J1 := f1.1
  have J2 := f2.1
  have L1 : len32 a1 ≤ 4000 := len_b _ _ B A1 (by omega)
  have L2 : len32 a2 ≤ 4000 := len_b _ _ B A2 (by omega)
  have L3 : len32 (2 ^ j1) ≤ 4000 := len_b _ _ (j1 + 1) (Nat.pow_lt_pow_right (by decide) (by omega)) (by omega)
  have L4 : len32 (2 ^ j2) ≤ 4000 := len_b _ _ (j2 + 1) (Nat.pow_lt_pow_right (by decide) (by omega)) (by omega)
  have X1 := pow_mul2 a1 B j2 60000 A1 (by omega)
  have X2 := pow_mul2 a2 B j1 60000 A2 (by omega)
  have X3 : len32 (a1 * 2 ^ j2) ≤ 16000 := len_b _ _ (B + 60000) X1 (by omega)
  have X4 : len32 (a2 * 2 ^ j1) ≤ 16000 := len_b _ _ (B + 60000) X2 (by omega)
  have X5 : len32 (2 ^ j1 * 2 ^ j2) ≤ 16000 := len_b _ _ (j1 + j2 + 1) (by rw [← Nat.pow_add]; exact Nat.pow_lt_pow_right (by decide) (by omega)) (by omega)
  have X6 : len32 (a1 * 2 ^ j2 + a2 * 2 ^ j1) ≤ 16000 := len_b _ _ (B + 60000 + 1) (by rw [Nat.pow_succ]; generalize 2 ^ (B + 60000) = Q at *; omega) (by omega)
  have Z1 : (2 : Nat) ^ j1 ≠ 0 := Nat.ne_of_gt (Nat.two_pow_pos _)
  have Z2 : (2 : Nat) ^ j2 ≠ 0 := Nat.ne_of_gt (Nat.two_pow_pos _)
  have D9 : (2 : Nat) ^ j1 * 2 ^ j2 = 2 ^ (j1 + j2) := (Nat.pow_add 2 j1 j2).symm
  have fin : ∀ (X U : Nat) (sg : Bool) (V : Int), X * 2 ^ E = U * 2 ^ (j1 + j2) → V.natAbs = U → (V ≠ 0 → sg = decide (V < 0)) → (Calls Tryz.prog 55 #[.agg #[.bool s1, .slice p1 (dig a1).length c1, .slice q1 (dig (2 ^ j1)).length d1], .agg #[.bool s2, .slice p2 (dig a2).length c2, .slice q2 (dig (2 ^ j2)).length d2]] w fun e w' => ∃ (vn vd : Value) (a' b' : Nat) (ng : Bool), e = .returned (.agg #[.bool ng, vn, vd]) ∧ Own w' w.heap.size vn (dig a') ∧ Own w' w.heap.size vd (dig b') ∧ (FracX X (2 ^ j1 * 2 ^ j2) 0 a' b' ∧ (X ≠ 0 → ng = sg)) ∧ Kp w w') → Calls Tryz.prog 55 #[.agg #[.bool s1, .slice p1 (dig a1).length c1, .slice q1 (dig (2 ^ j1)).length d1], .agg #[.bool s2, .slice p2 (dig a2).length c2, .slice q2 (dig (2 ^ j2)).length d2]] w fun e w' => ∃ (s3 : Bool) (p3 : Option Addr) (l3 c3 : Nat) (q3 : Option Addr) (k3 d3 : Nat), e = .returned (.agg #[.bool s3, .slice p3 l3 c3, .slice q3 k3 d3]) ∧ Dy w.heap.size w' s3 p3 l3 c3 q3 k3 d3 (V) E ∧ Kp w w' := by
    intro X U sg V hX hU hs hc
    refine hc.mono ?_
    rintro e w' ⟨vn, vd, a', b', ng, rfl, u1, u2, ⟨u3, u4⟩, g⟩
    rw [D9] at u3
    obtain ⟨j, rfl, u5⟩ := dy_frac X (j1 + j2) E U a' b' u3 hX
    obtain ⟨p3, c3, rfl, -, -⟩ := u1.arr
    obtain ⟨q3, d3, rfl, -, -⟩ := u2.arr
    refine ⟨ng, p3, _, c3, q3, _, d3, rfl, ⟨a', j, u1, u2, by rw [hU]; exact u5, fun h => ?_⟩, g⟩
    rw [u4 (fun z => ?_)]
    · exact hs h
    · rw [z, Nat.zero_mul] at hX
      rcases Nat.mul_eq_zero.1 hX.symm with q | q
      · omega
      · have := Nat.two_pow_pos (j1 + j2); omega
  have hp : 0 < 2 ^ (j1 + j2) := Nat.two_pow_pos _
  have hpE : 0 < 2 ^ E := Nat.two_pow_pos _
  have hle : (a2 * 2 ^ j1 ≤ a1 * 2 ^ j2 ↔ V2.natAbs ≤ V1.natAbs) := by
    rw [← Nat.mul_le_mul_right_iff hpE, m1, m2, Nat.mul_le_mul_right_iff hp]
  have n1 := sgn_of V1 s1 g1
  have n2 := sgn_of V2 s2 g2
  by_cases c : s1 = s2
  · refine fin (a1 * 2 ^ j2 + a2 * 2 ^ j1) (V1.natAbs + V2.natAbs) s1 (V1 + V2) (by rw [Nat.add_mul, Nat.add_mul, m1, m2]) ?_ ?_ (raddEqX_ s1 s2 a1 (2 ^ j1) a2 (2 ^ j2) p1 q1 p2 q2 c1 d1 c2 d2 w r1 t1 r2 t2 r3 t3 r4 t4 L1 L3 L2 L4 Z1 Z2 _ _ _ rfl rfl rfl X3 X4 X5 X6 c)
    · rw [← c] at n2; clear m1 m2 hle fin; cases s1 <;> simp at n1 n2 <;> omega
    · intro h; rw [← c] at n2; clear m1 m2 hle fin; cases s1 <;> simp at n1 n2 ⊢ <;> omega
  · by_cases cl : a2 * 2 ^ j1 ≤ a1 * 2 ^ j2
    · have cl2 := hle.1 cl
      refine fin (a1 * 2 ^ j2 - a2 * 2 ^ j1) (V1.natAbs - V2.natAbs) s1 (V1 + V2) (by rw [Nat.sub_mul, Nat.sub_mul, m1, m2]) ?_ ?_ (raddGeX_ s1 s2 a1 (2 ^ j1) a2 (2 ^ j2) p1 q1 p2 q2 c1 d1 c2 d2 w r1 t1 r2 t2 r3 t3 r4 t4 L1 L3 L2 L4 Z1 Z2 _ _ _ rfl rfl rfl X3 X4 X5 X6 c cl)
      · clear m1 m2 hle fin; cases s1 <;> cases s2 <;> simp at n1 n2 c <;> omega
      · intro h; clear m1 m2 hle fin; cases s1 <;> cases s2 <;> simp at n1 n2 c ⊢ <;> omega
    · have cl2 := mt hle.2 cl
      refine fin (a2 * 2 ^ j1 - a1 * 2 ^ j2) (V2.natAbs - V1.natAbs) s2 (V1 + V2) (by rw [Nat.sub_mul, Nat.sub_mul, m1, m2]) ?_ ?_ (raddLtX_ s1 s2 a1 (2 ^ j1) a2 (2 ^ j2) p1 q1 p2 q2 c1 d1 c2 d2 w r1 t1 r2 t2 r3 t3 r4 t4 L1 L3 L2 L4 Z1 Z2 _ _ _ rfl rfl rfl X3 X4 X5 X6 c (by omega))
      · clear m1 m2 hle fin; cases s1 <;> cases s2 <;> simp at n1 n2 c <;> omega
      · intro h; clear m1 m2 hle fin; cases s1 <;> cases s2 <;> simp at n1 n2 c ⊢ <;> omega

theorem Sb.kp {w w' : World} {b : Nat} {ws : List Nat} {k : Nat} {s : Int} (h : Sb w b ws k s) (g : Kp w w') : Sb w' b ws k s := ⟨h.1, h.2.kp g⟩
theorem Sb.kb {w w' : World} {b c : Nat} {ws : List Nat} {k : Nat} {s : Int} (h : Sb w b ws k s) (g : Kb c w w') (hne : b ≠ c) : Sb w' b ws k s := ⟨h.1, h.2.kb g hne⟩
def tV (n : Bool) (m K : Nat) : Int := Iv n m * ((2 ^ K : Nat) : Int)
theorem lay_val (n : Bool) (m K : Nat) (hK : K = 1074) (hm : m < 9218868437227405312) (E : Nat) (hE : Fq.epD m + 2148 = (E : Int)) : sgI (n && !(m == 0)) * (((0 * 18446744073709551616 + Fq.sgD m) * 2 ^ E : Nat) : Int) = tV n m K := by
  obtain ⟨v1, v2, v3, v4, v5⟩ := Fq.vlsgD m hm
  have v1 : Fq.sgD m * 2 ^ (Fq.epD m + 1074).toNat = Fq.vV Ieee.double m := v1
  have e1 : E = (Fq.epD m + 1074).toNat + K := by omega
  rw [e1, Nat.pow_add, Nat.zero_mul, Nat.zero_add, ← Nat.mul_assoc, v1]
  unfold tV Iv sgI
  by_cases z : m = 0
  · have z2 : Fq.vV Ieee.double m = 0 := by rw [← v1, v3.1 z, Nat.zero_mul]
    rw [z2]; simp
  · rw [show (n && !(m == 0)) = n from by simp [z], Int.natCast_mul]
    cases n <;> simp [Int.neg_mul]
theorem fin0 (n : Bool) (m : Nat) (hm : m < 9218868437227405312) : tS n m = 0 := by unfold tS; rw [if_neg (by omega), if_neg (by omega)]
theorem sg64 (x : Nat) (h : x < 9007199254740992) : x < 18446744073709551616 := by omega
set_option maxRecDepth 20000 in
set_option maxHeartbeats 600000 in
theorem add_ (n : Bool) (m K : Nat) (hK : K = 1074) (hm : m < 9218868437227405312) (b : Nat) (ws : List Nat) (V : Int) (hV : Rep ws V) (k : Nat) (s : Int) (w : World) (hS : Sb w b ws k s) : Calls Tryz.prog 17 #[.pointer (some ⟨b, 0, none⟩), .float .f64 (Fq.wD n m)] w fun e w' => ∃ ws' : List Nat, (∃ v, e = .returned v) ∧ Sb w' b ws' ((k + 1) % 18446744073709551616) (grS ((k + 1) % 18446744073709551616) (jn s 0)) ∧ Rep ws' (V + tV n m K) ∧ Kb b w w' := by
  have hsp := Fq.split_d n m hm
  have hso := stateOf_ n m (by omega)
  rw [fin0 n m hm] at hso
  obtain ⟨v1, v2, v3, v4, v5⟩ := Fq.vlsgD m hm
  obtain ⟨E, hE⟩ : ∃ E : Nat, Fq.epD m + 2148 = (E : Int) := ⟨(Fq.epD m + 2148).toNat, by omega⟩
  have hval := lay_val n m K hK hm E hE
  have hE2 : E = E / 64 * 64 + E % 64 := by omega
  have hly := fun (w1 : World) (h1 : Bk w1 b (wc ws ++ #[.int .u64 (k : Int), .int .i64 s]) 57) => lay_ (n && !(m == 0)) 0 (Fq.sgD m) (E / 64) (E % 64) (Fq.epD m) (by decide) (sg64 _ v2) (by rw [hE, ← hE2]) (Nat.mod_lt _ (by decide)) (by omega) b ws _ _ V hV w1 h1
  rw [← hE2, hval] at hly
  have hgr := fun (w2 : World) (us : List Nat) (h2 : Sb w2 b us k s) => grow_ b us k 1 s 0 w2 h2
  generalize Fq.wD n m = X at *
  generalize Fq.sgD m = sg at *
  generalize Fq.epD m = ep at *
  generalize (n && !(m == 0)) = ng at *
  clear hval hE2 hE v1 v2 v3 v4 v5
  go_enter Tryz.func17, Tryz.ntmps17
  go_wp2_with (first | (go_at_call 40; refine (hsp _).mono ?_; rintro e w1 ⟨rfl, g1⟩; replace hS := hS.kp g1; have kA : Kb b w w1 := Kb.of g1; have hly := hly w1 hS.2) | (go_at_call 41; refine hly.mono ?_; rintro e w2 ⟨us, ⟨v9, rfl⟩, hB, hR, k2⟩; have hgr := hgr w2 us ⟨hR.1, hB⟩) | (go_at_call 43; refine (hso _).mono ?_; rintro e w' ⟨rfl, hw'⟩; obtain rfl := hw'.symm; clear hw') | (go_at_call 42; refine hgr.mono ?_; rintro e w3 ⟨⟨v8, rfl⟩, hZ, k3⟩))
  exact bodyPost_end (v := .tuple #[]) (by kernel_rfl) rfl (by first | exact ⟨⟨_, rfl⟩, us, hZ, hR, (kA.trans k2).trans k3⟩ | exact ⟨us, ⟨_, rfl⟩, hZ, hR, (kA.trans k2).trans k3⟩)
set_option maxRecDepth 20000 in
set_option maxHeartbeats 600000 in
theorem addX_ (n : Bool) (m : Nat) (hm : 9218868437227405312 ≤ m) (hm2 : m < 9223372036854775808) (b : Nat) (ws : List Nat) (k : Nat) (s : Int) (w : World) (hS : Sb w b ws k s) : Calls Tryz.prog 17 #[.pointer (some ⟨b, 0, none⟩), .float .f64 (Fq.wD n m)] w fun e w' => (∃ v, e = .returned v) ∧ Sb w' b ws ((k + 1) % 18446744073709551616) (grS ((k + 1) % 18446744073709551616) (jn s (tS n m))) ∧ Kb b w w' := by
  have hsp := Fq.splitx_d n m hm hm2
  have hso := stateOf_ n m hm2
  have hgr := fun (w2 : World) (us : List Nat) (h2 : Sb w2 b us k s) => grow_ b us k 1 s (tS n m) w2 h2
  generalize Fq.wD n m = X at *
  generalize tS n m = TS at *
  clear hm hm2
  go_enter Tryz.func17, Tryz.ntmps17
  go_wp2_with (first | (go_at_call 40; refine (hsp _).mono ?_; rintro e w1 ⟨rfl, g1⟩; replace hS := hS.kp g1; have kA : Kb b w w1 := Kb.of g1; have hgr := hgr w1 ws hS) | (go_at_call 43; refine (hso _).mono ?_; rintro e w' ⟨rfl, hw'⟩; obtain rfl := hw'.symm; clear hw') | (go_at_call 42; refine hgr.mono ?_; rintro e w3 ⟨⟨v8, rfl⟩, hZ, k3⟩))
  exact bodyPost_end (v := .tuple #[]) (by kernel_rfl) rfl ⟨⟨_, rfl⟩, hZ, kA.trans k3⟩

theorem Bk.word0 {w : World} {b : Nat} {ws : List Nat} {t : TypeId} (h : Bk w b (wc ws) t) (j : Nat) (hj : j < ws.length) : w.cell? ⟨b, j, none⟩ = some (.int .u64 ((ws.getD j 0 : Nat) : Int)) := by
  rw [h.cell j, wc_get ws j hj]
theorem Bk.setw0 {w : World} {b : Nat} {ws : List Nat} {t : TypeId} (h : Bk w b (wc ws) t) (j x : Nat) : Bk (w.setCell ⟨b, j, none⟩ (.int .u64 (x : Int))) b (wc (ws.set j x)) t := by
  have q := h.put j (.int .u64 (x : Int))
  rwa [wc_set] at q
theorem zeroW : ∀ w : World, (zeroValue 55).run Tryz.prog w = .ok (.agg (wc (List.replicate 67 0))) w := (zero_of_info (P := Tryz.prog) (t := 55) (v := .agg (wc (List.replicate 67 0))) (n := 67) (by kernel_rfl)).1
theorem loadW {w : World} {b : Nat} {ws : List Nat} {t : TypeId} (h : Bk w b (wc ws) t) (hl : ws.length = 67) : (loadVar 55 ⟨b, 0, none⟩).run Tryz.prog w = .ok (.agg (wc ws)) w :=
  run_loadVar_row w b t 55 (wc ws) (0, 0) _ h undW rfl (by rw [wc_size, hl]; exact infoW)
theorem storeW {w : World} {b : Nat} {C : Array Value} {ws : List Nat} {t : TypeId} (h : Bk w b C t) (hC : C.size = 67) (hl : ws.length = 67) : (storeVar 55 ⟨b, 0, none⟩ (.agg (wc ws))).run Tryz.prog w = .ok () (w.setRow b (wc ws)) :=
  run_storeVar_row w b t 55 C (wc ws) h (by rw [wc_size, hl]; exact infoW) (by rw [wc_size, hl, hC]) (wc_one ws)
theorem putW {w : World} {b : Nat} {C : Array Value} {ws : List Nat} {t : TypeId} (h : Bk w b C t) (hC : C.size = 67) (hl : ws.length = 67) : (storeCells ⟨b, 0, none⟩ (wc ws).toList 0).run Tryz.prog w = .ok () (w.setRow b (wc ws)) := by
  have := storeW (ws := ws) h hC hl
  have hi := infoW
  cases hq : Tryz.prog.info? 55 with
  | none => simp [hq] at hi
  | some i =>
    have hs : (wc ws).size = i.size := by simp [hq] at hi; rw [wc_size, hl, hi]
    simpa [storeVar, sizeOf, typeInfo, hq, Value.cells, hs] using this
theorem results_cell1 {fn : Func} {p : Tmp} {ty : TypeId} (h : fn.results = #[.cell p ty]) (tmps : Array Value) (P : Program) (w : World) :
    (results fn tmps).run P w = ((asAddr (tmps.getD p undef)).run P w).andThen fun a w₁ => (loadVar ty a).run P w₁ := by
  simp only [results, h]
  simp [Sem.run_bind, Result.andThen]
theorem wpl_load {P : Program} {ops : Array Oper} {rest : List Oper} {op : Oper} {a : Act} {w : World} {Q : Exit → Act → World → Prop} (hgd : op.guard = none) (ty : TypeId) (x : Operand) (ho : op.op = .load ty x) (b o : Nat) (hx : a.eval x = .pointer (some ⟨b, o, none⟩)) (v : Value) (hr : (loadVar ty ⟨b, o, none⟩).run P w = .ok v w) (h : wpList P ops Q rest (a.put op.dst v) w) : wpList P ops Q (op :: rest) a w :=
  wpList_plain hgd fun _ hK => by
    unfold Oper.wp execOp
    simp only [ho, hx, Instr.loadAt, Instr.sureAddr, Sem.run_bind, Sem.run_pure, Result.andThen_ok, hr]
    exact hK _ _ h
theorem wpl_val {P : Program} {ops : Array Oper} {rest : List Oper} {op : Oper} {a : Act} {w : World} {Q : Exit → Act → World → Prop} (hgd : op.guard = none) (v : Value) (hr : (execOp a.eval op).run P w = .ok (.value v) w) (h : wpList P ops Q rest (a.put op.dst v) w) : wpList P ops Q (op :: rest) a w :=
  wpList_plain hgd fun _ hK => by
    unfold Oper.wp
    rw [hr]
    exact hK _ _ h
theorem wpl_field {P : Program} {ops : Array Oper} {rest : List Oper} {op : Oper} {a : Act} {w : World} {Q : Exit → Act → World → Prop} (hgd : op.guard = none) (t : TypeId) (x : Operand) (i : Nat) (ho : op.op = .fieldAddr t x i) (p v : Value) (hx : a.eval x = p) (hr : (Instr.fieldAt t p i).run P w = .ok v w) (h : wpList P ops Q rest (a.put op.dst v) w) : wpList P ops Q (op :: rest) a w :=
  wpList_plain hgd fun _ hK => by
    unfold Oper.wp execOp
    simp only [ho, hx, Sem.run_bind, Sem.run_pure, Result.andThen_ok, hr]
    exact hK _ _ h
theorem wpl_store {P : Program} {ops : Array Oper} {rest : List Oper} {op : Oper} {a : Act} {w : World} {Q : Exit → Act → World → Prop} (hgd : op.guard = none) (ty : TypeId) (x y : Operand) (ho : op.op = .store ty x y) (b o : Nat) (hx : a.eval x = .pointer (some ⟨b, o, none⟩)) (v : Value) (hy : a.eval y = v) (w2 : World) (hr : (storeVar ty ⟨b, o, none⟩ v).run P w = .ok () w2) (h : wpList P ops Q rest (a.put op.dst undef) w2) : wpList P ops Q (op :: rest) a w :=
  wpList_plain hgd fun _ hK => by
    unfold Oper.wp execOp
    simp only [ho, hx, hy, Instr.storeAt, Instr.sureAddr, Sem.run_bind, Sem.run_pure, Result.andThen_ok, hr]
    exact hK _ _ h
theorem Bk.setRow {w : World} {b : Nat} {C : Array Value} {t : TypeId} (h : Bk w b C t) (D : Array Value) : Bk (w.setRow b D) b D t := setRow_heap w b C D t (0, 0) h
theorem Kp.setRow {a w : World} (h : Kp a w) {b : Nat} (hb : a.heap.size ≤ b) (D : Array Value) : Kp a (w.setRow b D) := by
  refine ⟨h.os, h.tape, h.output, by have := h.size; simpa [World.setRow] using this, fun k hk => ?_⟩
  rw [← Below.block h k hk]
  simp only [World.setRow, Array.getElem?_modify]
  rw [if_neg (by omega)]
set_option maxRecDepth 20000 in
set_option maxHeartbeats 1000000 in
theorem turned_ (a : List Nat) (V : Int) (ha : Rep a V) (w : World) : Calls Tryz.prog 46 #[.agg (wc a)] w fun e w' => ∃ z : List Nat, e = .returned (.agg (wc z)) ∧ Rep z (-V) ∧ Kp w w' := by
  have hz := zeroW
  have hW : Hid (Rep a V) := ha
  obtain ⟨Ca, hCa⟩ : ∃ Ca, Ca = wc a := ⟨_, rfl⟩
  rw [← hCa]
  have hZs : (wc (List.replicate 67 0)).size = 67 := by rw [wc_size, List.length_replicate]
  generalize wc (List.replicate 67 0) = Z at hz hZs
  have HC : Hid (Ca = wc a) := hCa
  have HZ : Hid (Z.size = 67) := hZs
  obtain ⟨g, hg⟩ : ∃ g, g = w.heap.size := ⟨_, rfl⟩
  have HG : Hid (g = w.heap.size) := hg
  clear hCa  ha hZs
  go_enter Tryz.func46, Tryz.ntmps46
  go_wp2
  rw [← hg]
  clear hz hg
  go_loopw [3, 5] (fun cc ii wr => ∃ (i c : Nat) (z : List Nat), cc = .int .u64 (c : Int) ∧ ii = .int .i64 (i : Int) ∧ i ≤ 67 ∧ Trn a z i c ∧ Bk wr g (wc z) 55 ∧ Bk wr (g + 1) Z 55 ∧ Kp w wr) (fun _ i _ => 67 - (intOf i).toNat)
  case atStart =>
    have e := HG.out
    have c1 := HC.out
    rw [e, c1]
    have ha := hW.out
    exact ⟨0, 1, a, rfl, rfl, by omega, Trn.start ha.1 ha.2.1, (Bk.new _ _ _).alloc _, Bk.newAt (by simp) _ _, ((Kp.refl w).alloc _).alloc _⟩
  case round =>
    obtain ⟨i, c, z, rfl, rfl, hi, hP, b1, b3, hk⟩ := hrel
    have ha := hW.out
    by_cases ci : i < 67
    · have e1 := b1.word0 i (by rw [hP.1]; exact ci)
      have e2 := b1.frozen i
      rw [hP.2.2.2.2 i (Nat.le_refl _)] at e1
      have hx := xorN (a.getD i 0) (ha.2.1 i)
      have had : ∀ w : World, _ := fun w => add64_ (18446744073709551615 - a.getD i 0) 0 c hP.2.2.1 w
      rw [show ((0 : Nat) : Int) = 0 from rfl] at had
      have hP2 := hP.next ha.1 ha.2.1 ci
      generalize (18446744073709551615 - a.getD i 0 + 0 + c) % 18446744073709551616 = x at *
      generalize (18446744073709551615 - a.getD i 0 + 0 + c) / 18446744073709551616 = c2 at *
      generalize a.getD i 0 = ya at *
      generalize 18446744073709551615 - ya = yn at *
      have b1' := b1.setw0 i x
      have b3' := b3.far ⟨g, i, none⟩ (.int .u64 (x : Int)) (show g ≠ g + 1 by omega)
      have hk' : Kp w (wr.setCell ⟨g, i, none⟩ (.int .u64 (x : Int))) := hk.setCell (by rw [HG.out]; exact Nat.le_refl _) _
      have j1 : (i : Int) < 67 := by omega
      have j2 : i + 1 ≤ 67 := by omega
      have j3 : 67 - (i + 1) < 67 - i := by omega
      clear hP b1 b3 hk hi ha
      go_wp2_with (fail)
      all_goals (
        try go_wp2
        exact ⟨⟨i + 1, c2, z.set i x, rfl, by go_num, j2, hP2, b1', b3', hk'⟩, (show 67 - (i + 1) < 67 - i from j3)⟩)
    · have hi67 : i = 67 := by omega
      have hP : Trn a z 67 c := by rw [hi67] at hP; exact hP
      have hR := hP.rep ha
      have t1 : ¬ ((i : Int) < 67) := by omega
      have hld := loadW b1 hP.1
      have hst := storeW (ws := z) b3 HZ.out hP.1
      have b4 := b3.setRow (wc z)
      have hld2 := loadW b4 hP.1
      have k4 : Kp w (wr.setRow (g + 1) (wc z)) := hk.setRow (by rw [HG.out]; omega) _
      clear hP b1 b3 hk hi hi67 ci ha b4
      go_upto_region 7 with fail
      refine wp_region_list ?_
      refine wpl_load rfl 55 _ rfl g 0 rfl _ hld ?_
      refine wpl_store rfl 55 _ _ rfl (g + 1) 0 rfl _ rfl _ hst ?_
      go_wp2
      exact bodyPost_ret (v := .agg (wc z)) (by rw [results_cell1 (p := 2) (ty := 55) Tryz.results46]; exact hld2) rfl ⟨z, rfl, hR, k4⟩
end Go.Proofs.YtokhnokobkmmkaaGreatDoor
