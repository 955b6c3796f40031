import Derived.Test.YteedfmghgkmofaaGreatDoorKDTotalTight0
import Derived.WalkKit
import Derived.ProofKit
import Derived.RowKit3
import Derived.WalkSpells
import Derived.StillTactics
import Derived.Deep.QuietTactic
import Derived.BigQuiet
import Derived.Below
import Derived.Deep.OwnRows
import Derived.OwnWalk
import Derived.Laws.BitsAllLaws
import Derived.Laws.Slices
import Derived.Laws.Bits64b
import Derived.Deep.WholeRow
import Derived.Deep.MidRow
import Derived.Laws.Externs
import Derived.Deep.Cut
import Derived.Deep.RegionWith
import Derived.Deep.RegionHeld3
import Derived.Laws.Bits64
import Derived.Lib.Zigzag
import Derived.RowKit
import Derived.Laws.MakeOwn
import Derived.Laws.FloatArith
import Derived.OrdersHeld
import Derived.Deep.RegionHeld
namespace Go.Proofs.YteedfmghgkmofaaGreatDoor
open Go.RowKit
theorem odd_one (o t k : Nat) (ho : o % 2 = 1) (h : 2 ^ t = o * 2 ^ k) : o = 1 ∧ k = t := by
  rcases Nat.lt_or_ge t k with c | c
  · have e : 2 ^ k = 2 ^ t * 2 ^ (k - t) := by rw [← Nat.pow_add]; congr 1; omega
    rw [e, ← Nat.mul_assoc, Nat.mul_comm o, Nat.mul_assoc] at h
    have hp := Nat.two_pow_pos t
    have h2 : o * 2 ^ (k - t) = 1 := by
      have : 2 ^ t * (o * 2 ^ (k - t)) = 2 ^ t * 1 := by rw [← h, Nat.mul_one]
      exact Nat.eq_of_mul_eq_mul_left hp this
    have h3 := Nat.eq_one_of_mul_eq_one_left h2
    have : 2 ^ 1 ≤ 2 ^ (k - t) := Nat.pow_le_pow_right (by decide) (by omega)
    omega
  · have e : 2 ^ t = 2 ^ (t - k) * 2 ^ k := by rw [← Nat.pow_add]; congr 1; omega
    rw [e] at h
    have h2 := Nat.eq_of_mul_eq_mul_right (Nat.two_pow_pos k) h
    cases hd : t - k with
    | zero => rw [hd] at h2; simp at h2; omega
    | succ u => rw [hd, Nat.pow_succ] at h2; omega
theorem dy_frac (X t E U a' b' : Nat) (h : FracX X (2 ^ t) 0 a' b') (hU : X * 2 ^ E = U * 2 ^ t) : ∃ j, b' = 2 ^ j ∧ Dv a' j E U := by
  by_cases c : X = 0
  · obtain ⟨h1, h2⟩ := h.2.1 c
    refine ⟨0, by rw [h2], Nat.zero_le _, Or.inr rfl, ?_⟩
    rw [c, Nat.zero_mul] at hU
    rcases Nat.mul_eq_zero.1 hU.symm with z | z
    · rw [h1, z, Nat.zero_mul]
    · have := Nat.two_pow_pos t; omega
  · obtain ⟨oa, ob, ka, kb, x, y, g1, g2, g3, g4, g5, g6, g7, g8⟩ := h.2.2 c
    obtain ⟨r1, r2⟩ := odd_one ob t kb g2 g4
    subst r1 r2
    rw [Nat.one_mul] at g6
    have hp := Nat.two_pow_pos kb
    rw [g3] at hU
    refine ⟨y, g6, ?_⟩
    rcases g7 with z | z
    · subst z
      rw [Nat.pow_zero, Nat.mul_one] at g5
      have e : kb = y + ka := by omega
      rw [e, Nat.pow_add, Nat.mul_right_comm, ← Nat.mul_assoc] at hU
      have hU := Nat.eq_of_mul_eq_mul_right (Nat.two_pow_pos ka) hU
      have hy : y ≤ E := by
        apply Classical.byContradiction
        intro n
        have e2 : 2 ^ y = 2 ^ (y - E) * 2 ^ E := by rw [← Nat.pow_add]; congr 1; omega
        rw [e2, ← Nat.mul_assoc] at hU
        have hU := Nat.eq_of_mul_eq_mul_right (Nat.two_pow_pos E) hU
        have e3 : 2 ^ (y - E) = 2 * 2 ^ (y - E - 1) := by rw [← Nat.pow_succ']; congr 1; omega
        rw [e3, ← Nat.mul_assoc, Nat.mul_comm U 2, Nat.mul_assoc] at hU
        omega
      refine ⟨hy, Or.inl (by rw [g5]; exact g1), ?_⟩
      rw [g5]
      have e4 : 2 ^ E = 2 ^ (E - y) * 2 ^ y := by rw [← Nat.pow_add]; congr 1; omega
      rw [e4, ← Nat.mul_assoc] at hU
      exact Nat.eq_of_mul_eq_mul_right (Nat.two_pow_pos y) hU
    · subst z
      have e : ka = x + kb := by omega
      rw [e, Nat.pow_add, ← Nat.mul_assoc, Nat.mul_right_comm] at hU
      have hU := Nat.eq_of_mul_eq_mul_right hp hU
      exact ⟨Nat.zero_le _, Or.inr rfl, by rw [g5, Nat.sub_zero]; exact hU⟩
theorem len_le (n k : Nat) (h : n < 2 ^ (32 * k)) : len32 n ≤ k := by
  apply Classical.byContradiction
  intro c
  have := len32_lt n k (by omega)
  rw [show (4294967296 : Nat) = 2 ^ 32 from rfl, ← Nat.pow_mul] at this
  omega
end Go.Proofs.YteedfmghgkmofaaGreatDoor
namespace Go.Proofs.YteedfmghgkmofaaGreatDoor
open Go.RowKit
theorem dy_sum (a1 a2 j1 j2 E U1 U2 : Nat) (h1 : Dv a1 j1 E U1) (h2 : Dv a2 j2 E U2) : (a1 * 2 ^ j2) * 2 ^ E = U1 * 2 ^ (j1 + j2) ∧ (a2 * 2 ^ j1) * 2 ^ E = U2 * 2 ^ (j1 + j2) := by
  obtain ⟨x1, -, x3⟩ := h1
  obtain ⟨y1, -, y3⟩ := h2
  rw [← x3, ← y3]
  constructor
  · rw [Nat.mul_assoc, Nat.mul_assoc, ← Nat.pow_add, ← Nat.pow_add]; congr 2; omega
  · rw [Nat.mul_assoc, Nat.mul_assoc, ← Nat.pow_add, ← Nat.pow_add]; congr 2; omega
theorem pow_mul2 (x B j C : Nat) (h : x < 2 ^ B) (hj : j ≤ C) : x * 2 ^ j < 2 ^ (B + C) := by
  rw [Nat.pow_add]
  exact Nat.lt_of_lt_of_le ((Nat.mul_lt_mul_right (Nat.two_pow_pos j)).2 h) (Nat.mul_le_mul_left _ (Nat.pow_le_pow_right (by decide) hj))
theorem len_b (n k B : Nat) (h : n < 2 ^ B) (hB : B ≤ 32 * k) : len32 n ≤ k := len_le n k (Nat.lt_of_lt_of_le h (Nat.pow_le_pow_right (by decide) hB))
theorem sgn_of (V : Int) (s : Bool) (h : V ≠ 0 → s = decide (V < 0)) : V = if s then -((V.natAbs : Nat) : Int) else ((V.natAbs : Nat) : Int) := by
  by_cases c : V = 0
  · rw [c]; cases s <;> rfl
  · rw [h c]
    by_cases d : V < 0
    · rw [decide_eq_true d]; simp; omega
    · rw [decide_eq_false d]; simp; omega
theorem dyadd_ (s1 : Bool) (p1 : Option Addr) (l1 c1 : Nat) (q1 : Option Addr) (k1 d1 : Nat) (s2 : Bool) (p2 : Option Addr) (l2 c2 : Nat) (q2 : Option Addr) (k2 d2 : Nat) (V1 V2 : Int) (E B : Nat) (hB : B ≤ 60000) (hE : E ≤ 60000) (hV1 : V1.natAbs < 2 ^ B) (hV2 : V2.natAbs < 2 ^ B) (b1 b2 : Nat) (w : World) (h1 : Dy b1 w s1 p1 l1 c1 q1 k1 d1 V1 E) (h2 : Dy b2 w s2 p2 l2 c2 q2 k2 d2 V2 E) : Calls Tryz.prog 40 #[.agg #[.bool s1, .slice p1 l1 c1, .slice q1 k1 d1], .agg #[.bool s2, .slice p2 l2 c2, .slice q2 k2 d2]] w fun e w' => ∃ (s3 : Bool) (p3 : Option Addr) (l3 c3 : Nat) (q3 : Option Addr) (k3 d3 : Nat), e = .returned (.agg #[.bool s3, .slice p3 l3 c3, .slice q3 k3 d3]) ∧ Dy w.heap.size w' s3 p3 l3 c3 q3 k3 d3 (V1 + V2) E ∧ Kp w w' := by
  obtain ⟨a1, j1, o1, o2, f1, g1⟩ := h1
  obtain ⟨a2, j2, o3, o4, f2, g2⟩ := h2
  obtain ⟨P1, C1, e1, r1, t1⟩ := o1.arr
  obtain ⟨P2, C2, e2, r2, t2⟩ := o2.arr
  obtain ⟨P3, C3, e3, r3, t3⟩ := o3.arr
  obtain ⟨P4, C4, e4, r4, t4⟩ := o4.arr
  injection e1 with x1 x2 x3; subst x1 x2 x3
  injection e2 with x1 x2 x3; subst x1 x2 x3
  injection e3 with x1 x2 x3; subst x1 x2 x3
  injection e4 with x1 x2 x3; subst x1 x2 x3
  obtain ⟨m1, m2⟩ := dy_sum a1 a2 j1 j2 E _ _ f1 f2
  have A1 := f1.lt B hV1
  have A2 := f2.lt B hV2
  have J1 := f1.1
  have J2 := f2.1
  have L1 : len32 a1 ≤ 4000 := len_b _ _ B A1 (by omega)
  have L2 : len32 a2 ≤ 4000 := len_b _ _ B A2 (by omega)
  have L3 : len32 (2 ^ j1) ≤ 4000 := len_b _ _ (j1 + 1) (Nat.pow_lt_pow_right (by decide) (by omega)) (by omega)
  have L4 : len32 (2 ^ j2) ≤ 4000 := len_b _ _ (j2 + 1) (Nat.pow_lt_pow_right (by decide) (by omega)) (by omega)
  have X1 := pow_mul2 a1 B j2 60000 A1 (by omega)
  have X2 := pow_mul2 a2 B j1 60000 A2 (by omega)
  have X3 : len32 (a1 * 2 ^ j2) ≤ 16000 := len_b _ _ (B + 60000) X1 (by omega)
  have X4 : len32 (a2 * 2 ^ j1) ≤ 16000 := len_b _ _ (B + 60000) X2 (by omega)
  have X5 : len32 (2 ^ j1 * 2 ^ j2) ≤ 16000 := len_b _ _ (j1 + j2 + 1) (by rw [← Nat.pow_add]; exact Nat.pow_lt_pow_right (by decide) (by omega)) (by omega)
  have X6 : len32 (a1 * 2 ^ j2 + a2 * 2 ^ j1) ≤ 16000 := len_b _ _ (B + 60000 + 1) (by rw [Nat.pow_succ]; generalize 2 ^ (B + 60000) = Q at *; omega) (by omega)
  have Z1 : (2 : Nat) ^ j1 ≠ 0 := Nat.ne_of_gt (Nat.two_pow_pos _)
  have Z2 : (2 : Nat) ^ j2 ≠ 0 := Nat.ne_of_gt (Nat.two_pow_pos _)
  have D9 : (2 : Nat) ^ j1 * 2 ^ j2 = 2 ^ (j1 + j2) := (Nat.pow_add 2 j1 j2).symm
  have fin : ∀ (X U : Nat) (sg : Bool) (V : Int), X * 2 ^ E = U * 2 ^ (j1 + j2) → V.natAbs = U → (V ≠ 0 → sg = decide (V < 0)) → (Calls Tryz.prog 40 #[.agg #[.bool s1, .slice p1 (dig a1).length c1, .slice q1 (dig (2 ^ j1)).length d1], .agg #[.bool s2, .slice p2 (dig a2).length c2, .slice q2 (dig (2 ^ j2)).length d2]] w fun e w' => ∃ (vn vd : Value) (a' b' : Nat) (ng : Bool), e = .returned (.agg #[.bool ng, vn, vd]) ∧ Own w' w.heap.size vn (dig a') ∧ Own w' w.heap.size vd (dig b') ∧ (FracX X (2 ^ j1 * 2 ^ j2) 0 a' b' ∧ (X ≠ 0 → ng = sg)) ∧ Kp w w') → Calls Tryz.prog 40 #[.agg #[.bool s1, .slice p1 (dig a1).length c1, .slice q1 (dig (2 ^ j1)).length d1], .agg #[.bool s2, .slice p2 (dig a2).length c2, .slice q2 (dig (2 ^ j2)).length d2]] w fun e w' => ∃ (s3 : Bool) (p3 : Option Addr) (l3 c3 : Nat) (q3 : Option Addr) (k3 d3 : Nat), e = .returned (.agg #[.bool s3, .slice p3 l3 c3, .slice q3 k3 d3]) ∧ Dy w.heap.size w' s3 p3 l3 c3 q3 k3 d3 (V) E ∧ Kp w w' := by
    intro X U sg V hX hU hs hc
    refine hc.mono ?_
    rintro e w' ⟨vn, vd, a', b', ng, rfl, u1, u2, ⟨u3, u4⟩, g⟩
    rw [D9] at u3
    obtain ⟨j, rfl, u5⟩ := dy_frac X (j1 + j2) E U a' b' u3 hX
    obtain ⟨p3, c3, rfl, -, -⟩ := u1.arr
    obtain ⟨q3, d3, rfl, -, -⟩ := u2.arr
    refine ⟨ng, p3, _, c3, q3, _, d3, rfl, ⟨a', j, u1, u2, by rw [hU]; exact u5, fun h => ?_⟩, g⟩
    rw [u4 (fun z => ?_)]
    · exact hs h
    · rw [z, Nat.zero_mul] at hX
      rcases Nat.mul_eq_zero.1 hX.symm with q | q
      · omega
      · have := Nat.two_pow_pos (j1 + j2); omega
  have hp : 0 < 2 ^ (j1 + j2) := Nat.two_pow_pos _
  have hpE : 0 < 2 ^ E := Nat.two_pow_pos _
  have hle : (a2 * 2 ^ j1 ≤ a1 * 2 ^ j2 ↔ V2.natAbs ≤ V1.natAbs) := by
    rw [← Nat.mul_le_mul_right_iff hpE, m1, m2, Nat.mul_le_mul_right_iff hp]
  have n1 := sgn_of V1 s1 g1
  have n2 := sgn_of V2 s2 g2
  by_cases c : s1 = s2
  · refine fin (a1 * 2 ^ j2 + a2 * 2 ^ j1) (V1.natAbs + V2.natAbs) s1 (V1 + V2) (by rw [Nat.add_mul, Nat.add_mul, m1, m2]) ?_ ?_ (raddEqX_ s1 s2 a1 (2 ^ j1) a2 (2 ^ j2) p1 q1 p2 q2 c1 d1 c2 d2 w r1 t1 r2 t2 r3 t3 r4 t4 L1 L3 L2 L4 Z1 Z2 _ _ _ rfl rfl rfl X3 X4 X5 X6 c)
    · rw [← c] at n2; clear m1 m2 hle fin; cases s1 <;> simp at n1 n2 <;> omega
    · intro h; rw [← c] at n2; clear m1 m2 hle fin; cases s1 <;> simp at n1 n2 ⊢ <;> omega
  · by_cases cl : a2 * 2 ^ j1 ≤ a1 * 2 ^ j2
    · have cl2 := hle.1 cl
      refine fin (a1 * 2 ^ j2 - a2 * 2 ^ j1) (V1.natAbs - V2.natAbs) s1 (V1 + V2) (by rw [Nat.sub_mul, Nat.sub_mul, m1, m2]) ?_ ?_ (raddGeX_ s1 s2 a1 (2 ^ j1) a2 (2 ^ j2) p1 q1 p2 q2 c1 d1 c2 d2 w r1 t1 r2 t2 r3 t3 r4 t4 L1 L3 L2 L4 Z1 Z2 _ _ _ rfl rfl rfl X3 X4 X5 X6 c cl)
      · clear m1 m2 hle fin; cases s1 <;> cases s2 <;> simp at n1 n2 c <;> omega
      · intro h; clear m1 m2 hle fin; cases s1 <;> cases s2 <;> simp at n1 n2 c ⊢ <;> omega
    · have cl2 := mt hle.2 cl
      refine fin (a2 * 2 ^ j1 - a1 * 2 ^ j2) (V2.natAbs - V1.natAbs) s2 (V1 + V2) (by rw [Nat.sub_mul, Nat.sub_mul, m1, m2]) ?_ ?_ (raddLtX_ s1 s2 a1 (2 ^ j1) a2 (2 ^ j2) p1 q1 p2 q2 c1 d1 c2 d2 w r1 t1 r2 t2 r3 t3 r4 t4 L1 L3 L2 L4 Z1 Z2 _ _ _ rfl rfl rfl X3 X4 X5 X6 c (by omega))
      · clear m1 m2 hle fin; cases s1 <;> cases s2 <;> simp at n1 n2 c <;> omega
      · intro h; clear m1 m2 hle fin; cases s1 <;> cases s2 <;> simp at n1 n2 c ⊢ <;> omega
end Go.Proofs.YteedfmghgkmofaaGreatDoor
namespace Go.Proofs.YteedfmghgkmofaaGreatDoor
open Go.RowKit
theorem dyfrom_ (n : Bool) (m K : Nat) (hK : K = 1074) (hm : m < 9218868437227405312) (w : World) : Calls Tryz.prog 38 #[.int .u64 ((Fq.wD n m : Nat) : Int)] w fun e w' => ∃ (s3 : Bool) (p3 : Option Addr) (l3 c3 : Nat) (q3 : Option Addr) (k3 d3 : Nat), e = .returned (.agg #[.bool s3, .slice p3 l3 c3, .slice q3 k3 d3]) ∧ Dy w.heap.size w' s3 p3 l3 c3 q3 k3 d3 (Iv n m) (K) ∧ Kp w w' := by
  have h := fromBitsX_ n m hm w
  refine Calls.mono (show Calls Tryz.prog 38 #[.int .u64 ((Fq.wD n m : Nat) : Int)] w _ from h) ?_
  rintro e w' ⟨vn, vd, a, b, ng, rfl, u1, u2, ⟨u3, u4⟩, g⟩
  obtain ⟨v1, v2, v3, v4, v5⟩ := Fq.vlsgD m hm
  have v1 : Fq.sgD m * 2 ^ (Fq.epD m + 1074).toNat = Fq.vV Ieee.double m := v1
  have u3 : FracX (Fq.sgD m) 1 (Fq.epD m) a b := u3
  have u4 : Fq.sgD m ≠ 0 → ng = n := u4
  obtain ⟨p3, c3, rfl, -, -⟩ := u1.arr
  obtain ⟨q3, d3, rfl, -, -⟩ := u2.arr
  have ab : (Iv n m).natAbs = Fq.vV Ieee.double m := by unfold Iv; cases n <;> simp
  by_cases z : Fq.sgD m = 0
  · obtain ⟨z1, z2⟩ := u3.2.1 z
    have z3 : Fq.vV Ieee.double m = 0 := by rw [← v1, z, Nat.zero_mul]
    have z4 : Iv n m = 0 := by omega
    subst z2
    refine ⟨ng, p3, _, c3, q3, _, d3, rfl, ⟨a, 0, u1, u2, ⟨Nat.zero_le _, Or.inr rfl, ?_⟩, fun h => absurd z4 h⟩, g⟩
    rw [z1, Nat.zero_mul, ab, z3]
  · obtain ⟨oa, ob, ka, kb, x, y, g1, g2, g3, g4, g5, g6, g7, g8⟩ := u3.2.2 z
    obtain ⟨r1, r2⟩ := odd_one ob 0 kb g2 g4
    subst r1 r2
    rw [Nat.one_mul] at g6
    subst g6
    have hs : Iv n m ≠ 0 → ng = decide (Iv n m < 0) := fun h => by
      rw [u4 z]
      unfold Iv at h ⊢
      cases n
      · simp
      · simp at h ⊢; omega
    rw [g3] at v1
    refine ⟨ng, p3, _, c3, q3, _, d3, rfl, ⟨a, y, u1, u2, ?_, hs⟩, g⟩
    rw [ab, ← v1, g5]
    rcases g7 with q | q
    · subst q
      refine ⟨by omega, Or.inl (by rw [Nat.pow_zero, Nat.mul_one]; exact g1), ?_⟩
      rw [Nat.pow_zero, Nat.mul_one, Nat.mul_assoc, ← Nat.pow_add]; congr 2; omega
    · subst q
      refine ⟨Nat.zero_le _, Or.inr rfl, ?_⟩
      rw [Nat.mul_assoc, Nat.mul_assoc, ← Nat.pow_add, ← Nat.pow_add]; congr 2; omega
theorem dymul_ (s1 : Bool) (p1 : Option Addr) (l1 c1 : Nat) (q1 : Option Addr) (k1 d1 : Nat) (s2 : Bool) (p2 : Option Addr) (l2 c2 : Nat) (q2 : Option Addr) (k2 d2 : Nat) (V1 V2 : Int) (E B : Nat) (hB : B ≤ 30000) (hE : E ≤ 30000) (hV1 : V1.natAbs < 2 ^ B) (hV2 : V2.natAbs < 2 ^ B) (b1 b2 : Nat) (w : World) (h1 : Dy b1 w s1 p1 l1 c1 q1 k1 d1 V1 E) (h2 : Dy b2 w s2 p2 l2 c2 q2 k2 d2 V2 E) : Calls Tryz.prog 39 #[.agg #[.bool s1, .slice p1 l1 c1, .slice q1 k1 d1], .agg #[.bool s2, .slice p2 l2 c2, .slice q2 k2 d2]] w fun e w' => ∃ (s3 : Bool) (p3 : Option Addr) (l3 c3 : Nat) (q3 : Option Addr) (k3 d3 : Nat), e = .returned (.agg #[.bool s3, .slice p3 l3 c3, .slice q3 k3 d3]) ∧ Dy w.heap.size w' s3 p3 l3 c3 q3 k3 d3 (V1 * V2) (E + E) ∧ Kp w w' := by
  obtain ⟨a1, j1, o1, o2, f1, g1⟩ := h1
  obtain ⟨a2, j2, o3, o4, f2, g2⟩ := h2
  obtain ⟨P1, C1, e1, r1, t1⟩ := o1.arr
  obtain ⟨P2, C2, e2, r2, t2⟩ := o2.arr
  obtain ⟨P3, C3, e3, r3, t3⟩ := o3.arr
  obtain ⟨P4, C4, e4, r4, t4⟩ := o4.arr
  injection e1 with x1 x2 x3; subst x1 x2 x3
  injection e2 with x1 x2 x3; subst x1 x2 x3
  injection e3 with x1 x2 x3; subst x1 x2 x3
  injection e4 with x1 x2 x3; subst x1 x2 x3
  have A1 := f1.lt B hV1
  have A2 := f2.lt B hV2
  have J1 := f1.1
  have J2 := f2.1
  have L1 : len32 a1 ≤ 4000 := len_b _ _ B A1 (by omega)
  have L2 : len32 a2 ≤ 4000 := len_b _ _ B A2 (by omega)
  have L3 : len32 (2 ^ j1) ≤ 4000 := len_b _ _ (j1 + 1) (Nat.pow_lt_pow_right (by decide) (by omega)) (by omega)
  have L4 : len32 (2 ^ j2) ≤ 4000 := len_b _ _ (j2 + 1) (Nat.pow_lt_pow_right (by decide) (by omega)) (by omega)
  have X3 : len32 (a1 * a2) ≤ 16000 := len_b _ _ (B + B) (by rw [Nat.pow_add]; exact Nat.mul_lt_mul'' A1 A2) (by omega)
  have X5 : len32 (2 ^ j1 * 2 ^ j2) ≤ 16000 := len_b _ _ (j1 + j2 + 1) (by rw [← Nat.pow_add]; exact Nat.pow_lt_pow_right (by decide) (by omega)) (by omega)
  have Z1 : (2 : Nat) ^ j1 ≠ 0 := Nat.ne_of_gt (Nat.two_pow_pos _)
  have Z2 : (2 : Nat) ^ j2 ≠ 0 := Nat.ne_of_gt (Nat.two_pow_pos _)
  have D9 : (2 : Nat) ^ j1 * 2 ^ j2 = 2 ^ (j1 + j2) := (Nat.pow_add 2 j1 j2).symm
  refine (rmulX_ s1 s2 a1 (2 ^ j1) a2 (2 ^ j2) p1 q1 p2 q2 c1 d1 c2 d2 w r1 t1 r2 t2 r3 t3 r4 t4 L1 L3 L2 L4 Z1 Z2 _ _ rfl rfl X3 X5).mono ?_
  rintro e w' ⟨vn, vd, a', b', ng, rfl, u1, u2, ⟨u3, u4⟩, g⟩
  rw [D9] at u3
  have hX : a1 * a2 * 2 ^ (E + E) = (V1 * V2).natAbs * 2 ^ (j1 + j2) := by
    rw [Int.natAbs_mul, ← f1.2.2, ← f2.2.2, show a1 * 2 ^ (E - j1) * (a2 * 2 ^ (E - j2)) = a1 * a2 * (2 ^ (E - j1) * 2 ^ (E - j2)) from Nat.mul_mul_mul_comm _ _ _ _, ← Nat.pow_add, Nat.mul_assoc (a1 * a2) (2 ^ (E - j1 + (E - j2))), ← Nat.pow_add]; congr 2; omega
  obtain ⟨j, rfl, u5⟩ := dy_frac _ (j1 + j2) (E + E) _ a' b' u3 hX
  obtain ⟨p3, c3, rfl, -, -⟩ := u1.arr
  obtain ⟨q3, d3, rfl, -, -⟩ := u2.arr
  refine ⟨ng, p3, _, c3, q3, _, d3, rfl, ⟨a', j, u1, u2, u5, fun h => ?_⟩, g⟩
  have hv1 : V1 ≠ 0 := fun z => h (by rw [z, Int.zero_mul])
  have hv2 : V2 ≠ 0 := fun z => h (by rw [z, Int.mul_zero])
  rw [u4 (fun z => ?_), g1 hv1, g2 hv2]
  · by_cases y1 : V1 < 0
    · by_cases y2 : V2 < 0
      · have := Int.mul_pos_of_neg_of_neg y1 y2
        rw [decide_eq_true y1, decide_eq_true y2, decide_eq_false (by omega)]; rfl
      · have := Int.mul_neg_of_neg_of_pos y1 (show 0 < V2 by omega)
        rw [decide_eq_true y1, decide_eq_false y2, decide_eq_true this]; rfl
    · by_cases y2 : V2 < 0
      · have := Int.mul_neg_of_pos_of_neg (show 0 < V1 by omega) y2
        rw [decide_eq_false y1, decide_eq_true y2, decide_eq_true this]; rfl
      · have := Int.mul_pos (show 0 < V1 by omega) (show 0 < V2 by omega)
        rw [decide_eq_false y1, decide_eq_false y2, decide_eq_false (by omega)]; rfl
  · rcases Nat.mul_eq_zero.1 z with q | q
    · have := f1.2.2; rw [q, Nat.zero_mul] at this; omega
    · have := f2.2.2; rw [q, Nat.zero_mul] at this; omega
end Go.Proofs.YteedfmghgkmofaaGreatDoor
namespace Go.Proofs.YteedfmghgkmofaaGreatDoor
open Go.RowKit
set_option maxRecDepth 20000 in
set_option maxHeartbeats 400000 in
theorem fin4_ (X : Nat) (hX : X < 18446744073709551616) (w : World) : Calls Tryz.prog 63 #[.int .u64 (X : Int)] w fun e w' => e = .returned (.bool (decide (X % 9223372036854775808 < 9218868437227405312))) ∧ w' = w := by
  have f1 : (X : Int) / 4503599627370496 = ((X / 4503599627370496 : Nat) : Int) := by omega
  have f2 : bits .and .u64 ((X / 4503599627370496 : Nat) : Int) 2047 = ((X / 4503599627370496 % 2048 : Nat) : Int) := by
    have h := bits_and_u64_nat (X / 4503599627370496) 2047 (by omega) (by decide)
    have e : (X / 4503599627370496) &&& 2047 = X / 4503599627370496 % 2048 := Nat.and_two_pow_sub_one_eq_mod _ 11
    rw [e] at h
    exact h
  have f3 : ((((X / 4503599627370496 % 2048 : Nat) : Int)) != 2047) = decide (X % 9223372036854775808 < 9218868437227405312) := by
    rw [Bool.eq_iff_iff, bne_iff_ne, decide_eq_true_eq]; omega
  generalize ((X / 4503599627370496 % 2048 : Nat) : Int) = Y at *
  generalize decide (X % 9223372036854775808 < 9218868437227405312) = V at *
  generalize ((X / 4503599627370496 : Nat) : Int) = Z at *
  clear hX
  go_enter Tryz.func63, Tryz.ntmps63
  go_wp2
  exact bodyPost_ret (v := .bool V) (by simp [results, Tryz.results63, go_sem] <;> simpa using f3) rfl ⟨rfl, rfl⟩
end Go.Proofs.YteedfmghgkmofaaGreatDoor
namespace Go.Proofs.YteedfmghgkmofaaGreatDoor
open Go.RowKit
set_option linter.unusedVariables false
theorem Own.blk {w : World} {base : Nat} {p : Option Addr} {l c : Nat} {xs : List Int} (h : Own w base (.slice p l c) xs) : ∀ a, p = some a → base ≤ a.block ∧ a.block < w.heap.size := by
  intro a ha
  rcases h.2 with ⟨h1, -⟩ | ⟨g, cap, cur, h1, h2, h3, -⟩
  · simp at h1; rw [h1.1] at ha; cases ha
  · simp at h1
    rw [h1.1] at ha
    obtain rfl := Option.some.inj ha
    refine ⟨h2, ?_⟩
    exact lt_of_block h3
theorem Dy.nbNew {base : Nat} {w : World} {s1 : Bool} {p1 : Option Addr} {l1 c1 : Nat} {q1 : Option Addr} {k1 d1 : Nat} {V : Int} {E : Nat} (h : Dy base w s1 p1 l1 c1 q1 k1 d1 V E) {b : Nat} (hb : w.heap.size ≤ b) : NB p1 q1 b := by
  obtain ⟨x, y, h1, h2, -⟩ := h
  exact ⟨fun a ha => by have := (h1.blk a ha).2; omega, fun a ha => by have := (h2.blk a ha).2; omega⟩
theorem Dy.nbLow {base : Nat} {w : World} {s1 : Bool} {p1 : Option Addr} {l1 c1 : Nat} {q1 : Option Addr} {k1 d1 : Nat} {V : Int} {E : Nat} (h : Dy base w s1 p1 l1 c1 q1 k1 d1 V E) {b : Nat} (hb : b < base) : NB p1 q1 b := by
  obtain ⟨x, y, h1, h2, -⟩ := h
  exact ⟨fun a ha => by have := (h1.blk a ha).1; omega, fun a ha => by have := (h2.blk a ha).1; omega⟩
end Go.Proofs.YteedfmghgkmofaaGreatDoor
namespace Go.Proofs.YteedfmghgkmofaaGreatDoor
open Go.RowKit
theorem dig_zero6 : dig 0 = [] := by decide +kernel
theorem dig_one6 : dig 1 = [1] := by decide +kernel
set_option maxRecDepth 20000 in
set_option maxHeartbeats 1000000 in
theorem int0X_ (E9 : Nat) (w : World) : Calls Tryz.prog 36 #[.int .i64 0] w fun e w' => ∃ (s : Bool) (p : Option Addr) (l c : Nat) (q : Option Addr) (k d : Nat), e = .returned (.agg #[.bool s, .slice p l c, .slice q k d]) ∧ Dy w.heap.size w' s p l c q k d 0 E9 ∧ Kp w w' := by
  obtain ⟨B, hB⟩ : ∃ B, B = w.heap.size := ⟨_, rfl⟩
  obtain ⟨w0, hw0⟩ : ∃ w0, w0 = w.alloc (.cells #[.bool false, .slice none 0 0, .slice none 0 0] 43) := ⟨_, rfl⟩
  have kw : Kp w w0 := by rw [hw0]; exact (Kp.refl w).alloc _
  have r0 : w0.cell? ⟨B, 0, none⟩ = some (.bool false) := by rw [hw0, hB]; simp [go_sem]
  have r1 : w0.cell? ⟨B, 1, none⟩ = some (.slice none 0 0) := by rw [hw0, hB]; simp [go_sem]
  have r2 : w0.cell? ⟨B, 2, none⟩ = some (.slice none 0 0) := by rw [hw0, hB]; simp [go_sem]
  have f0 : w0.frozen? ⟨B, 0, none⟩ = false := by rw [hw0, hB]; simp [go_sem]
  have f1 : w0.frozen? ⟨B, 1, none⟩ = false := by rw [hw0, hB]; simp [go_sem]
  have f2 : w0.frozen? ⟨B, 2, none⟩ = false := by rw [hw0, hB]; simp [go_sem]
  have hlt := cell_lt r0
  have hs := rsmall_ 0 (by decide) w0
  have HW : Hid (w0 = w.alloc (.cells #[.bool false, .slice none 0 0, .slice none 0 0] 43) ∧ B = w.heap.size ∧ Kp w w0) := ⟨hw0, hB, kw⟩
  clear hw0 hB kw
  go_enter Tryz.func36, Tryz.ntmps36
  go_wp2_with fail
  rw [← HW.out.2.1]
  try rw [← HW.out.1]
  refine hs.mono ?_; rintro e w1 ⟨v, rfl, ho, k1⟩
  obtain ⟨pv, cv, rfl, hav, hcv⟩ := ho.arr
  obtain ⟨L, hL⟩ : ∃ L, L = (dig 0).length := ⟨_, rfl⟩
  rw [← hL]
  obtain ⟨g4, hg4⟩ : ∃ g4, g4 = w1.heap.size := ⟨_, rfl⟩
  obtain ⟨w4, hw4⟩ : ∃ w4, w4 = w1.alloc (.cells #[.int .u32 1] 100) := ⟨_, rfl⟩
  have k4 : Kp w1 w4 := by rw [hw4]; exact (Kp.refl _).alloc _
  have ar4 : Arr w4 (some ⟨g4, 0, none⟩) (dig 1) := by
    have h := (row1 w1 1).all rfl
    rw [← hw4, ← hg4] at h
    rw [dig_one6]
    exact h
  have h := fracX_ false (.slice pv (dig 0).length cv) (.slice (some ⟨g4, 0, none⟩) (dig 1).length 1) (dig 0) (dig 1) 0 w4 ⟨pv, cv, rfl, hav.grown k4, hcv⟩ ⟨some ⟨g4, 0, none⟩, 1, rfl, ar4, by rw [dig_one6]; decide⟩ (Wd_dig _) (Wd_dig _) (by rw [dig_zero6]; decide) (by rw [dig_one6]; decide) (by rw [val_dig]; decide) (by decide)
  rw [val_dig, val_dig] at h
  rw [show (dig 1).length = 1 from by rw [dig_one6]; rfl] at h
  rw [← hL] at h
  have k04 := k1.trans k4
  have HG : Hid (g4 = w1.heap.size ∧ w4 = w1.alloc (.cells #[.int .u32 1] 100)) := ⟨hg4, hw4⟩
  replace r0 := kkeep k04 r0
  replace r1 := kkeep k04 r1
  replace r2 := kkeep k04 r2
  replace f0 := (kfro k04 hlt).trans f0
  replace f1 := (kfro k04 hlt).trans f1
  replace f2 := (kfro k04 hlt).trans f2
  have HK : Hid (Kp w0 w4 ∧ B < w0.heap.size) := ⟨k04, hlt⟩
  have hlt4 := cell_lt r0
  clear hs ho hav hcv hL hg4 hw4 k4 ar4 k1 k04 hlt
  go_wp2_with fail
  rw [← HG.out.1, ← HG.out.2]
  refine h.mono ?_; rintro e w5 ⟨vn, vd, a', b', ng, rfl, o1, o2, ff, k5⟩
  obtain ⟨pn, cn, rfl, an, ln⟩ := o1.arr
  obtain ⟨pd, cd, rfl, ad, ld⟩ := o2.arr
  replace r0 := kkeep k5 r0
  replace r1 := kkeep k5 r1
  replace r2 := kkeep k5 r2
  replace f0 := (kfro k5 hlt4).trans f0
  replace f1 := (kfro k5 hlt4).trans f1
  replace f2 := (kfro k5 hlt4).trans f2
  have z1 : a' = 0 ∧ b' = 1 := ff.1.2.1 rfl
  have hp : Dy w4.heap.size w5 ng pn (dig a').length cn pd (dig b').length cd 0 E9 :=
    ⟨a', 0, o1, by rw [z1.2] at o2 ⊢; exact o2, ⟨Nat.zero_le _, Or.inr rfl, by rw [z1.1]; simp⟩, fun h => absurd rfl h⟩
  have hq := (((hp.set (x := ⟨B, 0, none⟩) hlt4 (.bool ng)).set (x := ⟨B, 1, none⟩) hlt4 (.slice pn (dig a').length cn)).set (x := ⟨B, 2, none⟩) hlt4 (.slice pd (dig b').length cd)).mono (b2 := w.heap.size) (by have h1 := Below.size HW.out.2.2; have h2 := Below.size HK.out.1; omega)
  have hkw : Kp w (((w5.setCell ⟨B, 0, none⟩ (.bool ng)).setCell ⟨B, 1, none⟩ (.slice pn (dig a').length cn)).setCell ⟨B, 2, none⟩ (.slice pd (dig b').length cd)) := by
    have hB := HW.out.2.1
    exact ((((HW.out.2.2.trans HK.out.1).trans k5).setCell (by rw [hB]; exact Nat.le_refl _) _).setCell (by rw [hB]; exact Nat.le_refl _) _).setCell (by rw [hB]; exact Nat.le_refl _) _
  generalize (dig a').length = La at hq hkw ⊢
  generalize (dig b').length = Lb at hq hkw ⊢
  have HO : Hid (_ ∧ _) := ⟨hq, hkw⟩
  clear h hp hq hkw o1 o2 ff z1 k5 an ln ad ld hlt4 HG
  go_wp2
  exact bodyPost_ret (v := .agg #[.bool ng, .slice pn La cn, .slice pd Lb cd]) (by simp [results, Tryz.results36, go_sem, r0, r1, r2]) rfl ⟨ng, pn, La, cn, pd, Lb, cd, rfl, HO.out.1, HO.out.2⟩
end Go.Proofs.YteedfmghgkmofaaGreatDoor
namespace Go.Proofs.YteedfmghgkmofaaGreatDoor
open Go.RowKit
theorem rS_lt (p A B : Nat) (hB : 0 < B) (hp : 0 < p) : rS p A B < 2 ^ p ∧ (rE p A B = 0 ∨ 2 ^ (p - 1) ≤ rS p A B) := by
  obtain ⟨h1, h2⟩ := rE_spec p A B hB hp
  have hq : 0 < B * 2 ^ rE p A B := Nat.mul_pos hB (Nat.two_pow_pos _)
  unfold rS
  refine ⟨?_, ?_⟩
  · rw [Nat.div_lt_iff_lt_mul hq, Nat.mul_comm (2 ^ p), Nat.mul_assoc, ← Nat.pow_add]
    exact h1
  · rcases h2 with h2 | h2
    · exact Or.inl h2
    · by_cases c : rE p A B = 0
      · exact Or.inl c
      · right
        rw [Nat.le_div_iff_mul_le hq, Nat.mul_comm (2 ^ (p - 1)), Nat.mul_assoc, ← Nat.pow_add, show rE p A B + (p - 1) = rE p A B + p - 1 from by omega]
        exact h2
/-- the place of a signed ratio V c1 by c2, rounded -/
def gpl (p T G I : Nat) (d : Int) (c1 c2 : Nat) (V : Int) : Int := if V = 0 then 0 else (if V < 0 then -((finU p T G I (dirN true d) (rU (dirN true d) p (V.natAbs * c1) c2) : Nat) : Int) else ((finU p T G I (dirN false d) (rU (dirN false d) p (V.natAbs * c1) c2) : Nat) : Int))
end Go.Proofs.YteedfmghgkmofaaGreatDoor
namespace Go.Proofs.YteedfmghgkmofaaGreatDoor
open Go.RowKit
/-- the rung of S of the places 2^E: S of no more than p bits, or 2^p -/
theorem rgU_place (p S E : Nat) (hp : 0 < p) (hS : S ≤ 2 ^ p) (hE : E = 0 ∨ 2 ^ (p - 1) ≤ S) : rgU p (S * 2 ^ E) = E * 2 ^ (p - 1) + S := by
  have ep : (2 : Nat) ^ p = 2 * 2 ^ (p - 1) := by rw [show p = p - 1 + 1 from by omega, Nat.pow_succ, Nat.add_sub_cancel]; omega
  have pp := Nat.two_pow_pos (p - 1)
  have full : ∀ X x : Nat, 2 ^ (p - 1) ≤ X → X < 2 ^ p → rgU p (X * 2 ^ x) = x * 2 ^ (p - 1) + X := by
    intro X x h1 h2
    have b1 : blen X ≤ p := (blen_le_iff X p).2 h2
    have b2 : ¬ blen X ≤ p - 1 := fun h => by have := (blen_le_iff X (p - 1)).1 h; omega
    have b3 : p - blen X = 0 := by omega
    rw [rgU_mul p X x 0 (by omega) (by rw [b3, Nat.zero_min]) b1, Nat.sub_zero, Nat.pow_zero, Nat.mul_one]
  by_cases c : S = 2 ^ p
  · have e : S * 2 ^ E = 2 ^ (p - 1) * 2 ^ (E + 1) := by
      rw [c, ep, Nat.pow_succ]; ac_rfl
    rw [e, full _ _ (Nat.le_refl _) (by omega), c, ep, Nat.add_mul, Nat.one_mul, Nat.two_mul]
    omega
  · have hlt : S < 2 ^ p := by omega
    rcases hE with h | h
    · rw [h, Nat.pow_zero, Nat.mul_one, Nat.zero_mul, Nat.zero_add]
      by_cases z : S = 0
      · rw [z, rgU_zero]
      · have h1 := rgU_mul p S 0 0 z (by omega) ((blen_le_iff S p).2 hlt)
        rw [Nat.pow_zero, Nat.mul_one, Nat.sub_zero, Nat.zero_mul, Nat.zero_add] at h1
        exact h1
    · exact full S E h hlt
/-- lo, hi and ne lie about A by B as closely as they can (v: the number at a place) -/
def TU (I : Nat) (v : Nat → Nat) (A B lo hi ne : Nat) : Prop := (lo = hi ∧ ne = lo ∧ lo < I ∧ v lo * B = A) ∨ (hi = lo + 1 ∧ lo < I ∧ v lo * B < A ∧ (hi < I → A < v hi * B) ∧ ((2 * A < (v lo + v hi) * B ∧ ne = lo) ∨ ((v lo + v hi) * B < 2 * A ∧ ne = hi) ∨ (2 * A = (v lo + v hi) * B ∧ (ne = lo ∨ ne = hi) ∧ ne % 2 = 0)))
theorem tightU (p T G I : Nat) (v : Nat → Nat) (hv : ∀ E S : Nat, S ≤ 2 ^ p → (E = 0 ∨ 2 ^ (p - 1) ≤ S) → v (E * 2 ^ (p - 1) + S) = S * 2 ^ E) (A B : Nat) (hB : 0 < B) (hp : 2 ≤ p) (hT : p ≤ T) (hG : (T - p + 2) * 2 ^ (p - 1) = G + 1) (hI : G + 1 = I) :
    TU I v A B (finU p T G I (-1) (rU (-1) p A B)) (finU p T G I 1 (rU 1 p A B)) (finU p T G I 0 (rU 0 p A B)) := by
  obtain ⟨s1, s2⟩ := rS_lt p A B hB (by omega)
  have ep : (2 : Nat) ^ p = 2 * 2 ^ (p - 1) := by rw [show p = p - 1 + 1 from by omega, Nat.pow_succ, Nat.add_sub_cancel]; omega
  have pp := Nat.two_pow_pos (p - 1)
  have hw : 0 < B * 2 ^ rE p A B := Nat.mul_pos hB (Nat.two_pow_pos _)
  have d1 := Nat.div_add_mod A (B * 2 ^ rE p A B)
  have dr := Nat.mod_lt A hw
  have q1 : A / (B * 2 ^ rE p A B) = rS p A B := rfl
  have q3 : A % (B * 2 ^ rE p A B) = rR p A B := rfl
  rw [q1, q3] at d1
  rw [q3] at dr
  have hGp : (T - p) * 2 ^ (p - 1) + (2 ^ p - 1) = G := by
    rw [Nat.add_mul] at hG; omega
  unfold rU
  generalize rS p A B = S at *
  generalize rR p A B = R at *
  generalize rE p A B = E at *
  clear q1 q3
  by_cases ct : E + p ≤ T
  · have fin : ∀ (d : Int) (u : Bool), (d = -1 → u = false) → finU p T G I d ((S + u.toNat) * 2 ^ E) = E * 2 ^ (p - 1) + (S + u.toNat) := by
      intro d u hd
      have hS1 : S + u.toNat ≤ 2 ^ p := by cases u <;> simp <;> omega
      have hE1 : E = 0 ∨ 2 ^ (p - 1) ≤ S + u.toNat := by rcases s2 with h | h; exact Or.inl h; exact Or.inr (by omega)
      unfold finU
      by_cases cb : blen ((S + u.toNat) * 2 ^ E) ≤ T
      · rw [if_pos cb]
        exact rgU_place p _ E (by omega) hS1 hE1
      · rw [if_neg cb]
        have hge : 2 ^ T ≤ (S + u.toNat) * 2 ^ E := by
          rcases Nat.lt_or_ge ((S + u.toNat) * 2 ^ E) (2 ^ T) with h | h
          · exact absurd ((blen_le_iff _ T).2 h) cb
          · exact h
        have hle : (2 : Nat) ^ p * 2 ^ E ≤ 2 ^ T := by rw [← Nat.pow_add]; exact Nat.pow_le_pow_right (by decide) (by omega)
        have hPE := Nat.two_pow_pos E
        have hSe : S + u.toNat = 2 ^ p := by
          rcases Nat.lt_or_ge (S + u.toNat) (2 ^ p) with h | h
          · have := Nat.mul_lt_mul_of_pos_right h hPE
            omega
          · omega
        have hu : u = true := by cases u <;> simp at hSe ⊢; omega
        have hdn : d ≠ -1 := fun h => by rw [hd h] at hu; cases hu
        rw [if_neg hdn, hSe]
        have hET : E = T - p := by
          rcases Nat.lt_or_ge (E + p) T with h | h
          · have : (2 : Nat) ^ (p + E) < 2 ^ T := Nat.pow_lt_pow_right (by decide) (by omega)
            rw [hSe, ← Nat.pow_add] at hge
            omega
          · omega
        rw [hET]; omega
    have up1 : upw (-1) S R (B * 2 ^ E) = false := rfl
    have up2 : upw 1 S R (B * 2 ^ E) = decide (0 < R) := rfl
    have up3 : upw 0 S R (B * 2 ^ E) = (decide (B * 2 ^ E < 2 * R) || (decide (B * 2 ^ E = 2 * R) && decide (S % 2 = 1))) := rfl
    rw [fin (-1) _ (fun _ => up1), fin 1 _ (fun h => absurd h (by decide)), fin 0 _ (fun h => absurd h (by decide)), up1, up2, up3]
    have hlo : E * 2 ^ (p - 1) + S < I := by
      have : E * 2 ^ (p - 1) ≤ (T - p) * 2 ^ (p - 1) := Nat.mul_le_mul_right _ (by omega)
      omega
    have v1 := hv E S (by omega) s2
    have v2 := hv E (S + 1) (by omega) (by rcases s2 with h | h; exact Or.inl h; exact Or.inr (by omega))
    have w1 : v (E * 2 ^ (p - 1) + S) * B = B * 2 ^ E * S := by rw [v1]; ac_rfl
    have w2 : v (E * 2 ^ (p - 1) + (S + 1)) * B = B * 2 ^ E * S + B * 2 ^ E := by rw [v2, ← Nat.mul_succ]; ac_rfl
    have ev : E * 2 ^ (p - 1) % 2 = 0 := by
      rw [show p - 1 = p - 2 + 1 from by omega, Nat.pow_succ, ← Nat.mul_assoc]; exact Nat.mul_mod_left _ _
    generalize E * 2 ^ (p - 1) = Z at *
    generalize B * 2 ^ E = W at *
    generalize W * S = WS at *
    have t0 : false.toNat = 0 := rfl
    have t1 : true.toNat = 1 := rfl
    by_cases cR : R = 0
    · left
      rw [decide_eq_false (show ¬ 0 < R by omega), decide_eq_false (show ¬ W < 2 * R by omega), decide_eq_false (show ¬ W = 2 * R by omega), Bool.false_and, Bool.or_false, t0, Nat.add_zero]
      exact ⟨rfl, rfl, hlo, by omega⟩
    · right
      rw [decide_eq_true (show 0 < R by omega), t0, t1, show S + 0 = S from rfl]
      refine ⟨by omega, hlo, by omega, fun _ => by omega, ?_⟩
      rw [Nat.add_mul, w1, w2]
      by_cases c1 : W < 2 * R
      · rw [decide_eq_true c1, Bool.true_or, t1]
        exact Or.inr (Or.inl ⟨by omega, rfl⟩)
      · rw [decide_eq_false c1, Bool.false_or]
        by_cases c2 : W = 2 * R
        · rw [decide_eq_true c2, Bool.true_and]
          refine Or.inr (Or.inr ⟨by omega, ?_⟩)
          by_cases c3 : S % 2 = 1
          · rw [decide_eq_true c3, t1]; exact ⟨Or.inr rfl, by omega⟩
          · rw [decide_eq_false c3, t0]; exact ⟨Or.inl rfl, by omega⟩
        · rw [decide_eq_false c2, Bool.false_and, t0]
          exact Or.inl ⟨by omega, rfl⟩
  · have hS0 : 2 ^ (p - 1) ≤ S := s2.resolve_left (by omega)
    have big : (2 : Nat) ^ T ≤ S * 2 ^ E := by
      have h1 : (2 : Nat) ^ (p - 1) * 2 ^ E ≤ S * 2 ^ E := Nat.mul_le_mul_right _ hS0
      rw [← Nat.pow_add] at h1
      exact Nat.le_trans (Nat.pow_le_pow_right (by decide) (by omega)) h1
    have nb : ∀ u : Bool, ¬ blen ((S + u.toNat) * 2 ^ E) ≤ T := fun u h => by
      have h2 := (blen_le_iff _ T).1 h
      have h3 : S * 2 ^ E ≤ (S + u.toNat) * 2 ^ E := Nat.mul_le_mul_right _ (by omega)
      omega
    have f1 : ∀ u : Bool, finU p T G I (-1) ((S + u.toNat) * 2 ^ E) = G := fun u => by unfold finU; rw [if_neg (nb u), if_pos rfl]
    have f2 : ∀ u : Bool, finU p T G I 1 ((S + u.toNat) * 2 ^ E) = I := fun u => by unfold finU; rw [if_neg (nb u), if_neg (by decide)]
    have f3 : ∀ u : Bool, finU p T G I 0 ((S + u.toNat) * 2 ^ E) = I := fun u => by unfold finU; rw [if_neg (nb u), if_neg (by decide)]
    rw [f1, f2, f3]
    right
    have v1 := hv (T - p) (2 ^ p - 1) (by omega) (Or.inr (by omega))
    have v2 := hv (T - p) (2 ^ p) (Nat.le_refl _) (Or.inr (by omega))
    rw [hGp] at v1
    rw [show (T - p) * 2 ^ (p - 1) + 2 ^ p = I from by omega, ← Nat.pow_add, show p + (T - p) = T from by omega] at v2
    have vl : v G < 2 ^ T := by
      rw [v1, show (2 : Nat) ^ T = 2 ^ p * 2 ^ (T - p) from by rw [← Nat.pow_add]; exact congrArg _ (by omega)]
      exact Nat.mul_lt_mul_of_pos_right (by omega) (Nat.two_pow_pos _)
    have hA : B * 2 ^ T ≤ A := by
      have h1 : B * 2 ^ T ≤ B * (S * 2 ^ E) := Nat.mul_le_mul_left _ big
      have h2 : B * (S * 2 ^ E) = B * 2 ^ E * S := by ac_rfl
      omega
    have h4 : v G * B < 2 ^ T * B := Nat.mul_lt_mul_of_pos_right vl hB
    rw [Nat.mul_comm B] at hA
    refine ⟨by omega, by omega, by omega, fun h => by omega, Or.inr (Or.inl ⟨?_, rfl⟩)⟩
    rw [Nat.add_mul, v2]
    omega
/-- the same with a sign: places and numbers -/
def TS (I : Nat) (v : Nat → Nat) (A B : Int) (lo hi ne : Int) : Prop := ∀ vs : Int → Int, (∀ z : Int, 0 ≤ z → vs z = (v z.natAbs : Int)) → (∀ z : Int, vs (-z) = - vs z) → (lo = hi ∧ ne = lo ∧ -(I : Int) < lo ∧ lo < I ∧ vs lo * B = A) ∨ (hi = lo + 1 ∧ -(I : Int) ≤ lo ∧ hi ≤ I ∧ (-(I : Int) < lo → vs lo * B < A) ∧ (hi < I → A < vs hi * B) ∧ ((2 * A < (vs lo + vs hi) * B ∧ ne = lo) ∨ ((vs lo + vs hi) * B < 2 * A ∧ ne = hi) ∨ (2 * A = (vs lo + vs hi) * B ∧ (ne = lo ∨ ne = hi) ∧ ne % 2 = 0)))
theorem TU.pos {I : Nat} {v : Nat → Nat} {A B lo hi ne : Nat} (h : TU I v A B lo hi ne) : TS I v (A : Int) (B : Int) (lo : Int) (hi : Int) (ne : Int) := by
  intro vs h1 h2
  have e1 : vs (lo : Int) = (v lo : Int) := by rw [h1 _ (by omega)]; rfl
  have e2 : vs (hi : Int) = (v hi : Int) := by rw [h1 _ (by omega)]; rfl
  rw [e1, e2]
  rcases h with ⟨a1, a2, a3, a4⟩ | ⟨a1, a2, a3, a4, a5⟩
  · left
    refine ⟨by omega, by omega, by omega, by omega, ?_⟩
    rw [← a4, Int.natCast_mul]
  · right
    have m1 : ((v lo * B : Nat) : Int) = (v lo : Int) * (B : Int) := Int.natCast_mul _ _
    have m2 : ((v hi * B : Nat) : Int) = (v hi : Int) * (B : Int) := Int.natCast_mul _ _
    rw [Nat.add_mul] at a5
    rw [Int.add_mul, ← m1, ← m2]
    generalize v lo * B = X at *
    generalize v hi * B = Y at *
    refine ⟨by omega, by omega, by omega, fun _ => by omega, fun h => ?_, ?_⟩
    · have := a4 (by omega); omega
    · omega
theorem TU.neg {I : Nat} {v : Nat → Nat} {A B lo hi ne : Nat} (h : TU I v A B lo hi ne) : TS I v (-(A : Int)) (B : Int) (-(hi : Int)) (-(lo : Int)) (-(ne : Int)) := by
  intro vs h1 h2
  have e1 : vs (-(lo : Int)) = -(v lo : Int) := by rw [h2, h1 _ (by omega)]; rfl
  have e2 : vs (-(hi : Int)) = -(v hi : Int) := by rw [h2, h1 _ (by omega)]; rfl
  rw [e1, e2]
  have m1 : ((v lo * B : Nat) : Int) = (v lo : Int) * (B : Int) := Int.natCast_mul _ _
  have m2 : ((v hi * B : Nat) : Int) = (v hi : Int) * (B : Int) := Int.natCast_mul _ _
  rcases h with ⟨a1, a2, a3, a4⟩ | ⟨a1, a2, a3, a4, a5⟩
  · left
    refine ⟨by omega, by omega, by omega, by omega, ?_⟩
    rw [Int.neg_mul, ← m2, ← a1, a4]
  · right
    rw [Nat.add_mul] at a5
    rw [Int.add_mul, Int.neg_mul, Int.neg_mul, ← m1, ← m2]
    generalize v lo * B = X at *
    generalize v hi * B = Y at *
    refine ⟨by omega, by omega, by omega, fun h => ?_, fun _ => by omega, ?_⟩
    · have := a4 (by omega); omega
    · omega
/-- Down, Up and Near of a signed ratio lie about it as closely as they can -/
theorem gpl_tight (p T G I : Nat) (v : Nat → Nat) (hv : ∀ E S : Nat, S ≤ 2 ^ p → (E = 0 ∨ 2 ^ (p - 1) ≤ S) → v (E * 2 ^ (p - 1) + S) = S * 2 ^ E) (c1 c2 : Nat) (hB : 0 < c2) (hp : 2 ≤ p) (hT : p ≤ T) (hG : (T - p + 2) * 2 ^ (p - 1) = G + 1) (hI : G + 1 = I) (V : Int) :
    TS I v (V * c1) (c2 : Int) (gpl p T G I (-1) c1 c2 V) (gpl p T G I 1 c1 c2 V) (gpl p T G I 0 c1 c2 V) := by
  have k := tightU p T G I v hv (V.natAbs * c1) c2 hB hp hT hG hI
  unfold gpl
  by_cases z : V = 0
  · rw [if_pos z, if_pos z, if_pos z]
    intro vs h1 h2
    have v0 := hv 0 0 (Nat.zero_le _) (Or.inl rfl)
    rw [Nat.zero_mul, Nat.zero_mul] at v0
    left
    refine ⟨rfl, rfl, by omega, by omega, ?_⟩
    rw [h1 0 (by omega), show (0 : Int).natAbs = 0 + 0 from rfl, v0, z]
    simp
  · rw [if_neg z, if_neg z, if_neg z]
    by_cases n : V < 0
    · rw [if_pos n, if_pos n, if_pos n]
      have e : V * (c1 : Int) = -((V.natAbs * c1 : Nat) : Int) := by
        rw [Int.natCast_mul, show (V.natAbs : Int) = -V from by omega, Int.neg_mul, Int.neg_neg]
      rw [e]
      exact k.neg
    · rw [if_neg n, if_neg n, if_neg n]
      have e : V * (c1 : Int) = ((V.natAbs * c1 : Nat) : Int) := by
        rw [Int.natCast_mul, show (V.natAbs : Int) = V from by omega]
      rw [e]
      exact k.pos
end Go.Proofs.YteedfmghgkmofaaGreatDoor
namespace Go.Proofs.YteedfmghgkmofaaGreatDoor
open Go.RowKit
set_option linter.unusedVariables false
set_option linter.unusedVariables false
/-- the pattern of a place -/
def pz (z : Int) : Nat := Fq.wD (decide (z < 0)) z.natAbs
def g53 (d : Int) (c1 c2 : Nat) (V : Int) : Int := gpl 53 2098 9218868437227405311 9218868437227405312 d c1 c2 V
theorem mdW_pz (s : Bool) (M : Nat) : mdW s M = pz (if s then -(M : Int) else M) := by
  unfold mdW pz Fq.wD
  by_cases z : M = 0
  · rw [if_pos z, z]; cases s <;> simp
  · rw [if_neg z]
    cases s
    · simp <;> omega
    · simp <;> omega
theorem rV_neg (d : Int) (A K : Nat) : rV d 53 A 1 (-(K : Int)) = rU d 53 (A * 1) (2 ^ K) := by
  unfold rV
  rw [show (-(K : Int)).toNat = 0 from by omega, show (- -(K : Int)).toNat = K from by omega, Nat.pow_zero, Nat.one_mul]
theorem fmaW_g (K : Nat) (hK : K = 1074) (d V : Int) : fmaW d V = pz (g53 d 1 (2 ^ K) V) := by
  unfold fmaW g53 gpl
  rw [show (-1074 : Int) = -(K : Int) from by omega]
  by_cases z : V = 0
  · rw [if_pos z, if_pos z]; rfl
  · rw [if_neg z, if_neg z, mdW_pz, rV_neg]
    by_cases n : V < 0
    · rw [if_pos n, decide_eq_true n]; rfl
    · rw [if_neg n, decide_eq_false n]; rfl
set_option linter.unusedVariables false
/-- the number at a place -/
def vZ (z : Int) : Int := Iv (decide (z < 0)) z.natAbs
theorem vZ_pos (z : Int) (h : 0 ≤ z) : vZ z = ((Fq.vV Ieee.double z.natAbs : Nat) : Int) := by
  unfold vZ Iv
  rw [decide_eq_false (show ¬ z < 0 by omega)]; rfl
theorem vV0X : Fq.vV Ieee.double 0 = 0 := by decide
theorem vZ_neg (z : Int) : vZ (-z) = -vZ z := by
  unfold vZ Iv
  rw [Int.natAbs_neg]
  by_cases z0 : z = 0
  · rw [z0]; simp [vV0X]
  · by_cases c : z < 0
    · rw [decide_eq_true c, decide_eq_false (show ¬ -z < 0 by omega)]; simp
    · rw [decide_eq_false c, decide_eq_true (show -z < 0 by omega)]; simp
theorem pz_val (z : Int) : pz z = if z < 0 then 9223372036854775808 + z.natAbs else z.natAbs := by
  unfold pz Fq.wD
  by_cases c : z < 0
  · rw [decide_eq_true c, if_pos c]; simp <;> omega
  · rw [decide_eq_false c, if_neg c]; simp <;> omega
theorem vV_place (E S : Nat) (h1 : S ≤ 2 ^ 53) (h2 : E = 0 ∨ 2 ^ (53 - 1) ≤ S) : Fq.vV Ieee.double (E * 2 ^ (53 - 1) + S) = S * 2 ^ E := by
  have hb : Ieee.double.binade = 4503599627370496 := by decide
  have p1 : (2 : Nat) ^ (53 - 1) = 4503599627370496 := by decide
  have p2 : (2 : Nat) ^ 53 = 9007199254740992 := by decide
  rw [p1] at h2 ⊢
  rw [p2] at h1
  unfold Fq.vV Fq.mM Fq.eE
  rw [hb]
  by_cases c : E * 4503599627370496 + S < 4503599627370496
  · have hE : E = 0 := by omega
    rw [if_pos c, if_pos c, hE]; simp
  · rw [if_neg c, if_neg c]
    by_cases c2 : S = 9007199254740992
    · rw [show (E * 4503599627370496 + S) / 4503599627370496 - 1 = E + 1 from by omega, show (E * 4503599627370496 + S) % 4503599627370496 = 0 from by omega, Nat.pow_succ, c2]
      generalize 2 ^ E = P
      omega
    · rw [show (E * 4503599627370496 + S) / 4503599627370496 - 1 = E from by omega, show 4503599627370496 + (E * 4503599627370496 + S) % 4503599627370496 = S from by omega]
theorem g53_tight (c1 c2 : Nat) (hc : 0 < c2) (V : Int) : TS 9218868437227405312 (Fq.vV Ieee.double) (V * c1) (c2 : Int) (g53 (-1) c1 c2 V) (g53 1 c1 c2 V) (g53 0 c1 c2 V) := gpl_tight 53 2098 9218868437227405311 9218868437227405312 (Fq.vV Ieee.double) vV_place c1 c2 hc (by decide) (by decide) (by decide) (by decide) V
theorem self_pz (x : Int) (hx : -9218868437227405312 ≤ x ∧ x ≤ 9218868437227405312) : (FloatKind.f64.format.order (pz x) (pz x) != some Ordering.eq) = false := by
  unfold pz
  rw [Fq.ordD _ _ _ _ (by omega) (by omega), Fq.cmp_eq rfl]; rfl
theorem ratW_g (K : Nat) (hK : K = 1074) (d V : Int) (N : Nat) (hN : 1 ≤ N) (hl : len32 V.natAbs ≤ 16384) (hl2 : len32 N ≤ 16384) : ratW d (decide (V < 0)) V.natAbs N (-2148) = pz (g53 d 1 (N * 2 ^ K) V) := by
  unfold ratW g53 gpl
  rw [if_neg (by omega), if_neg (by omega)]
  by_cases z : V = 0
  · rw [if_pos (by rw [z]; rfl), if_pos z]; rfl
  · rw [if_neg (by omega), if_neg z, mdW_pz]
    have e : ∀ dd : Int, rV dd 53 V.natAbs N (-2148 + 1074) = rU dd 53 (V.natAbs * 1) (N * 2 ^ K) := fun dd => by
      rw [show (-2148 + 1074 : Int) = -(K : Int) from by omega]
      unfold rV
      rw [show (-(K : Int)).toNat = 0 from by omega, show (- -(K : Int)).toNat = K from by omega, Nat.pow_zero]
    rw [e]
    by_cases n : V < 0
    · rw [if_pos n, decide_eq_true n]; rfl
    · rw [if_neg n, decide_eq_false n]; rfl
/-- L and H lie about V by C, as closely as they can -/
def Ab (V : Int) (C : Nat) (L H : Int) : Prop := (L = H ∧ -9218868437227405312 < L ∧ L < 9218868437227405312 ∧ vZ L * (C : Int) = V) ∨ (H = L + 1 ∧ -9218868437227405312 ≤ L ∧ H ≤ 9218868437227405312 ∧ (-9218868437227405312 < L → vZ L * (C : Int) < V) ∧ (H < 9218868437227405312 → V < vZ H * (C : Int)))
theorem ab_g (C : Nat) (hC : 0 < C) (V : Int) : Ab V C (g53 (-1) 1 C V) (g53 1 1 C V) := by
  have h := g53_tight 1 C hC V vZ vZ_pos vZ_neg
  rw [show V * ((1 : Nat) : Int) = V from Int.mul_one V] at h
  rcases h with ⟨h1, _, h3, h4, h5⟩ | ⟨h1, h2, h3, h4, h5, _⟩
  · exact Or.inl ⟨h1, by omega, by omega, h5⟩
  · exact Or.inr ⟨h1, by omega, by omega, fun h => h4 (by omega), fun h => h5 (by omega)⟩
end Go.Proofs.YteedfmghgkmofaaGreatDoor
namespace Go.Proofs.YteedfmghgkmofaaGreatDoor
open Go.RowKit
theorem cmI_scale (x y k : Int) (hk : 0 < k) : cmI (x * k) (y * k) = cmI x y := by
  unfold cmI
  have e1 : x * k < y * k ↔ x < y := ⟨fun h => Int.lt_of_mul_lt_mul_right h (Int.le_of_lt hk), fun h => Int.mul_lt_mul_of_pos_right h hk⟩
  have e2 : y * k < x * k ↔ y < x := ⟨fun h => Int.lt_of_mul_lt_mul_right h (Int.le_of_lt hk), fun h => Int.mul_lt_mul_of_pos_right h hk⟩
  simp only [e1, e2]
set_option linter.unusedVariables false
theorem frac_ratio (x D a b : Nat) (hD : D ≠ 0) (hF : FracOf x D 0 a b) : a * D = x * b := by
  have hb := hF.1
  by_cases c0 : x = 0
  · rw [hF.2.1.2 c0, c0, Nat.zero_mul, Nat.zero_mul]
  · have hfl : ∀ t : Nat, a * 2 ^ t / b = x * 2 ^ t / D := fun t => by
      have h := hF.2.2.1 (-1) (blen (a * 2 ^ t / b) + blen (x * 2 ^ t / D)) (t : Int) c0
      unfold rV at h
      rw [show ((t : Int)).toNat = t from by omega, show (-(t : Int)).toNat = 0 from by omega, show ((t : Int) + 0).toNat = t from by omega, show (-((t : Int) + 0)).toNat = 0 from by omega, Nat.pow_zero, Nat.mul_one, Nat.mul_one, rU_floor _ _ _ (by omega), rU_floor _ _ _ (by omega)] at h
      exact h
    obtain ⟨t, ht⟩ : ∃ t, b * D < 2 ^ t := ⟨b * D, Nat.lt_two_pow_self⟩
    have h := hfl t
    obtain ⟨f, hf⟩ : ∃ f, f = a * 2 ^ t / b := ⟨_, rfl⟩
    have f1 : f * b ≤ a * 2 ^ t := by rw [hf]; exact Nat.div_mul_le_self _ _
    have f2 : a * 2 ^ t < (f + 1) * b := by rw [hf]; exact Nat.lt_mul_of_div_lt (Nat.lt_succ_self _) (by omega)
    have f3 : f * D ≤ x * 2 ^ t := by rw [hf, h]; exact Nat.div_mul_le_self _ _
    have f4 : x * 2 ^ t < (f + 1) * D := by rw [hf, h]; exact Nat.lt_mul_of_div_lt (Nat.lt_succ_self _) (by omega)
    have g1 := Nat.mul_le_mul_right D f1
    have g2 := Nat.mul_lt_mul_of_pos_right f2 (show 0 < D by omega)
    have g3 := Nat.mul_le_mul_right b f3
    have g4 := Nat.mul_lt_mul_of_pos_right f4 (show 0 < b by omega)
    rw [show f * b * D = f * (b * D) from Nat.mul_assoc _ _ _, show a * 2 ^ t * D = a * D * 2 ^ t from Nat.mul_right_comm _ _ _] at g1
    rw [show (f + 1) * b * D = f * (b * D) + b * D from by rw [Nat.mul_assoc, Nat.add_mul, Nat.one_mul], show a * 2 ^ t * D = a * D * 2 ^ t from Nat.mul_right_comm _ _ _] at g2
    rw [show f * D * b = f * (b * D) from by rw [Nat.mul_assoc, Nat.mul_comm D b], show x * 2 ^ t * b = x * b * 2 ^ t from Nat.mul_right_comm _ _ _] at g3
    rw [show (f + 1) * D * b = f * (b * D) + b * D from by rw [Nat.mul_assoc, Nat.mul_comm D b, Nat.add_mul, Nat.one_mul], show x * 2 ^ t * b = x * b * 2 ^ t from Nat.mul_right_comm _ _ _] at g4
    rcases Nat.lt_trichotomy (a * D) (x * b) with c | c | c
    · exfalso
      have h5 := Nat.mul_le_mul_right (2 ^ t) (show a * D + 1 ≤ x * b from c)
      rw [Nat.add_mul, Nat.one_mul] at h5
      omega
    · exact c
    · exfalso
      have h5 := Nat.mul_le_mul_right (2 ^ t) (show x * b + 1 ≤ a * D from c)
      rw [Nat.add_mul, Nat.one_mul] at h5
      omega
set_option linter.unusedVariables false
/-- a ratio's parts tell V by C -/
def XF (s : Bool) (a b : Nat) (V : Int) (C N : Nat) : Prop := b ≠ 0 ∧ C ≠ 0 ∧ rvI s a * (C : Int) = V * (b : Int) ∧ blen a ≤ N ∧ blen b ≤ N
/-- a ratio that is V by C, with rows of its own from 'base' on, of no more than N bits -/
def XP (base : Nat) (w : World) (s : Bool) (p : Option Addr) (l c : Nat) (q : Option Addr) (k d : Nat) (V : Int) (C N : Nat) : Prop := ∃ a b, Own w base (.slice p l c) (dig a) ∧ Own w base (.slice q k d) (dig b) ∧ XF s a b V C N
theorem XP.kp {base : Nat} {w : World} {s : Bool} {p : Option Addr} {l c : Nat} {q : Option Addr} {k d : Nat} {V : Int} {C N : Nat} {w' : World} (h : XP base w s p l c q k d V C N) (g : Kp w w') : XP base w' s p l c q k d V C N := by
  obtain ⟨a, b, h1, h2, h3⟩ := h
  exact ⟨a, b, h1.kp g, h2.kp g, h3⟩
theorem XP.mono {base : Nat} {w : World} {s : Bool} {p : Option Addr} {l c : Nat} {q : Option Addr} {k d : Nat} {V : Int} {C N : Nat} {base' : Nat} (h : XP base w s p l c q k d V C N) (g : base' ≤ base) : XP base' w s p l c q k d V C N := by
  obtain ⟨a, b, h1, h2, h3⟩ := h
  exact ⟨a, b, h1.mono g, h2.mono g, h3⟩
theorem XP.set {base : Nat} {w : World} {s : Bool} {p : Option Addr} {l c : Nat} {q : Option Addr} {k d : Nat} {V : Int} {C N : Nat} (h : XP base w s p l c q k d V C N) {x : Addr} (hx : x.block < base) (u : Value) : XP base (w.setCell x u) s p l c q k d V C N := by
  obtain ⟨a, b, h1, h2, h3⟩ := h
  exact ⟨a, b, h1.setOther hx u, h2.setOther hx u, h3⟩
theorem rvI_mul (s : Bool) (a b : Nat) : rvI s (a * b) = rvI s a * (b : Int) := by
  unfold rvI; cases s
  · rw [if_neg (by decide), if_neg (by decide), Int.natCast_mul]
  · rw [if_pos rfl, if_pos rfl, Int.natCast_mul, Int.neg_mul]
theorem frac_x (x D a' b' : Nat) (ng neg : Bool) (hD : D ≠ 0) (hF : FracOf x D 0 a' b') (hn : x ≠ 0 → ng = neg) : rvI ng a' * (D : Int) = rvI neg x * (b' : Int) := by
  have h := frac_ratio x D a' b' hD hF
  by_cases z : x = 0
  · have z' := hF.2.1.2 z
    rw [z, z']; unfold rvI; simp
  · rw [hn z, ← rvI_mul, ← rvI_mul, h]
theorem blen_mulX (u v N1 N2 : Nat) (h1 : blen u ≤ N1) (h2 : blen v ≤ N2) : blen (u * v) ≤ N1 + N2 := by
  rw [blen_le_iff, Nat.pow_add]
  exact Nat.mul_lt_mul'' ((blen_le_iff u N1).1 h1) ((blen_le_iff v N2).1 h2)
/-- a quotient: its denominator is a number that is not 0, told without its sign -/
theorem XF.quo (s s' ng : Bool) (a1 a2 b1 b2 a' b' : Nat) (V : Int) (U : Nat) (t : Bool) (C C' N N' M : Nat) (h1 : XF s a1 a2 V C N) (h2 : XF s' b1 b2 (rvI t U) C' N') (hU : U ≠ 0) (hb : b' ≠ 0) (h : rvI ng a' * ((a2 : Int) * (b1 : Int)) = rvI (s ^^ s') (a1 * b2) * (b' : Int)) (m1 : blen a' ≤ M) (m2 : blen b' ≤ M) : XF ng a' b' (rvI t 1 * V * (C' : Int)) (C * U) M := by
  obtain ⟨za, zc, i1, -, -⟩ := h1
  obtain ⟨zb, zc', i2, -, -⟩ := h2
  have hU' : (0 : Int) < (U : Int) := by omega
  have hC' : (0 : Int) < (C' : Int) := by omega
  have hb2 : (0 : Int) < (b2 : Int) := by omega
  have q1 : (0 : Int) < (U : Int) * (b2 : Int) := Int.mul_pos hU' hb2
  have key : s' = t ∧ (b1 : Int) * (C' : Int) = (U : Int) * (b2 : Int) := by
    have q2 : (0 : Int) ≤ (b1 : Int) * (C' : Int) := Int.mul_nonneg (by omega) (by omega)
    unfold rvI at i2
    cases s' <;> cases t <;> simp [Int.neg_mul] at i2 ⊢ <;> omega
  obtain ⟨rfl, i3⟩ := key
  have zb1 : (0 : Int) < (b1 : Int) := by
    rcases Nat.eq_zero_or_pos b1 with z | z
    · rw [z] at i3; simp at i3; omega
    · omega
  refine ⟨hb, Nat.mul_ne_zero zc hU, ?_, m1, m2⟩
  have pn : (a2 : Int) * (b1 : Int) ≠ 0 := by have : (0 : Int) < (a2 : Int) * (b1 : Int) := Int.mul_pos (by omega) (by omega); omega
  refine Int.eq_of_mul_eq_mul_right pn ?_
  refine Int.eq_of_mul_eq_mul_right (show (b2 : Int) ≠ 0 by omega) ?_
  rw [Int.natCast_mul]
  have e0 : rvI (s ^^ s') (a1 * b2) = rvI s' 1 * (rvI s a1 * (b2 : Int)) := by unfold rvI; cases s <;> cases s' <;> simp [Int.neg_mul]
  have e1 : rvI ng a' * ((C : Int) * (U : Int)) * ((a2 : Int) * (b1 : Int)) * (b2 : Int) = rvI ng a' * ((a2 : Int) * (b1 : Int)) * ((C : Int) * ((U : Int) * (b2 : Int))) := by ac_rfl
  rw [e1, h, ← i3, e0]
  have e2 : rvI s' 1 * (rvI s a1 * (b2 : Int)) * (b' : Int) * ((C : Int) * ((b1 : Int) * (C' : Int))) = (rvI s a1 * (C : Int)) * (rvI s' 1 * (b2 : Int) * (b' : Int) * (b1 : Int) * (C' : Int)) := by ac_rfl
  rw [e2, i1]; ac_rfl
end Go.Proofs.YteedfmghgkmofaaGreatDoor
namespace Go.Proofs.YteedfmghgkmofaaGreatDoor
open Go.RowKit
set_option maxRecDepth 20000 in
set_option maxHeartbeats 1000000 in
theorem rquoO_ (sa sb : Bool) (a1 a2 b1 b2 : Nat) (P1 P2 Q1 Q2 : Option Addr) (C1 C2 D1 D2 : Nat) (w : World) (h1 : Arr w P1 (dig a1)) (l1 : (dig a1).length ≤ C1) (h2 : Arr w P2 (dig a2)) (l2 : (dig a2).length ≤ C2) (h3 : Arr w Q1 (dig b1)) (l3 : (dig b1).length ≤ D1) (h4 : Arr w Q2 (dig b2)) (l4 : (dig b2).length ≤ D2) (k1 : len32 a1 ≤ 4000) (k2 : len32 a2 ≤ 4000) (k3 : len32 b1 ≤ 4000) (k4 : len32 b2 ≤ 4000) (z2 : a2 ≠ 0) (z4 : b1 ≠ 0) (X D : Nat) (hX : X = a1 * b2) (hD : D = a2 * b1) (lX : len32 X ≤ 16000) (lD : len32 D ≤ 16000) :
    Calls Tryz.prog 43 #[.agg #[.bool sa, .slice P1 (dig a1).length C1, .slice P2 (dig a2).length C2], .agg #[.bool sb, .slice Q1 (dig b1).length D1, .slice Q2 (dig b2).length D2]] w fun e w' => ∃ (vn vd : Value) (a' b' : Nat) (ng : Bool), e = .returned (.agg #[.bool ng, vn, vd]) ∧ Own w' w.heap.size vn (dig a') ∧ Own w' w.heap.size vd (dig b') ∧ (FracOf X D 0 a' b' ∧ (X ≠ 0 → ng = (sa ^^ sb))) ∧ Kp w w' := by
  have hz : D ≠ 0 := by rw [hD]; exact Nat.mul_ne_zero z2 z4
  obtain ⟨E1, g1⟩ : ∃ E, E = (dig a1).length := ⟨_, rfl⟩
  obtain ⟨E2, g2⟩ : ∃ E, E = (dig a2).length := ⟨_, rfl⟩
  obtain ⟨E3, g3⟩ : ∃ E, E = (dig b1).length := ⟨_, rfl⟩
  obtain ⟨E4, g4⟩ : ∃ E, E = (dig b2).length := ⟨_, rfl⟩
  rw [← g1, ← g2, ← g3, ← g4]
  obtain ⟨B, hB⟩ : ∃ B, B = w.heap.size := ⟨_, rfl⟩
  obtain ⟨wA, hwA⟩ : ∃ wA, wA = w.alloc (.cells #[.bool sa, .slice P1 E1 C1, .slice P2 E2 C2] 43) := ⟨_, rfl⟩
  obtain ⟨wB, hwB⟩ : ∃ wB, wB = wA.alloc (.cells #[.bool sb, .slice Q1 E3 D1, .slice Q2 E4 D2] 43) := ⟨_, rfl⟩
  obtain ⟨w0, hw0⟩ : ∃ w0, w0 = wB.alloc (.cells #[.bool false, .slice none 0 0, .slice none 0 0] 43) := ⟨_, rfl⟩
  have sA : wA.heap.size = B + 1 := by rw [hwA, hB]; simp
  have sB : wB.heap.size = B + 2 := by rw [hwB]; simp [sA]
  have kAB : Kp wA wB := by rw [hwB]; exact (Kp.refl wA).alloc _
  have x0 : wB.cell? ⟨B, 0, none⟩ = some (.bool sa) := kkeep kAB (by rw [hwA, hB]; simp [go_sem])
  have x1 : wB.cell? ⟨B, 1, none⟩ = some (.slice P1 E1 C1) := kkeep kAB (by rw [hwA, hB]; simp [go_sem])
  have x2 : wB.cell? ⟨B, 2, none⟩ = some (.slice P2 E2 C2) := kkeep kAB (by rw [hwA, hB]; simp [go_sem])
  have y0 : wB.cell? ⟨B + 1, 0, none⟩ = some (.bool sb) := by rw [hwB, ← sA]; simp [go_sem]
  have y1 : wB.cell? ⟨B + 1, 1, none⟩ = some (.slice Q1 E3 D1) := by rw [hwB, ← sA]; simp [go_sem]
  have y2 : wB.cell? ⟨B + 1, 2, none⟩ = some (.slice Q2 E4 D2) := by rw [hwB, ← sA]; simp [go_sem]
  have r0 : w0.cell? ⟨B + 2, 0, none⟩ = some (.bool false) := by rw [hw0, ← sB]; simp [go_sem]
  have r1 : w0.cell? ⟨B + 2, 1, none⟩ = some (.slice none 0 0) := by rw [hw0, ← sB]; simp [go_sem]
  have r2 : w0.cell? ⟨B + 2, 2, none⟩ = some (.slice none 0 0) := by rw [hw0, ← sB]; simp [go_sem]
  have f0 : w0.frozen? ⟨B + 2, 0, none⟩ = false := by rw [hw0, ← sB]; simp [go_sem]
  have f1 : w0.frozen? ⟨B + 2, 1, none⟩ = false := by rw [hw0, ← sB]; simp [go_sem]
  have f2 : w0.frozen? ⟨B + 2, 2, none⟩ = false := by rw [hw0, ← sB]; simp [go_sem]
  have kw : Kp w w0 := by rw [hw0, hwB, hwA]; exact (((Kp.refl w).alloc _).alloc _).alloc _
  have kS : Kp wB w0 := by rw [hw0]; exact (Kp.refl wB).alloc _
  have kD : Kp wB w0.drew := kS.drew
  have hge : wB.heap.size ≤ (⟨B + 2, 0, none⟩ : Addr).block := by simp only; omega
  have hlt := cell_lt r0
  have HP1 : Hid (∀ W : World, Kp w0 W → Calls Tryz.prog 73 #[.slice P1 E1 C1, .slice Q2 E4 D2] W fun e w' => ∃ p c, e = .returned (.slice p (dig X).length c) ∧ Arr w' p (dig X) ∧ (dig X).length ≤ c ∧ Kp W w') := by
    show ∀ W : World, Kp w0 W → Calls Tryz.prog 73 #[.slice P1 E1 C1, .slice Q2 E4 D2] W fun e w' => ∃ p c, e = .returned (.slice p (dig X).length c) ∧ Arr w' p (dig X) ∧ (dig X).length ≤ c ∧ Kp W w'
    intro W k
    rw [hX]; exact timesR _ _ a1 b2 W ⟨P1, C1, by rw [g1], h1.grown (kw.trans k), l1⟩ ⟨Q2, D2, by rw [g4], h4.grown (kw.trans k), l4⟩ (by omega) (by omega)
  have HP2 : Hid (∀ W : World, Kp w0 W → Calls Tryz.prog 73 #[.slice P2 E2 C2, .slice Q1 E3 D1] W fun e w' => ∃ p c, e = .returned (.slice p (dig D).length c) ∧ Arr w' p (dig D) ∧ (dig D).length ≤ c ∧ Kp W w') := by
    show ∀ W : World, Kp w0 W → Calls Tryz.prog 73 #[.slice P2 E2 C2, .slice Q1 E3 D1] W fun e w' => ∃ p c, e = .returned (.slice p (dig D).length c) ∧ Arr w' p (dig D) ∧ (dig D).length ≤ c ∧ Kp W w'
    intro W k
    rw [hD]; exact timesR _ _ a2 b1 W ⟨P2, C2, by rw [g2], h2.grown (kw.trans k), l2⟩ ⟨Q1, D1, by rw [g3], h3.grown (kw.trans k), l3⟩ (by omega) (by omega)
  obtain ⟨NX, hNX⟩ : ∃ N, N = (dig X).length := ⟨_, rfl⟩
  obtain ⟨ND, hND⟩ : ∃ N, N = (dig D).length := ⟨_, rfl⟩
  obtain ⟨st, hst⟩ : ∃ st, st = (sa ^^ sb) := ⟨_, rfl⟩
  have hst2 : (sa != sb) = st := by rw [hst]
  have hst3 : (!decide (sa = sb)) = st := by rw [hst]; cases sa <;> cases sb <;> rfl
  have hst4 : (!(sa == sb)) = st := by rw [hst]; cases sa <;> cases sb <;> rfl
  have HFR : Hid (∀ (p : Option Addr) (c : Nat) (q : Option Addr) (d : Nat) (W : World), Kp w0 W → Arr W p (dig X) → (dig X).length ≤ c → Arr W q (dig D) → (dig D).length ≤ d → Calls Tryz.prog 71 #[.bool st, .slice p (dig X).length c, .slice q (dig D).length d, .int .i64 0] W fun e w' => ∃ (vn vd : Value) (a' b' : Nat) (ng : Bool), e = .returned (.agg #[.bool ng, vn, vd]) ∧ Own w' W.heap.size vn (dig a') ∧ Own w' W.heap.size vd (dig b') ∧ (FracOf X D 0 a' b' ∧ (X ≠ 0 → ng = st)) ∧ Kp W w') := by
    show ∀ (p : Option Addr) (c : Nat) (q : Option Addr) (d : Nat) (W : World), Kp w0 W → Arr W p (dig X) → (dig X).length ≤ c → Arr W q (dig D) → (dig D).length ≤ d → Calls Tryz.prog 71 #[.bool st, .slice p (dig X).length c, .slice q (dig D).length d, .int .i64 0] W fun e w' => ∃ (vn vd : Value) (a' b' : Nat) (ng : Bool), e = .returned (.agg #[.bool ng, vn, vd]) ∧ Own w' W.heap.size vn (dig a') ∧ Own w' W.heap.size vd (dig b') ∧ (FracOf X D 0 a' b' ∧ (X ≠ 0 → ng = st)) ∧ Kp W w'
    intro p c q d W kk ar ll ar' ll'
    have g := frac_ st (.slice p (dig X).length c) (.slice q (dig D).length d) (dig X) (dig D) 0 W ⟨p, c, rfl, ar, ll⟩ ⟨q, d, rfl, ar', ll'⟩ (Wd_dig _) (Wd_dig _) (by change len32 _ ≤ _; omega) (by change len32 _ ≤ _; omega) (by rw [val_dig]; exact hz) (by decide)
    rw [val_dig, val_dig] at g
    exact g
  rw [← hNX, ← hND] at HFR
  rw [← hNX] at HP1
  rw [← hND] at HP2
  rw [← hst]
  have HW : Hid (w0 = wB.alloc (.cells #[.bool false, .slice none 0 0, .slice none 0 0] 43) ∧ wB = wA.alloc (.cells #[.bool sb, .slice Q1 E3 D1, .slice Q2 E4 D2] 43) ∧ wA = w.alloc (.cells #[.bool sa, .slice P1 E1 C1, .slice P2 E2 C2] 43) ∧ B = w.heap.size ∧ Kp w w0) := ⟨hw0, hwB, hwA, hB, kw⟩
  clear hNX hND hst hw0 hwB hwA hB sA sB kw kAB h1 l1 h2 l2 h3 l3 h4 l4 k1 k2 k3 k4 z2 z4 hX hD hz lX lD g1 g2 g3 g4
  go_enter Tryz.func43, Tryz.ntmps43
  go_upto_region 1 with fail
  rw [← HW.out.2.2.2.1]
  try rw [← HW.out.2.2.1]
  try rw [← HW.out.2.1]
  try rw [← HW.out.1]
  go_region_held3 (fun w' => w'.cell? ⟨B, 0, none⟩ = some (.bool sa) ∧ w'.cell? ⟨B, 1, none⟩ = some (.slice P1 E1 C1) ∧ w'.cell? ⟨B, 2, none⟩ = some (.slice P2 E2 C2) ∧ w'.cell? ⟨B + 1, 0, none⟩ = some (.bool sb) ∧ w'.cell? ⟨B + 1, 1, none⟩ = some (.slice Q1 E3 D1) ∧ w'.cell? ⟨B + 1, 2, none⟩ = some (.slice Q2 E4 D2)) (refine ⟨kkeep (W := wB) ?_ x0, kkeep (W := wB) ?_ x1, kkeep (W := wB) ?_ x2, kkeep (W := wB) ?_ y0, kkeep (W := wB) ?_ y1, kkeep (W := wB) ?_ y2⟩ <;> ((repeat (first | with_reducible exact kC | with_reducible exact kB | with_reducible exact kA | with_reducible exact kS | with_reducible exact kD | with_reducible exact Kp.refl _ | with_reducible refine Kp.drew ?_ | refine Kp.setCell ?_ hge _)); done)) (first | (go_at_call 71; have hh := ar2; refine (HFR.out pp cc pq cq _ ?q1 ?q2 ll1 ?q3 ll2).mono ?_; (case q1 => ((repeat (first | with_reducible exact kk2 | with_reducible exact kk1 | with_reducible exact Kp.refl _ | with_reducible refine Kp.drew ?_)); done)); (case q2 => exact ar1.grown k12); (case q3 => exact ar2); rintro e v3 ⟨vn, vd, a', b', ng, rfl, o1, o2, ff, k23⟩; have kk3 : Kp w0 v3 := Kp.trans ?q4 k23; (case q4 => ((repeat (first | with_reducible exact kk2 | with_reducible exact kk1 | with_reducible exact Kp.refl _ | with_reducible refine Kp.drew ?_)); done)); have kC : Kp wB v3 := kS.trans kk3; obtain ⟨pn, cn, rfl, an, ln⟩ := o1.arr; obtain ⟨pd, cd, rfl, ad, ld⟩ := o2.arr; have R0 := kkeep kk3 r0; have R1 := kkeep kk3 r1; have R2 := kkeep kk3 r2; have F0 := (kfro kk3 hlt).trans f0; have F1 := (kfro kk3 hlt).trans f1; have F2 := (kfro kk3 hlt).trans f2) | (go_at_call 73; have hh := ar1; refine (HP2.out _ ?q5).mono ?_; (case q5 => ((repeat (first | with_reducible exact kk2 | with_reducible exact kk1 | with_reducible exact Kp.refl _ | with_reducible refine Kp.drew ?_)); done)); rintro e v2 ⟨pq, cq, rfl, ar2, ll2, k12⟩; have kk2 : Kp w0 v2 := Kp.trans ?q7 k12; (case q7 => ((repeat (first | with_reducible exact kk2 | with_reducible exact kk1 | with_reducible exact Kp.refl _ | with_reducible refine Kp.drew ?_)); done)); have kB : Kp wB v2 := kS.trans kk2) | (go_at_call 73; refine (HP1.out _ ?q8).mono ?_; (case q8 => ((repeat (first | with_reducible exact kk2 | with_reducible exact kk1 | with_reducible exact Kp.refl _ | with_reducible refine Kp.drew ?_)); done)); rintro e v1 ⟨pp, cc, rfl, ar1, ll1, k01⟩; have kk1 : Kp w0 v1 := Kp.trans ?q10 k01; (case q10 => ((repeat (first | with_reducible exact kk2 | with_reducible exact kk1 | with_reducible exact Kp.refl _ | with_reducible refine Kp.drew ?_)); done)); have kA : Kp wB v1 := kS.trans kk1))
  have hs1 := Below.size kk2
  obtain ⟨wz, hwz⟩ : ∃ wz, wz = ((v3.setCell ⟨B + 2, 0, none⟩ (.bool ng)).setCell ⟨B + 2, 1, none⟩ (.slice pn (dig a').length cn)).setCell ⟨B + 2, 2, none⟩ (.slice pd (dig b').length cd) := ⟨_, rfl⟩
  have kb : Kb (B + 2) v3 wz := by rw [hwz]; exact (((Kb.refl (B + 2) v3).setCell 0 _).setCell 1 _).setCell 2 _
  have O1 := o1.kb kb (fun g hg => by have := o1.lt g hg; omega)
  have O2 := o2.kb kb (fun g hg => by have := o2.lt g hg; omega)
  have hkw : Kp w wz := kb.kp (HW.out.2.2.2.2.trans kk3) (by rw [HW.out.2.2.2.1]; omega)
  have HO : Hid (Own wz w.heap.size (.slice pn (dig a').length cn) (dig a') ∧ Own wz w.heap.size (.slice pd (dig b').length cd) (dig b') ∧ (FracOf X D 0 a' b' ∧ (X ≠ 0 → ng = st)) ∧ Kp w wz ∧ wz = ((v3.setCell ⟨B + 2, 0, none⟩ (.bool ng)).setCell ⟨B + 2, 1, none⟩ (.slice pn (dig a').length cn)).setCell ⟨B + 2, 2, none⟩ (.slice pd (dig b').length cd)) := ⟨O1.mono (by have e9 := HW.out.2.2.2.1; first | omega | exact Nat.le_trans (show w.heap.size ≤ v1.heap.size by omega) (Nat.le_refl _)), O2.mono (by have e9 := HW.out.2.2.2.1; first | omega | exact Nat.le_trans (show w.heap.size ≤ v1.heap.size by omega) (Nat.le_refl _)), ff, hkw, hwz⟩
  clear hs1 hwz kb O1 O2 hkw o1 o2 ff k23 kk3 kC an ln ad ld kk2 k12 kB ar2 ll2 kk1 k01 kA ar1 ll1 HP1 HP2 HFR kS kD hge
  go_wp2
  obtain ⟨q1, q2, q3, q4, q5⟩ := HO.out
  rw [q5] at q1 q2 q4
  exact bodyPost_ret (v := .agg #[.bool ng, .slice pn (dig a').length cn, .slice pd (dig b').length cd]) (by simp [results, Tryz.results43, go_sem, R0, R1, R2]) rfl ⟨_, _, a', b', ng, rfl, q1, q2, q3, q4⟩
end Go.Proofs.YteedfmghgkmofaaGreatDoor
namespace Go.Proofs.YteedfmghgkmofaaGreatDoor
open Go.RowKit
theorem xquo_ (V : Int) (U : Nat) (t : Bool) (hU : U ≠ 0) (C C' N N' : Nat) (hN : N + N' ≤ 100000) (s : Bool) (p : Option Addr) (l c : Nat) (q : Option Addr) (k d : Nat) (s2 : Bool) (p2 : Option Addr) (l2 c2 : Nat) (q2 : Option Addr) (k2 d2 : Nat) (B1 B2 : Nat) (w : World) (h1 : XP B1 w s p l c q k d V C N) (h2 : XP B2 w s2 p2 l2 c2 q2 k2 d2 (rvI t U) C' N') : Calls Tryz.prog 43 #[.agg #[.bool s, .slice p l c, .slice q k d], .agg #[.bool s2, .slice p2 l2 c2, .slice q2 k2 d2]] w fun e w' => ∃ (s3 : Bool) (p3 : Option Addr) (l3 c3 : Nat) (q3 : Option Addr) (k3 d3 : Nat), e = .returned (.agg #[.bool s3, .slice p3 l3 c3, .slice q3 k3 d3]) ∧ XP w.heap.size w' s3 p3 l3 c3 q3 k3 d3 (rvI t 1 * V * (C' : Int)) (C * U) (2 * (N + N') + 3) ∧ Kp w w' := by
  obtain ⟨a1, a2, u1, u2, u3⟩ := h1
  obtain ⟨b1, b2, v1, v2, v3⟩ := h2
  obtain ⟨P1, C1, e1, x1, y1⟩ := u1.arr
  obtain ⟨P2, C2, e2, x2, y2⟩ := u2.arr
  obtain ⟨Q1, D1, e3, x3, y3⟩ := v1.arr
  obtain ⟨Q2, D2, e4, x4, y4⟩ := v2.arr
  rw [e1, e2, e3, e4]
  obtain ⟨X, hX⟩ : ∃ X, X = a1 * b2 := ⟨_, rfl⟩
  obtain ⟨D, hD⟩ : ∃ D, D = a2 * b1 := ⟨_, rfl⟩
  have ba1 := u3.2.2.2.1
  have ba2 := u3.2.2.2.2
  have bb1 := v3.2.2.2.1
  have bb2 := v3.2.2.2.2
  have bX : blen X ≤ N + N' := by rw [hX]; exact blen_mulX _ _ _ _ ba1 bb2
  have bD : blen D ≤ N + N' := by rw [hD]; exact blen_mulX _ _ _ _ ba2 bb1
  have zb : b1 ≠ 0 := by
    intro z
    obtain ⟨g1, g2, g3, -, -⟩ := v3
    rw [z] at g3
    have q1 : (U : Int) * (b2 : Int) ≠ 0 := by have : (0 : Int) < (U : Int) * (b2 : Int) := Int.mul_pos (by omega) (by omega); omega
    unfold rvI at g3
    cases s2 <;> cases t <;> simp [Int.neg_mul] at g3 <;> omega
  have hzD : D ≠ 0 := by rw [hD]; exact Nat.mul_ne_zero u3.1 zb
  refine (rquoO_ s s2 a1 a2 b1 b2 P1 P2 Q1 Q2 C1 C2 D1 D2 w x1 y1 x2 y2 x3 y3 x4 y4 (dlen a1 4000 (by omega)) (dlen a2 4000 (by omega)) (dlen b1 4000 (by omega)) (dlen b2 4000 (by omega)) u3.1 zb X D hX hD (dlen X 16000 (by omega)) (dlen D 16000 (by omega))).mono ?_
  rintro e w' ⟨vn, vd, a', b', ng, rfl, o1, o2, ⟨hF, hn⟩, g⟩
  obtain ⟨p3, c3, rfl, -, -⟩ := o1.arr
  obtain ⟨q3, d3, rfl, -, -⟩ := o2.arr
  exact ⟨ng, p3, _, c3, q3, _, d3, rfl, ⟨a', b', o1, o2, XF.quo s s2 ng a1 a2 b1 b2 a' b' V U t C C' N N' _ u3 v3 hU hF.1 (by have h := frac_x X D a' b' ng _ hzD hF hn; rw [hX] at h; rw [hD, Int.natCast_mul] at h; exact h) (by have g1 := hF.2.2.2.1; simp at g1; omega) (by have g1 := hF.2.2.2.2; simp at g1; omega)⟩, g⟩
end Go.Proofs.YteedfmghgkmofaaGreatDoor
namespace Go.Proofs.YteedfmghgkmofaaGreatDoor
open Go.RowKit
set_option maxRecDepth 20000 in
set_option maxHeartbeats 1000000 in
theorem intN_ (N : Nat) (hN : 1 ≤ N) (hN2 : N < 9223372036854775808) (w : World) : Calls Tryz.prog 36 #[.int .i64 (N : Int)] w fun e w' => ∃ (s : Bool) (p : Option Addr) (l c : Nat) (q : Option Addr) (k d : Nat), e = .returned (.agg #[.bool s, .slice p l c, .slice q k d]) ∧ XP w.heap.size w' s p l c q k d (N : Int) 1 100 ∧ Kp w w' := by
  obtain ⟨B, hB⟩ : ∃ B, B = w.heap.size := ⟨_, rfl⟩
  obtain ⟨w0, hw0⟩ : ∃ w0, w0 = w.alloc (.cells #[.bool false, .slice none 0 0, .slice none 0 0] 43) := ⟨_, rfl⟩
  have kw : Kp w w0 := by rw [hw0]; exact (Kp.refl w).alloc _
  have r0 : w0.cell? ⟨B, 0, none⟩ = some (.bool false) := by rw [hw0, hB]; simp [go_sem]
  have r1 : w0.cell? ⟨B, 1, none⟩ = some (.slice none 0 0) := by rw [hw0, hB]; simp [go_sem]
  have r2 : w0.cell? ⟨B, 2, none⟩ = some (.slice none 0 0) := by rw [hw0, hB]; simp [go_sem]
  have f0 : w0.frozen? ⟨B, 0, none⟩ = false := by rw [hw0, hB]; simp [go_sem]
  have f1 : w0.frozen? ⟨B, 1, none⟩ = false := by rw [hw0, hB]; simp [go_sem]
  have f2 : w0.frozen? ⟨B, 2, none⟩ = false := by rw [hw0, hB]; simp [go_sem]
  have hlt := cell_lt r0
  have hbl : blen N ≤ 32 * 2 := (blen_le_iff N 64).2 (by omega)
  have j0 : ¬ ((N : Int) < 0) := by omega
  have j1 : IntKind.u64.wrap (N : Int) = (N : Int) := by rw [IntKind.wrap_u64]; omega
  have hs := rsmall_ N (by omega) w0
  have HW : Hid (w0 = w.alloc (.cells #[.bool false, .slice none 0 0, .slice none 0 0] 43) ∧ B = w.heap.size ∧ Kp w w0) := ⟨hw0, hB, kw⟩
  clear hw0 hB kw
  go_enter Tryz.func36, Tryz.ntmps36
  go_wp2_with fail
  rw [← HW.out.2.1]
  try rw [← HW.out.1]
  refine hs.mono ?_; rintro e w1 ⟨v, rfl, ho, k1⟩
  obtain ⟨pv, cv, rfl, hav, hcv⟩ := ho.arr
  obtain ⟨L, hL⟩ : ∃ L, L = (dig N).length := ⟨_, rfl⟩
  rw [← hL]
  obtain ⟨g4, hg4⟩ : ∃ g4, g4 = w1.heap.size := ⟨_, rfl⟩
  obtain ⟨w4, hw4⟩ : ∃ w4, w4 = w1.alloc (.cells #[.int .u32 1] 100) := ⟨_, rfl⟩
  have k4 : Kp w1 w4 := by rw [hw4]; exact (Kp.refl _).alloc _
  have ar4 : Arr w4 (some ⟨g4, 0, none⟩) (dig 1) := by
    have h := (row1 w1 1).all rfl
    rw [← hw4, ← hg4] at h
    rw [dig_one6]
    exact h
  have h := fracX_ false (.slice pv (dig N).length cv) (.slice (some ⟨g4, 0, none⟩) (dig 1).length 1) (dig N) (dig 1) 0 w4 ⟨pv, cv, rfl, hav.grown k4, hcv⟩ ⟨some ⟨g4, 0, none⟩, 1, rfl, ar4, by rw [dig_one6]; decide⟩ (Wd_dig _) (Wd_dig _) (Nat.le_trans (dlen N 2 hbl) (by decide)) (by rw [dig_one6]; decide) (by rw [val_dig]; decide) (by decide)
  rw [val_dig, val_dig] at h
  rw [show (dig 1).length = 1 from by rw [dig_one6]; rfl] at h
  rw [← hL] at h
  have k04 := k1.trans k4
  have HG : Hid (g4 = w1.heap.size ∧ w4 = w1.alloc (.cells #[.int .u32 1] 100)) := ⟨hg4, hw4⟩
  replace r0 := kkeep k04 r0
  replace r1 := kkeep k04 r1
  replace r2 := kkeep k04 r2
  replace f0 := (kfro k04 hlt).trans f0
  replace f1 := (kfro k04 hlt).trans f1
  replace f2 := (kfro k04 hlt).trans f2
  have HK : Hid (Kp w0 w4 ∧ B < w0.heap.size) := ⟨k04, hlt⟩
  have hlt4 := cell_lt r0
  clear hs ho hav hcv hL hg4 hw4 k4 ar4 k1 k04 hlt
  go_wp2_with fail
  rw [← HG.out.1, ← HG.out.2]
  refine h.mono ?_; rintro e w5 ⟨vn, vd, a', b', ng, rfl, o1, o2, ff, k5⟩
  obtain ⟨pn, cn, rfl, an, ln⟩ := o1.arr
  obtain ⟨pd, cd, rfl, ad, ld⟩ := o2.arr
  replace r0 := kkeep k5 r0
  replace r1 := kkeep k5 r1
  replace r2 := kkeep k5 r2
  replace f0 := (kfro k5 hlt4).trans f0
  replace f1 := (kfro k5 hlt4).trans f1
  replace f2 := (kfro k5 hlt4).trans f2
  have z1 : a' = N ∧ b' = 1 := by
    obtain ⟨oa, ob, ka, kb, x, y, g1, g2, g3, g4, g5, g6, g7, g8⟩ := ff.1.2.2 (by omega)
    obtain ⟨r1, r2⟩ := odd_one ob 0 kb g2 g4
    subst r1 r2
    have hy : y = 0 ∧ x = ka := by rcases g7 with h | h <;> constructor <;> omega
    rw [hy.2] at g5
    rw [hy.1] at g6
    exact ⟨by rw [g5, g3], by rw [g6]⟩
  have hp : XP w4.heap.size w5 ng pn (dig a').length cn pd (dig b').length cd (N : Int) 1 100 :=
    ⟨a', b', o1, o2, by omega, by decide, by rw [z1.1, z1.2, ff.2 (by omega)]; unfold rvI; simp, by rw [z1.1]; omega, by rw [z1.2]; decide⟩
  have hq := (((hp.set (x := ⟨B, 0, none⟩) hlt4 (.bool ng)).set (x := ⟨B, 1, none⟩) hlt4 (.slice pn (dig a').length cn)).set (x := ⟨B, 2, none⟩) hlt4 (.slice pd (dig b').length cd)).mono (base' := w.heap.size) (by have h1 := Below.size HW.out.2.2; have h2 := Below.size HK.out.1; omega)
  have hkw : Kp w (((w5.setCell ⟨B, 0, none⟩ (.bool ng)).setCell ⟨B, 1, none⟩ (.slice pn (dig a').length cn)).setCell ⟨B, 2, none⟩ (.slice pd (dig b').length cd)) := by
    have hB := HW.out.2.1
    exact ((((HW.out.2.2.trans HK.out.1).trans k5).setCell (by rw [hB]; exact Nat.le_refl _) _).setCell (by rw [hB]; exact Nat.le_refl _) _).setCell (by rw [hB]; exact Nat.le_refl _) _
  generalize (dig a').length = La at hq hkw ⊢
  generalize (dig b').length = Lb at hq hkw ⊢
  have HO : Hid (_ ∧ _) := ⟨hq, hkw⟩
  clear h hp hq hkw o1 o2 ff z1 hbl hN hN2 k5 an ln ad ld hlt4 HG
  go_wp2
  exact bodyPost_ret (v := .agg #[.bool ng, .slice pn La cn, .slice pd Lb cd]) (by simp [results, Tryz.results36, go_sem, r0, r1, r2]) rfl ⟨ng, pn, La, cn, pd, Lb, cd, rfl, HO.out.1, HO.out.2⟩
end Go.Proofs.YteedfmghgkmofaaGreatDoor
namespace Go.Proofs.YteedfmghgkmofaaGreatDoor
open Go.RowKit
theorem blen_two (j : Nat) : blen (2 ^ j) = j + 1 := blen_uniq _ j (Nat.le_refl _) (by rw [Nat.pow_succ]; have := Nat.two_pow_pos j; omega)
theorem Dy.xp {base : Nat} {w : World} {s1 : Bool} {p1 : Option Addr} {l1 c1 : Nat} {q1 : Option Addr} {k1 d1 : Nat} {V : Int} {E : Nat} (h : Dy base w s1 p1 l1 c1 q1 k1 d1 V E) (N : Nat) (hV : V.natAbs < 2 ^ N) (hE : E + 1 ≤ N) : XP base w s1 p1 l1 c1 q1 k1 d1 V (2 ^ E) N := by
  obtain ⟨a, j, h1, h2, ⟨g1, g2, g3⟩, h4⟩ := h
  have ha : a < 2 ^ N := by
    have : a * 1 ≤ a * 2 ^ (E - j) := Nat.mul_le_mul (Nat.le_refl _) Nat.one_le_two_pow
    omega
  refine ⟨a, 2 ^ j, h1, h2, Nat.ne_of_gt (Nat.two_pow_pos _), Nat.ne_of_gt (Nat.two_pow_pos _), ?_, (blen_le_iff _ _).2 ha, by rw [blen_two]; omega⟩
  have e : ((2 ^ E : Nat) : Int) = ((2 ^ (E - j) : Nat) : Int) * ((2 ^ j : Nat) : Int) := by rw [← Int.natCast_mul, ← Nat.pow_add]; congr 2; omega
  have e2 : ((a : Int)) * ((2 ^ (E - j) : Nat) : Int) = ((V.natAbs : Nat) : Int) := by rw [← Int.natCast_mul, g3]
  rw [e, ← Int.mul_assoc]
  by_cases z : V = 0
  · have : ((a : Int)) * ((2 ^ (E - j) : Nat) : Int) = 0 := by rw [e2, z]; rfl
    have h0 : rvI s1 a * ((2 ^ (E - j) : Nat) : Int) = 0 := by
      unfold rvI
      cases s1
      · simpa using this
      · simp only [if_true, Int.neg_mul, this]; rfl
    rw [h0, z]
  · have hs := h4 z
    congr 1
    unfold rvI
    by_cases c : V < 0
    · rw [hs, decide_eq_true c]
      simp only [if_true, Int.neg_mul, e2]; omega
    · rw [hs, decide_eq_false c]
      simp only [Bool.false_eq_true, if_false, e2]; omega
theorem xcmp_ (V V' : Int) (C C' N N' : Nat) (hN : N ≤ 200000) (hN' : N' ≤ 200000) (s : Bool) (p : Option Addr) (l c : Nat) (q : Option Addr) (k d : Nat) (s2 : Bool) (p2 : Option Addr) (l2 c2 : Nat) (q2 : Option Addr) (k2 d2 : Nat) (B1 B2 : Nat) (w : World) (h1 : XP B1 w s p l c q k d V C N) (h2 : XP B2 w s2 p2 l2 c2 q2 k2 d2 V' C' N') : Calls Tryz.prog 78 #[.agg #[.bool s, .slice p l c, .slice q k d], .agg #[.bool s2, .slice p2 l2 c2, .slice q2 k2 d2]] w fun e w' => e = .returned (.int .i64 (cmI (V * (C' : Int)) (V' * (C : Int)))) ∧ Kp w w' := by
  obtain ⟨a, b, o1, o2, zb, zC, i1, j1, j2⟩ := h1
  obtain ⟨x, y, o3, o4, zy, zC', i2, j3, j4⟩ := h2
  have h := rcmp6_ s p l c q k d s2 p2 l2 c2 q2 k2 d2 a b x y B1 B2 w o1 o2 o3 o4 zb zy (by omega) (by omega) (by omega) (by omega)
  have e : cmI (rvI s a * (y : Int)) (rvI s2 x * (b : Int)) = cmI (V * (C' : Int)) (V' * (C : Int)) := by
    have pk : (0 : Int) < (C : Int) * (C' : Int) := Int.mul_pos (by omega) (by omega)
    have pb : (0 : Int) < (b : Int) * (y : Int) := Int.mul_pos (by omega) (by omega)
    rw [← cmI_scale _ _ _ pk, ← cmI_scale (V * (C' : Int)) (V' * (C : Int)) _ pb]
    have e1 : rvI s a * (y : Int) * ((C : Int) * (C' : Int)) = V * (C' : Int) * ((b : Int) * (y : Int)) := by
      rw [show rvI s a * (y : Int) * ((C : Int) * (C' : Int)) = rvI s a * (C : Int) * ((y : Int) * (C' : Int)) from by simp only [Int.mul_assoc, Int.mul_comm, Int.mul_left_comm], i1]
      simp only [Int.mul_assoc, Int.mul_comm, Int.mul_left_comm]
    have e2 : rvI s2 x * (b : Int) * ((C : Int) * (C' : Int)) = V' * (C : Int) * ((b : Int) * (y : Int)) := by
      rw [show rvI s2 x * (b : Int) * ((C : Int) * (C' : Int)) = rvI s2 x * (C' : Int) * ((b : Int) * (C : Int)) from by simp only [Int.mul_assoc, Int.mul_comm, Int.mul_left_comm], i2]
      simp only [Int.mul_assoc, Int.mul_comm, Int.mul_left_comm]
    rw [e1, e2]
  rw [e] at h
  exact h
end Go.Proofs.YteedfmghgkmofaaGreatDoor
namespace Go.Proofs.YteedfmghgkmofaaGreatDoor
open Go.RowKit
set_option linter.unusedVariables false
set_option linter.unusedSimpArgs false
theorem if_no {c : Bool} {p q : Prop} (h : c = false) (hq : q) : if c = true then p else q := by subst h; exact hq
theorem exL {P : Program} {ρ : Operand → Value} {op : Oper} {t : TypeId} {x : Operand} {w : World} {v : Value} (ho : op.op = .load t x) (p : Value) (hx : ρ x = p) (hr : (Instr.loadAt t p).run P w = .ok v w) : (execOp ρ op).run P w = .ok (.value v) w := by
  unfold execOp
  simp only [ho, hx, Sem.run_bind, Sem.run_pure, Result.andThen_ok, hr]
theorem load43 (w : World) (B0 : Nat) (s : Bool) (p : Option Addr) (l c : Nat) (q : Option Addr) (k d : Nat) (c0 : w.cell? ⟨B0, 0, none⟩ = some (.bool s)) (c1 : w.cell? ⟨B0, 1, none⟩ = some (.slice p l c)) (c2 : w.cell? ⟨B0, 2, none⟩ = some (.slice q k d)) : (Instr.loadAt 43 (.pointer (some ⟨B0, 0, none⟩))).run Tryz.prog w = .ok (.agg #[.bool s, .slice p l c, .slice q k d]) w := by
  simp only [Instr.loadAt, Instr.sureAddr, Sem.run_bind, Sem.run_pure, Result.andThen]
  exact run_loadVar_mid (P := Tryz.prog) w B0 0 43 [.bool s, .slice p l c, .slice q k d] _ (fun j v hv => by
    match j, hv with
    | 0, hv => simp at hv; rw [← hv]; exact c0
    | 1, hv => simp at hv; rw [← hv]; exact c1
    | 2, hv => simp at hv; rw [← hv]; exact c2
    | n + 3, hv => simp at hv) Tryz.underlying43 rfl (by kernel_rfl)
set_option maxRecDepth 20000 in
set_option maxHeartbeats 400000 in
theorem step4_ (L : Int) (h1 : -9218868437227405312 ≤ L) (h2 : L < 9218868437227405312) (w : World) : Calls Tryz.prog 79 #[.int .u64 ((pz L : Nat) : Int)] w fun e w' => e = .returned (.int .u64 ((pz (L + 1) : Nat) : Int)) ∧ w' = w := by
  rw [pz_val, pz_val]
  by_cases c : L = -1
  · subst c
    go_enter Tryz.func79, Tryz.ntmps79
    go_wp2
    exact bodyPost_ret (v := .int .u64 0) (by simp [results, Tryz.results79, go_sem]) rfl ⟨rfl, rfl⟩
  · by_cases n : L < 0
    · rw [if_pos n, if_pos (by omega)]
      obtain ⟨X, hX⟩ : ∃ X : Int, X = ((9223372036854775808 + L.natAbs : Nat) : Int) := ⟨_, rfl⟩
      have e : ((9223372036854775808 + (L + 1).natAbs : Nat) : Int) = X - 1 := by omega
      rw [e, ← hX]
      have t1 : (X == 9223372036854775809) = false := beq_eq_false_iff_ne.2 (by omega)
      have t2 : (X == 9223372036854775808) = false := beq_eq_false_iff_ne.2 (by omega)
      have t3 : 9223372036854775808 < X := by omega
      have t4 : IntKind.u64.wrap (X - 1) = X - 1 := by rw [IntKind.wrap_u64]; omega
      have t5 : ¬ (X = 9223372036854775809) := by omega
      have t6 : ¬ (X = 9223372036854775808) := by omega
      clear hX e h1 h2 c n
      go_enter Tryz.func79, Tryz.ntmps79
      go_wp2
      exact bodyPost_ret (v := .int .u64 (X - 1)) (by simp [results, Tryz.results79, go_sem]) rfl ⟨rfl, rfl⟩
    · rw [if_neg n, if_neg (by omega)]
      obtain ⟨X, hX⟩ : ∃ X : Int, X = ((L.natAbs : Nat) : Int) := ⟨_, rfl⟩
      have e : (((L + 1).natAbs : Nat) : Int) = X + 1 := by omega
      rw [e, ← hX]
      have t1 : (X == 9223372036854775809) = false := beq_eq_false_iff_ne.2 (by omega)
      have t2 : (X == 9223372036854775808) = false := beq_eq_false_iff_ne.2 (by omega)
      have t3 : ¬ (9223372036854775808 < X) := by omega
      have t4 : IntKind.u64.wrap (X + 1) = X + 1 := by rw [IntKind.wrap_u64]; omega
      have t5 : ¬ (X = 9223372036854775809) := by omega
      have t6 : ¬ (X = 9223372036854775808) := by omega
      clear hX e h1 h2 c n
      go_enter Tryz.func79, Tryz.ntmps79
      go_wp2
      exact bodyPost_ret (v := .int .u64 (X + 1)) (by simp [results, Tryz.results79, go_sem]) rfl ⟨rfl, rfl⟩
theorem pz_ne (L : Int) (h1 : -9218868437227405312 ≤ L) (h2 : L ≤ 9218868437227405312) : ((pz L : Nat) : Int) ≠ 9221120237041090561 ∧ ((pz L : Nat) : Int) ≠ 9223372036854775808 ∧ (L < 9218868437227405312 → ((pz L : Nat) : Int) ≠ 9218868437227405312) ∧ (-9218868437227405312 < L → ((pz L : Nat) : Int) ≠ 18442240474082181120) := by
  rw [pz_val]
  by_cases n : L < 0
  · rw [if_pos n]; refine ⟨?_, ?_, ?_, ?_⟩ <;> intros <;> omega
  · rw [if_neg n]; refine ⟨?_, ?_, ?_, ?_⟩ <;> intros <;> omega
theorem pz_fin (L : Int) (h1 : -9218868437227405312 ≤ L) (h2 : L ≤ 9218868437227405312) : decide (pz L % 9223372036854775808 < 9218868437227405312) = decide (-9218868437227405312 < L ∧ L < 9218868437227405312) := by
  rw [pz_val]
  by_cases n : L < 0
  · rw [if_pos n, decide_eq_decide]; omega
  · rw [if_neg n, decide_eq_decide]; omega
theorem pz_lt4 (L : Int) (h1 : -9218868437227405312 ≤ L) (h2 : L ≤ 9218868437227405312) : pz L < 18446744073709551616 := by
  rw [pz_val]
  by_cases n : L < 0
  · rw [if_pos n]; omega
  · rw [if_neg n]; omega
theorem pz_inj (L H : Int) (h1 : -9218868437227405312 ≤ L) (h2 : L ≤ 9218868437227405312) (h3 : -9218868437227405312 ≤ H) (h4 : H ≤ 9218868437227405312) (h : L ≠ H) : ((pz L : Nat) : Int) ≠ ((pz H : Nat) : Int) := by
  rw [pz_val, pz_val]
  by_cases n : L < 0 <;> by_cases m : H < 0 <;> simp only [n, m, if_true, if_false] <;> omega
theorem cm_scale (x V : Int) (C P : Nat) (hP : 0 < P) : cmI (x * ((C * P : Nat) : Int)) (V * (P : Int)) = cmI (x * (C : Int)) V ∧ cmI (V * (P : Int)) (x * ((C * P : Nat) : Int)) = cmI V (x * (C : Int)) := by
  rw [Int.natCast_mul, ← Int.mul_assoc]
  exact ⟨cmI_scale _ _ _ (by omega), cmI_scale _ _ _ (by omega)⟩
theorem cmI_eq9 (x : Int) : cmI x x = 0 := by unfold cmI; rw [if_neg (by omega), if_neg (by omega)]
theorem cmI_lt9 (x y : Int) (h : x < y) : cmI x y = -1 := by unfold cmI; rw [if_pos h]
set_option maxRecDepth 20000 in
set_option maxHeartbeats 2000000 in
theorem aboutE_ (PP : Nat → World → Bool → Option Addr → Nat → Nat → Option Addr → Nat → Nat → Nat → Prop) (X1 X2 : Int) (s : Bool) (p : Option Addr) (l c : Nat) (q : Option Addr) (k d : Nat) (w : World) (t1 : (X1 == 9221120237041090561) = false) (t2 : (X2 == 9221120237041090561) = false) (t3 : (X1 == 9218868437227405312) = false) (t4 : (X2 == 18442240474082181120) = false) (t5 : (X1 == 9223372036854775808) = false) (t6 : (X2 == 9223372036854775808) = false) (e9 : (X1 == X2) = true) (hfL : ∀ W : World, Calls Tryz.prog 63 #[.int .u64 X1] W fun e w' => e = .returned (.bool true) ∧ w' = W) (hbL : ∀ W : World, Calls Tryz.prog 38 #[.int .u64 X1] W fun e w' => ∃ (s2 : Bool) (p2 : Option Addr) (l2 c2 : Nat) (q2 : Option Addr) (k2 d2 : Nat), e = .returned (.agg #[.bool s2, .slice p2 l2 c2, .slice q2 k2 d2]) ∧ PP W.heap.size w' s2 p2 l2 c2 q2 k2 d2 0 ∧ Kp W w') (hcL : ∀ (W : World) (s2 : Bool) (p2 : Option Addr) (l2 c2 : Nat) (q2 : Option Addr) (k2 d2 : Nat) (b2 : Nat), Kp w W → PP b2 W s2 p2 l2 c2 q2 k2 d2 0 → Calls Tryz.prog 78 #[.agg #[.bool s2, .slice p2 l2 c2, .slice q2 k2 d2], .agg #[.bool s, .slice p l c, .slice q k d]] W fun e w' => e = .returned (.int .i64 0) ∧ Kp W w') : Calls Tryz.prog 42 #[.agg #[.bool s, .slice p l c, .slice q k d], .int .u64 X1, .int .u64 X2] w fun e w' => e = .returned (.bool true) ∧ Kp w w' := by
  have kw : Kp w (w.alloc (.cells #[.bool s, .slice p l c, .slice q k d] 43)) := (Kp.refl w).alloc _
  have c0 : (w.alloc (.cells #[.bool s, .slice p l c, .slice q k d] 43)).cell? ⟨w.heap.size, 0, none⟩ = some (.bool s) := by simp [go_sem]
  have c1 : (w.alloc (.cells #[.bool s, .slice p l c, .slice q k d] 43)).cell? ⟨w.heap.size, 1, none⟩ = some (.slice p l c) := by simp [go_sem]
  have c2_ : (w.alloc (.cells #[.bool s, .slice p l c, .slice q k d] 43)).cell? ⟨w.heap.size, 2, none⟩ = some (.slice q k d) := by simp [go_sem]
  go_enter Tryz.func42, Tryz.ntmps42
  go_upto_region 4 with fail
  generalize w.alloc (.cells #[.bool s, .slice p l c, .slice q k d] 43) = W0 at *
  generalize w.heap.size = B0 at c0 c1 c2_ ⊢
  have kd : Kp w W0.drew := kw.drew
  have c0 : W0.drew.cell? ⟨B0, 0, none⟩ = some (.bool s) := c0
  have c1 : W0.drew.cell? ⟨B0, 1, none⟩ = some (.slice p l c) := c1
  have c2_ : W0.drew.cell? ⟨B0, 2, none⟩ = some (.slice q k d) := c2_
  go_region_held3 (fun w' => w'.cell? ⟨B0, 0, none⟩ = some (.bool s) ∧ w'.cell? ⟨B0, 1, none⟩ = some (.slice p l c) ∧ w'.cell? ⟨B0, 2, none⟩ = some (.slice q k d)) (first | (with_reducible exact ⟨c0, c1, c2_⟩) | (exact ⟨kkeep j3 c0, kkeep j3 c1, kkeep j3 c2_⟩) | (exact ⟨kkeep j4 c0, kkeep j4 c1, kkeep j4 c2_⟩) | (exact ⟨kkeep j5 c0, kkeep j5 c1, kkeep j5 c2_⟩) | (exact ⟨kkeep j6 c0, kkeep j6 c1, kkeep j6 c2_⟩)) (first | (go_at_call_of 63 (Value.int IntKind.u64 X1); refine (hfL _).mono ?_; rintro e w' ⟨rfl, hw'⟩; obtain rfl := hw'.symm; clear hw') | (go_at_call_of 38 (Value.int IntKind.u64 X1); refine (hbL _).mono ?_; rintro e W3 ⟨s2, p2, l2, c2, q2, k2, d2, rfl, D2, g3⟩; have j3 : Kp W0.drew W3 := g3; have k3 := kd.trans g3; have hcL9 := hcL W3 s2 p2 l2 c2 q2 k2 d2 _ k3 D2) | (go_at_call_of 78 (Value.agg #[Value.bool s2, Value.slice p2 l2 c2, Value.slice q2 k2 d2]); refine hcL9.mono ?_; rintro e W4 ⟨rfl, g4⟩; have j4 := j3.trans g4; have k4 := k3.trans g4))
  all_goals (
    go_wp2
    exact bodyPost_ret (v := .bool true) (by simp [results, Tryz.results42, go_sem]) rfl ⟨rfl, k4⟩)
set_option maxRecDepth 20000 in
set_option maxHeartbeats 2000000 in
theorem aboutFF_ (PP : Nat → World → Bool → Option Addr → Nat → Nat → Option Addr → Nat → Nat → Nat → Prop) (X1 X2 : Int) (s : Bool) (p : Option Addr) (l c : Nat) (q : Option Addr) (k d : Nat) (w : World) (t1 : (X1 == 9221120237041090561) = false) (t2 : (X2 == 9221120237041090561) = false) (t3 : (X1 == 9218868437227405312) = false) (t4 : (X2 == 18442240474082181120) = false) (t5 : (X1 == 9223372036854775808) = false) (t6 : (X2 == 9223372036854775808) = false) (e9 : (X1 == X2) = false) (hst : ∀ W : World, Calls Tryz.prog 79 #[.int .u64 X1] W fun e w' => e = .returned (.int .u64 X2) ∧ w' = W) (hfL : ∀ W : World, Calls Tryz.prog 63 #[.int .u64 X1] W fun e w' => e = .returned (.bool true) ∧ w' = W) (hfH : ∀ W : World, Calls Tryz.prog 63 #[.int .u64 X2] W fun e w' => e = .returned (.bool true) ∧ w' = W) (hbL : ∀ W : World, Calls Tryz.prog 38 #[.int .u64 X1] W fun e w' => ∃ (s2 : Bool) (p2 : Option Addr) (l2 c2 : Nat) (q2 : Option Addr) (k2 d2 : Nat), e = .returned (.agg #[.bool s2, .slice p2 l2 c2, .slice q2 k2 d2]) ∧ PP W.heap.size w' s2 p2 l2 c2 q2 k2 d2 0 ∧ Kp W w') (hcL : ∀ (W : World) (s2 : Bool) (p2 : Option Addr) (l2 c2 : Nat) (q2 : Option Addr) (k2 d2 : Nat) (b2 : Nat), Kp w W → PP b2 W s2 p2 l2 c2 q2 k2 d2 0 → Calls Tryz.prog 78 #[.agg #[.bool s2, .slice p2 l2 c2, .slice q2 k2 d2], .agg #[.bool s, .slice p l c, .slice q k d]] W fun e w' => e = .returned (.int .i64 (-1)) ∧ Kp W w') (hbH : ∀ W : World, Calls Tryz.prog 38 #[.int .u64 X2] W fun e w' => ∃ (s2 : Bool) (p2 : Option Addr) (l2 c2 : Nat) (q2 : Option Addr) (k2 d2 : Nat), e = .returned (.agg #[.bool s2, .slice p2 l2 c2, .slice q2 k2 d2]) ∧ PP W.heap.size w' s2 p2 l2 c2 q2 k2 d2 1 ∧ Kp W w') (hcH : ∀ (W : World) (s2 : Bool) (p2 : Option Addr) (l2 c2 : Nat) (q2 : Option Addr) (k2 d2 : Nat) (b2 : Nat), Kp w W → PP b2 W s2 p2 l2 c2 q2 k2 d2 1 → Calls Tryz.prog 78 #[.agg #[.bool s, .slice p l c, .slice q k d], .agg #[.bool s2, .slice p2 l2 c2, .slice q2 k2 d2]] W fun e w' => e = .returned (.int .i64 (-1)) ∧ Kp W w') : Calls Tryz.prog 42 #[.agg #[.bool s, .slice p l c, .slice q k d], .int .u64 X1, .int .u64 X2] w fun e w' => e = .returned (.bool true) ∧ Kp w w' := by
  have kw : Kp w (w.alloc (.cells #[.bool s, .slice p l c, .slice q k d] 43)) := (Kp.refl w).alloc _
  have c0 : (w.alloc (.cells #[.bool s, .slice p l c, .slice q k d] 43)).cell? ⟨w.heap.size, 0, none⟩ = some (.bool s) := by simp [go_sem]
  have c1 : (w.alloc (.cells #[.bool s, .slice p l c, .slice q k d] 43)).cell? ⟨w.heap.size, 1, none⟩ = some (.slice p l c) := by simp [go_sem]
  have c2_ : (w.alloc (.cells #[.bool s, .slice p l c, .slice q k d] 43)).cell? ⟨w.heap.size, 2, none⟩ = some (.slice q k d) := by simp [go_sem]
  go_enter Tryz.func42, Tryz.ntmps42
  go_upto_region 7 with (first | (go_at_call 79; refine (hst _).mono ?_; rintro e w' ⟨rfl, hw'⟩; obtain rfl := hw'.symm; clear hw'))
  generalize w.alloc (.cells #[.bool s, .slice p l c, .slice q k d] 43) = W0 at *
  generalize w.heap.size = B0 at c0 c1 c2_ ⊢
  have kd : Kp w W0.drew := kw.drew
  have c0 : W0.drew.cell? ⟨B0, 0, none⟩ = some (.bool s) := c0
  have c1 : W0.drew.cell? ⟨B0, 1, none⟩ = some (.slice p l c) := c1
  have c2_ : W0.drew.cell? ⟨B0, 2, none⟩ = some (.slice q k d) := c2_
  go_region_held3 (fun w' => w'.cell? ⟨B0, 0, none⟩ = some (.bool s) ∧ w'.cell? ⟨B0, 1, none⟩ = some (.slice p l c) ∧ w'.cell? ⟨B0, 2, none⟩ = some (.slice q k d)) (first | (with_reducible exact ⟨c0, c1, c2_⟩) | (exact ⟨kkeep j3 c0, kkeep j3 c1, kkeep j3 c2_⟩) | (exact ⟨kkeep j4 c0, kkeep j4 c1, kkeep j4 c2_⟩) | (exact ⟨kkeep j5 c0, kkeep j5 c1, kkeep j5 c2_⟩) | (exact ⟨kkeep j6 c0, kkeep j6 c1, kkeep j6 c2_⟩)) (first | (go_at_call_of 63 (Value.int IntKind.u64 X1); refine (hfL _).mono ?_; rintro e w' ⟨rfl, hw'⟩; obtain rfl := hw'.symm; clear hw') | (go_at_call_of 38 (Value.int IntKind.u64 X1); refine (hbL _).mono ?_; rintro e W3 ⟨s2, p2, l2, c2, q2, k2, d2, rfl, D2, g3⟩; have j3 : Kp W0.drew W3 := g3; have k3 := kd.trans g3; have hcL9 := hcL W3 s2 p2 l2 c2 q2 k2 d2 _ k3 D2) | (go_at_call_of 78 (Value.agg #[Value.bool s2, Value.slice p2 l2 c2, Value.slice q2 k2 d2]); refine hcL9.mono ?_; rintro e W4 ⟨rfl, g4⟩; have j4 := j3.trans g4; have k4 := k3.trans g4) | (go_at_call_of 63 (Value.int IntKind.u64 X2); refine (hfH _).mono ?_; rintro e w' ⟨rfl, hw'⟩; obtain rfl := hw'.symm; clear hw') | (go_at_call_of 38 (Value.int IntKind.u64 X2); refine (hbH _).mono ?_; rintro e W5 ⟨s3, p3, l3, c3, q3, k3, d3, rfl, D3, g5⟩; have j5 := j4.trans g5; have k5 := k4.trans g5; have hcH9 := hcH W5 s3 p3 l3 c3 q3 k3 d3 _ k5 D3) | (go_at_call_of 78 (Value.agg #[Value.bool s, Value.slice p l c, Value.slice q k d]); refine hcH9.mono ?_; rintro e W6 ⟨rfl, g6⟩; have j6 := j5.trans g6; have k6 := k5.trans g6))
  all_goals (
    go_wp2
    exact bodyPost_ret (v := .bool true) (by simp [results, Tryz.results42, go_sem]) rfl ⟨rfl, k6⟩)
set_option maxRecDepth 20000 in
set_option maxHeartbeats 2000000 in
theorem aboutFI_ (PP : Nat → World → Bool → Option Addr → Nat → Nat → Option Addr → Nat → Nat → Nat → Prop) (X1 X2 : Int) (s : Bool) (p : Option Addr) (l c : Nat) (q : Option Addr) (k d : Nat) (w : World) (t1 : (X1 == 9221120237041090561) = false) (t2 : (X2 == 9221120237041090561) = false) (t3 : (X1 == 9218868437227405312) = false) (t4 : (X2 == 18442240474082181120) = false) (t5 : (X1 == 9223372036854775808) = false) (t6 : (X2 == 9223372036854775808) = false) (e9 : (X1 == X2) = false) (hst : ∀ W : World, Calls Tryz.prog 79 #[.int .u64 X1] W fun e w' => e = .returned (.int .u64 X2) ∧ w' = W) (hfL : ∀ W : World, Calls Tryz.prog 63 #[.int .u64 X1] W fun e w' => e = .returned (.bool true) ∧ w' = W) (hfH : ∀ W : World, Calls Tryz.prog 63 #[.int .u64 X2] W fun e w' => e = .returned (.bool false) ∧ w' = W) (hbL : ∀ W : World, Calls Tryz.prog 38 #[.int .u64 X1] W fun e w' => ∃ (s2 : Bool) (p2 : Option Addr) (l2 c2 : Nat) (q2 : Option Addr) (k2 d2 : Nat), e = .returned (.agg #[.bool s2, .slice p2 l2 c2, .slice q2 k2 d2]) ∧ PP W.heap.size w' s2 p2 l2 c2 q2 k2 d2 0 ∧ Kp W w') (hcL : ∀ (W : World) (s2 : Bool) (p2 : Option Addr) (l2 c2 : Nat) (q2 : Option Addr) (k2 d2 : Nat) (b2 : Nat), Kp w W → PP b2 W s2 p2 l2 c2 q2 k2 d2 0 → Calls Tryz.prog 78 #[.agg #[.bool s2, .slice p2 l2 c2, .slice q2 k2 d2], .agg #[.bool s, .slice p l c, .slice q k d]] W fun e w' => e = .returned (.int .i64 (-1)) ∧ Kp W w') : Calls Tryz.prog 42 #[.agg #[.bool s, .slice p l c, .slice q k d], .int .u64 X1, .int .u64 X2] w fun e w' => e = .returned (.bool true) ∧ Kp w w' := by
  have kw : Kp w (w.alloc (.cells #[.bool s, .slice p l c, .slice q k d] 43)) := (Kp.refl w).alloc _
  have c0 : (w.alloc (.cells #[.bool s, .slice p l c, .slice q k d] 43)).cell? ⟨w.heap.size, 0, none⟩ = some (.bool s) := by simp [go_sem]
  have c1 : (w.alloc (.cells #[.bool s, .slice p l c, .slice q k d] 43)).cell? ⟨w.heap.size, 1, none⟩ = some (.slice p l c) := by simp [go_sem]
  have c2_ : (w.alloc (.cells #[.bool s, .slice p l c, .slice q k d] 43)).cell? ⟨w.heap.size, 2, none⟩ = some (.slice q k d) := by simp [go_sem]
  go_enter Tryz.func42, Tryz.ntmps42
  go_upto_region 7 with (first | (go_at_call 79; refine (hst _).mono ?_; rintro e w' ⟨rfl, hw'⟩; obtain rfl := hw'.symm; clear hw'))
  generalize w.alloc (.cells #[.bool s, .slice p l c, .slice q k d] 43) = W0 at *
  generalize w.heap.size = B0 at c0 c1 c2_ ⊢
  have kd : Kp w W0.drew := kw.drew
  have jd : Kp W0.drew W0.drew := Kp.refl _
  have c0 : W0.drew.cell? ⟨B0, 0, none⟩ = some (.bool s) := c0
  have c1 : W0.drew.cell? ⟨B0, 1, none⟩ = some (.slice p l c) := c1
  have c2_ : W0.drew.cell? ⟨B0, 2, none⟩ = some (.slice q k d) := c2_
  refine wp_region_held_drew (S := (fun w' : World => w'.cell? ⟨B0, 0, none⟩ = some (.bool s) ∧ w'.cell? ⟨B0, 1, none⟩ = some (.slice p l c) ∧ w'.cell? ⟨B0, 2, none⟩ = some (.slice q k d))) (by kernel_rfl) ⟨c0, c1, c2_⟩ (fun _ => ?_)
  refine wpAnyH_take (i := 0) (v := .int .u64 X1) rfl (by kernel_rfl) (by kernel_rfl) (by kernel_rfl) (fun _ _ _ h => h) (Or.inl ⟨by rfl, fun w _hS => rfl⟩) ⟨kkeep jd c0, kkeep jd c1, kkeep jd c2_⟩ ?_
  try simp only [Act.put, List.getElem_toArray, List.getElem_cons_zero, List.getElem_cons_succ, List.setIfInBounds_toArray, List.set_cons_zero, List.set_cons_succ]
  refine wpAnyH_ready (rs := [1]) (by kernel_rfl) (by simp) ?_
  refine AllReadyH.cons rfl (fun K hK => ?_) AllReadyH.nil
  rw [if_pos (by rfl)]
  go_simp
  refine (hfL _).mono ?_
  rintro e w' ⟨rfl, hw'⟩; obtain rfl := hw'.symm; clear hw'
  go_wp2_with fail
  refine hK.out _ _ ⟨kkeep jd c0, kkeep jd c1, kkeep jd c2_⟩ (fun _ => ?_)
  clear hK K
  try simp only [Act.put, List.getElem_toArray, List.getElem_cons_zero, List.getElem_cons_succ, List.setIfInBounds_toArray, List.set_cons_zero, List.set_cons_succ]
  refine wpAnyH_take (i := 2) (v := .bool false) rfl (by kernel_rfl) (by kernel_rfl) (by kernel_rfl) (fun _ _ _ h => h) (Or.inl ⟨by rfl, fun w _hS => rfl⟩) ⟨kkeep jd c0, kkeep jd c1, kkeep jd c2_⟩ ?_
  try simp only [Act.put, List.getElem_toArray, List.getElem_cons_zero, List.getElem_cons_succ, List.setIfInBounds_toArray, List.set_cons_zero, List.set_cons_succ]
  refine wpAnyH_take (i := 3) (v := .bool false) rfl (by kernel_rfl) (by kernel_rfl) (by kernel_rfl) (fun _ _ _ h => h) (Or.inl ⟨by rfl, fun w _hS => rfl⟩) ⟨kkeep jd c0, kkeep jd c1, kkeep jd c2_⟩ ?_
  try simp only [Act.put, List.getElem_toArray, List.getElem_cons_zero, List.getElem_cons_succ, List.setIfInBounds_toArray, List.set_cons_zero, List.set_cons_succ]
  refine wpAnyH_take (i := 4) (v := .int .u64 X1) rfl (by kernel_rfl) (by kernel_rfl) (by kernel_rfl) (fun _ _ _ h => h) (Or.inl ⟨by rfl, fun w _hS => rfl⟩) ⟨kkeep jd c0, kkeep jd c1, kkeep jd c2_⟩ ?_
  try simp only [Act.put, List.getElem_toArray, List.getElem_cons_zero, List.getElem_cons_succ, List.setIfInBounds_toArray, List.set_cons_zero, List.set_cons_succ]
  refine wpAnyH_take (i := 6) (v := .agg #[.bool s, .slice p l c, .slice q k d]) rfl (by kernel_rfl) (by kernel_rfl) (by kernel_rfl) (fun _ _ _ h => h) (Or.inl ⟨by rfl, fun w _hS => exL rfl _ rfl (load43 w B0 s p l c q k d _hS.1 _hS.2.1 _hS.2.2)⟩) ⟨kkeep jd c0, kkeep jd c1, kkeep jd c2_⟩ ?_
  try simp only [Act.put, List.getElem_toArray, List.getElem_cons_zero, List.getElem_cons_succ, List.setIfInBounds_toArray, List.set_cons_zero, List.set_cons_succ]
  refine wpAnyH_ready (rs := [5]) (by kernel_rfl) (by simp) ?_
  refine AllReadyH.cons rfl (fun K hK => ?_) AllReadyH.nil
  rw [if_pos (by rfl)]
  go_simp
  refine (hbL _).mono ?_
  rintro e W3 ⟨s2, p2, l2, c2, q2, k2, d2, rfl, D2, g3⟩
  have j3 := jd.trans g3
  have k3 := kd.trans g3
  have hcL9 := hcL W3 s2 p2 l2 c2 q2 k2 d2 _ k3 D2
  go_wp2_with fail
  refine hK.out _ _ ⟨kkeep j3 c0, kkeep j3 c1, kkeep j3 c2_⟩ (fun _ => ?_)
  clear hK K
  try simp only [Act.put, List.getElem_toArray, List.getElem_cons_zero, List.getElem_cons_succ, List.setIfInBounds_toArray, List.set_cons_zero, List.set_cons_succ]
  refine wpAnyH_ready (rs := [7]) (by kernel_rfl) (by simp) ?_
  refine AllReadyH.cons rfl (fun K hK => ?_) AllReadyH.nil
  rw [if_pos (by rfl)]
  go_simp
  refine hcL9.mono ?_
  rintro e W4 ⟨rfl, g4⟩
  have j4 := j3.trans g4
  have k4 := k3.trans g4
  go_wp2_with fail
  refine hK.out _ _ ⟨kkeep j4 c0, kkeep j4 c1, kkeep j4 c2_⟩ (fun _ => ?_)
  clear hK K
  try simp only [Act.put, List.getElem_toArray, List.getElem_cons_zero, List.getElem_cons_succ, List.setIfInBounds_toArray, List.set_cons_zero, List.set_cons_succ]
  refine wpAnyH_take (i := 8) (v := .bool true) rfl (by kernel_rfl) (by kernel_rfl) (by kernel_rfl) (fun _ _ _ h => h) (Or.inl ⟨by rfl, fun w _hS => rfl⟩) ⟨kkeep j4 c0, kkeep j4 c1, kkeep j4 c2_⟩ ?_
  try simp only [Act.put, List.getElem_toArray, List.getElem_cons_zero, List.getElem_cons_succ, List.setIfInBounds_toArray, List.set_cons_zero, List.set_cons_succ]
  refine wpAnyH_take (i := 9) (v := .bool true) rfl (by kernel_rfl) (by kernel_rfl) (by kernel_rfl) (fun _ _ _ h => h) (Or.inl ⟨by rfl, fun w _hS => rfl⟩) ⟨kkeep j4 c0, kkeep j4 c1, kkeep j4 c2_⟩ ?_
  try simp only [Act.put, List.getElem_toArray, List.getElem_cons_zero, List.getElem_cons_succ, List.setIfInBounds_toArray, List.set_cons_zero, List.set_cons_succ]
  refine wpAnyH_take (i := 10) (v := .bool true) rfl (by kernel_rfl) (by kernel_rfl) (by kernel_rfl) (fun _ _ _ h => h) (Or.inl ⟨by rfl, fun w _hS => rfl⟩) ⟨kkeep j4 c0, kkeep j4 c1, kkeep j4 c2_⟩ ?_
  try simp only [Act.put, List.getElem_toArray, List.getElem_cons_zero, List.getElem_cons_succ, List.setIfInBounds_toArray, List.set_cons_zero, List.set_cons_succ]
  refine wpAnyH_take (i := 11) (v := .int .u64 X2) rfl (by kernel_rfl) (by kernel_rfl) (by kernel_rfl) (fun _ _ _ h => h) (Or.inl ⟨by rfl, fun w _hS => rfl⟩) ⟨kkeep j4 c0, kkeep j4 c1, kkeep j4 c2_⟩ ?_
  try simp only [Act.put, List.getElem_toArray, List.getElem_cons_zero, List.getElem_cons_succ, List.setIfInBounds_toArray, List.set_cons_zero, List.set_cons_succ]
  refine wpAnyH_ready (rs := [12]) (by kernel_rfl) (by simp) ?_
  refine AllReadyH.cons rfl (fun K hK => ?_) AllReadyH.nil
  rw [if_pos (by rfl)]
  go_simp
  refine (hfH _).mono ?_
  rintro e w' ⟨rfl, hw'⟩; obtain rfl := hw'.symm; clear hw'
  go_wp2_with fail
  refine hK.out _ _ ⟨kkeep j4 c0, kkeep j4 c1, kkeep j4 c2_⟩ (fun _ => ?_)
  clear hK K
  try simp only [Act.put, List.getElem_toArray, List.getElem_cons_zero, List.getElem_cons_succ, List.setIfInBounds_toArray, List.set_cons_zero, List.set_cons_succ]
  refine wpAnyH_take (i := 13) (v := .bool true) rfl (by kernel_rfl) (by kernel_rfl) (by kernel_rfl) (fun _ _ _ h => h) (Or.inl ⟨by rfl, fun w _hS => rfl⟩) ⟨kkeep j4 c0, kkeep j4 c1, kkeep j4 c2_⟩ ?_
  try simp only [Act.put, List.getElem_toArray, List.getElem_cons_zero, List.getElem_cons_succ, List.setIfInBounds_toArray, List.set_cons_zero, List.set_cons_succ]
  refine wpAnyH_take (i := 14) (v := .bool true) rfl (by kernel_rfl) (by kernel_rfl) (by kernel_rfl) (fun _ _ _ h => h) (Or.inl ⟨by rfl, fun w _hS => rfl⟩) ⟨kkeep j4 c0, kkeep j4 c1, kkeep j4 c2_⟩ ?_
  try simp only [Act.put, List.getElem_toArray, List.getElem_cons_zero, List.getElem_cons_succ, List.setIfInBounds_toArray, List.set_cons_zero, List.set_cons_succ]
  refine wpAnyH_take (i := 15) (v := undef) rfl (by kernel_rfl) (by kernel_rfl) (by kernel_rfl) (fun _ _ _ h => h) (Or.inr ⟨by rfl, rfl⟩) ⟨kkeep j4 c0, kkeep j4 c1, kkeep j4 c2_⟩ ?_
  try simp only [Act.put, List.getElem_toArray, List.getElem_cons_zero, List.getElem_cons_succ, List.setIfInBounds_toArray, List.set_cons_zero, List.set_cons_succ]
  refine wpAnyH_take (i := 16) (v := undef) rfl (by kernel_rfl) (by kernel_rfl) (by kernel_rfl) (fun _ _ _ h => h) (Or.inr ⟨by rfl, rfl⟩) ⟨kkeep j4 c0, kkeep j4 c1, kkeep j4 c2_⟩ ?_
  try simp only [Act.put, List.getElem_toArray, List.getElem_cons_zero, List.getElem_cons_succ, List.setIfInBounds_toArray, List.set_cons_zero, List.set_cons_succ]
  refine wpAnyH_ready (rs := [17]) (by kernel_rfl) (by simp) ?_
  refine AllReadyH.cons rfl (fun K hK => ?_) AllReadyH.nil
  refine if_no (by rfl) ?_
  refine hK.out _ _ ⟨kkeep j4 c0, kkeep j4 c1, kkeep j4 c2_⟩ (fun _ => ?_)
  clear hK K
  try simp only [Act.put, List.getElem_toArray, List.getElem_cons_zero, List.getElem_cons_succ, List.setIfInBounds_toArray, List.set_cons_zero, List.set_cons_succ]
  refine wpAnyH_ready (rs := [18]) (by kernel_rfl) (by simp) ?_
  refine AllReadyH.cons rfl (fun K hK => ?_) AllReadyH.nil
  refine if_no (by rfl) ?_
  refine hK.out _ _ ⟨kkeep j4 c0, kkeep j4 c1, kkeep j4 c2_⟩ (fun _ => ?_)
  clear hK K
  try simp only [Act.put, List.getElem_toArray, List.getElem_cons_zero, List.getElem_cons_succ, List.setIfInBounds_toArray, List.set_cons_zero, List.set_cons_succ]
  refine wpAnyH_take (i := 19) (v := undef) rfl (by kernel_rfl) (by kernel_rfl) (by kernel_rfl) (fun _ _ _ h => h) (Or.inr ⟨by rfl, rfl⟩) ⟨kkeep j4 c0, kkeep j4 c1, kkeep j4 c2_⟩ ?_
  try simp only [Act.put, List.getElem_toArray, List.getElem_cons_zero, List.getElem_cons_succ, List.setIfInBounds_toArray, List.set_cons_zero, List.set_cons_succ]
  refine wpAnyH_take (i := 20) (v := .bool true) rfl (by kernel_rfl) (by kernel_rfl) (by kernel_rfl) (fun _ _ _ h => h) (Or.inl ⟨by rfl, fun w _hS => rfl⟩) ⟨kkeep j4 c0, kkeep j4 c1, kkeep j4 c2_⟩ ?_
  try simp only [Act.put, List.getElem_toArray, List.getElem_cons_zero, List.getElem_cons_succ, List.setIfInBounds_toArray, List.set_cons_zero, List.set_cons_succ]
  refine wpAnyH_take (i := 21) (v := .bool true) rfl (by kernel_rfl) (by kernel_rfl) (by kernel_rfl) (fun _ _ _ h => h) (Or.inl ⟨by rfl, fun w _hS => rfl⟩) ⟨kkeep j4 c0, kkeep j4 c1, kkeep j4 c2_⟩ ?_
  try simp only [Act.put, List.getElem_toArray, List.getElem_cons_zero, List.getElem_cons_succ, List.setIfInBounds_toArray, List.set_cons_zero, List.set_cons_succ]
  refine wpAnyH_take (i := 22) (v := .bool true) rfl (by kernel_rfl) (by kernel_rfl) (by kernel_rfl) (fun _ _ _ h => h) (Or.inl ⟨by rfl, fun w _hS => rfl⟩) ⟨kkeep j4 c0, kkeep j4 c1, kkeep j4 c2_⟩ ?_
  try simp only [Act.put, List.getElem_toArray, List.getElem_cons_zero, List.getElem_cons_succ, List.setIfInBounds_toArray, List.set_cons_zero, List.set_cons_succ]
  refine wpAnyH_done (by kernel_rfl) ?_ _
  go_wp2
  exact bodyPost_ret (v := .bool true) (by simp [results, Tryz.results42, go_sem]) rfl ⟨rfl, k4⟩
set_option maxRecDepth 20000 in
set_option maxHeartbeats 2000000 in
theorem aboutIF_ (PP : Nat → World → Bool → Option Addr → Nat → Nat → Option Addr → Nat → Nat → Nat → Prop) (X1 X2 : Int) (s : Bool) (p : Option Addr) (l c : Nat) (q : Option Addr) (k d : Nat) (w : World) (t1 : (X1 == 9221120237041090561) = false) (t2 : (X2 == 9221120237041090561) = false) (t3 : (X1 == 9218868437227405312) = false) (t4 : (X2 == 18442240474082181120) = false) (t5 : (X1 == 9223372036854775808) = false) (t6 : (X2 == 9223372036854775808) = false) (e9 : (X1 == X2) = false) (hst : ∀ W : World, Calls Tryz.prog 79 #[.int .u64 X1] W fun e w' => e = .returned (.int .u64 X2) ∧ w' = W) (hfL : ∀ W : World, Calls Tryz.prog 63 #[.int .u64 X1] W fun e w' => e = .returned (.bool false) ∧ w' = W) (hfH : ∀ W : World, Calls Tryz.prog 63 #[.int .u64 X2] W fun e w' => e = .returned (.bool true) ∧ w' = W) (hbH : ∀ W : World, Calls Tryz.prog 38 #[.int .u64 X2] W fun e w' => ∃ (s2 : Bool) (p2 : Option Addr) (l2 c2 : Nat) (q2 : Option Addr) (k2 d2 : Nat), e = .returned (.agg #[.bool s2, .slice p2 l2 c2, .slice q2 k2 d2]) ∧ PP W.heap.size w' s2 p2 l2 c2 q2 k2 d2 1 ∧ Kp W w') (hcH : ∀ (W : World) (s2 : Bool) (p2 : Option Addr) (l2 c2 : Nat) (q2 : Option Addr) (k2 d2 : Nat) (b2 : Nat), Kp w W → PP b2 W s2 p2 l2 c2 q2 k2 d2 1 → Calls Tryz.prog 78 #[.agg #[.bool s, .slice p l c, .slice q k d], .agg #[.bool s2, .slice p2 l2 c2, .slice q2 k2 d2]] W fun e w' => e = .returned (.int .i64 (-1)) ∧ Kp W w') : Calls Tryz.prog 42 #[.agg #[.bool s, .slice p l c, .slice q k d], .int .u64 X1, .int .u64 X2] w fun e w' => e = .returned (.bool true) ∧ Kp w w' := by
  have kw : Kp w (w.alloc (.cells #[.bool s, .slice p l c, .slice q k d] 43)) := (Kp.refl w).alloc _
  have c0 : (w.alloc (.cells #[.bool s, .slice p l c, .slice q k d] 43)).cell? ⟨w.heap.size, 0, none⟩ = some (.bool s) := by simp [go_sem]
  have c1 : (w.alloc (.cells #[.bool s, .slice p l c, .slice q k d] 43)).cell? ⟨w.heap.size, 1, none⟩ = some (.slice p l c) := by simp [go_sem]
  have c2_ : (w.alloc (.cells #[.bool s, .slice p l c, .slice q k d] 43)).cell? ⟨w.heap.size, 2, none⟩ = some (.slice q k d) := by simp [go_sem]
  go_enter Tryz.func42, Tryz.ntmps42
  go_upto_region 7 with (first | (go_at_call 79; refine (hst _).mono ?_; rintro e w' ⟨rfl, hw'⟩; obtain rfl := hw'.symm; clear hw'))
  generalize w.alloc (.cells #[.bool s, .slice p l c, .slice q k d] 43) = W0 at *
  generalize w.heap.size = B0 at c0 c1 c2_ ⊢
  have kd : Kp w W0.drew := kw.drew
  have jd : Kp W0.drew W0.drew := Kp.refl _
  have c0 : W0.drew.cell? ⟨B0, 0, none⟩ = some (.bool s) := c0
  have c1 : W0.drew.cell? ⟨B0, 1, none⟩ = some (.slice p l c) := c1
  have c2_ : W0.drew.cell? ⟨B0, 2, none⟩ = some (.slice q k d) := c2_
  refine wp_region_held_drew (S := (fun w' : World => w'.cell? ⟨B0, 0, none⟩ = some (.bool s) ∧ w'.cell? ⟨B0, 1, none⟩ = some (.slice p l c) ∧ w'.cell? ⟨B0, 2, none⟩ = some (.slice q k d))) (by kernel_rfl) ⟨c0, c1, c2_⟩ (fun _ => ?_)
  refine wpAnyH_take (i := 0) (v := .int .u64 X1) rfl (by kernel_rfl) (by kernel_rfl) (by kernel_rfl) (fun _ _ _ h => h) (Or.inl ⟨by rfl, fun w _hS => rfl⟩) ⟨kkeep jd c0, kkeep jd c1, kkeep jd c2_⟩ ?_
  try simp only [Act.put, List.getElem_toArray, List.getElem_cons_zero, List.getElem_cons_succ, List.setIfInBounds_toArray, List.set_cons_zero, List.set_cons_succ]
  refine wpAnyH_ready (rs := [1]) (by kernel_rfl) (by simp) ?_
  refine AllReadyH.cons rfl (fun K hK => ?_) AllReadyH.nil
  rw [if_pos (by rfl)]
  go_simp
  refine (hfL _).mono ?_
  rintro e w' ⟨rfl, hw'⟩; obtain rfl := hw'.symm; clear hw'
  go_wp2_with fail
  refine hK.out _ _ ⟨kkeep jd c0, kkeep jd c1, kkeep jd c2_⟩ (fun _ => ?_)
  clear hK K
  try simp only [Act.put, List.getElem_toArray, List.getElem_cons_zero, List.getElem_cons_succ, List.setIfInBounds_toArray, List.set_cons_zero, List.set_cons_succ]
  refine wpAnyH_take (i := 2) (v := .bool true) rfl (by kernel_rfl) (by kernel_rfl) (by kernel_rfl) (fun _ _ _ h => h) (Or.inl ⟨by rfl, fun w _hS => rfl⟩) ⟨kkeep jd c0, kkeep jd c1, kkeep jd c2_⟩ ?_
  try simp only [Act.put, List.getElem_toArray, List.getElem_cons_zero, List.getElem_cons_succ, List.setIfInBounds_toArray, List.set_cons_zero, List.set_cons_succ]
  refine wpAnyH_take (i := 3) (v := .bool true) rfl (by kernel_rfl) (by kernel_rfl) (by kernel_rfl) (fun _ _ _ h => h) (Or.inl ⟨by rfl, fun w _hS => rfl⟩) ⟨kkeep jd c0, kkeep jd c1, kkeep jd c2_⟩ ?_
  try simp only [Act.put, List.getElem_toArray, List.getElem_cons_zero, List.getElem_cons_succ, List.setIfInBounds_toArray, List.set_cons_zero, List.set_cons_succ]
  refine wpAnyH_take (i := 4) (v := undef) rfl (by kernel_rfl) (by kernel_rfl) (by kernel_rfl) (fun _ _ _ h => h) (Or.inr ⟨by rfl, rfl⟩) ⟨kkeep jd c0, kkeep jd c1, kkeep jd c2_⟩ ?_
  try simp only [Act.put, List.getElem_toArray, List.getElem_cons_zero, List.getElem_cons_succ, List.setIfInBounds_toArray, List.set_cons_zero, List.set_cons_succ]
  refine wpAnyH_take (i := 6) (v := undef) rfl (by kernel_rfl) (by kernel_rfl) (by kernel_rfl) (fun _ _ _ h => h) (Or.inr ⟨by rfl, rfl⟩) ⟨kkeep jd c0, kkeep jd c1, kkeep jd c2_⟩ ?_
  try simp only [Act.put, List.getElem_toArray, List.getElem_cons_zero, List.getElem_cons_succ, List.setIfInBounds_toArray, List.set_cons_zero, List.set_cons_succ]
  refine wpAnyH_ready (rs := [5]) (by kernel_rfl) (by simp) ?_
  refine AllReadyH.cons rfl (fun K hK => ?_) AllReadyH.nil
  refine if_no (by rfl) ?_
  refine hK.out _ _ ⟨kkeep jd c0, kkeep jd c1, kkeep jd c2_⟩ (fun _ => ?_)
  clear hK K
  try simp only [Act.put, List.getElem_toArray, List.getElem_cons_zero, List.getElem_cons_succ, List.setIfInBounds_toArray, List.set_cons_zero, List.set_cons_succ]
  refine wpAnyH_ready (rs := [7]) (by kernel_rfl) (by simp) ?_
  refine AllReadyH.cons rfl (fun K hK => ?_) AllReadyH.nil
  refine if_no (by rfl) ?_
  refine hK.out _ _ ⟨kkeep jd c0, kkeep jd c1, kkeep jd c2_⟩ (fun _ => ?_)
  clear hK K
  try simp only [Act.put, List.getElem_toArray, List.getElem_cons_zero, List.getElem_cons_succ, List.setIfInBounds_toArray, List.set_cons_zero, List.set_cons_succ]
  refine wpAnyH_take (i := 8) (v := undef) rfl (by kernel_rfl) (by kernel_rfl) (by kernel_rfl) (fun _ _ _ h => h) (Or.inr ⟨by rfl, rfl⟩) ⟨kkeep jd c0, kkeep jd c1, kkeep jd c2_⟩ ?_
  try simp only [Act.put, List.getElem_toArray, List.getElem_cons_zero, List.getElem_cons_succ, List.setIfInBounds_toArray, List.set_cons_zero, List.set_cons_succ]
  refine wpAnyH_take (i := 9) (v := .bool true) rfl (by kernel_rfl) (by kernel_rfl) (by kernel_rfl) (fun _ _ _ h => h) (Or.inl ⟨by rfl, fun w _hS => rfl⟩) ⟨kkeep jd c0, kkeep jd c1, kkeep jd c2_⟩ ?_
  try simp only [Act.put, List.getElem_toArray, List.getElem_cons_zero, List.getElem_cons_succ, List.setIfInBounds_toArray, List.set_cons_zero, List.set_cons_succ]
  refine wpAnyH_take (i := 10) (v := .bool true) rfl (by kernel_rfl) (by kernel_rfl) (by kernel_rfl) (fun _ _ _ h => h) (Or.inl ⟨by rfl, fun w _hS => rfl⟩) ⟨kkeep jd c0, kkeep jd c1, kkeep jd c2_⟩ ?_
  try simp only [Act.put, List.getElem_toArray, List.getElem_cons_zero, List.getElem_cons_succ, List.setIfInBounds_toArray, List.set_cons_zero, List.set_cons_succ]
  refine wpAnyH_take (i := 11) (v := .int .u64 X2) rfl (by kernel_rfl) (by kernel_rfl) (by kernel_rfl) (fun _ _ _ h => h) (Or.inl ⟨by rfl, fun w _hS => rfl⟩) ⟨kkeep jd c0, kkeep jd c1, kkeep jd c2_⟩ ?_
  try simp only [Act.put, List.getElem_toArray, List.getElem_cons_zero, List.getElem_cons_succ, List.setIfInBounds_toArray, List.set_cons_zero, List.set_cons_succ]
  refine wpAnyH_ready (rs := [12]) (by kernel_rfl) (by simp) ?_
  refine AllReadyH.cons rfl (fun K hK => ?_) AllReadyH.nil
  rw [if_pos (by rfl)]
  go_simp
  refine (hfH _).mono ?_
  rintro e w' ⟨rfl, hw'⟩; obtain rfl := hw'.symm; clear hw'
  go_wp2_with fail
  refine hK.out _ _ ⟨kkeep jd c0, kkeep jd c1, kkeep jd c2_⟩ (fun _ => ?_)
  clear hK K
  try simp only [Act.put, List.getElem_toArray, List.getElem_cons_zero, List.getElem_cons_succ, List.setIfInBounds_toArray, List.set_cons_zero, List.set_cons_succ]
  refine wpAnyH_take (i := 13) (v := .bool false) rfl (by kernel_rfl) (by kernel_rfl) (by kernel_rfl) (fun _ _ _ h => h) (Or.inl ⟨by rfl, fun w _hS => rfl⟩) ⟨kkeep jd c0, kkeep jd c1, kkeep jd c2_⟩ ?_
  try simp only [Act.put, List.getElem_toArray, List.getElem_cons_zero, List.getElem_cons_succ, List.setIfInBounds_toArray, List.set_cons_zero, List.set_cons_succ]
  refine wpAnyH_take (i := 14) (v := .bool false) rfl (by kernel_rfl) (by kernel_rfl) (by kernel_rfl) (fun _ _ _ h => h) (Or.inl ⟨by rfl, fun w _hS => rfl⟩) ⟨kkeep jd c0, kkeep jd c1, kkeep jd c2_⟩ ?_
  try simp only [Act.put, List.getElem_toArray, List.getElem_cons_zero, List.getElem_cons_succ, List.setIfInBounds_toArray, List.set_cons_zero, List.set_cons_succ]
  refine wpAnyH_take (i := 15) (v := .agg #[.bool s, .slice p l c, .slice q k d]) rfl (by kernel_rfl) (by kernel_rfl) (by kernel_rfl) (fun _ _ _ h => h) (Or.inl ⟨by rfl, fun w _hS => exL rfl _ rfl (load43 w B0 s p l c q k d _hS.1 _hS.2.1 _hS.2.2)⟩) ⟨kkeep jd c0, kkeep jd c1, kkeep jd c2_⟩ ?_
  try simp only [Act.put, List.getElem_toArray, List.getElem_cons_zero, List.getElem_cons_succ, List.setIfInBounds_toArray, List.set_cons_zero, List.set_cons_succ]
  refine wpAnyH_take (i := 16) (v := .int .u64 X2) rfl (by kernel_rfl) (by kernel_rfl) (by kernel_rfl) (fun _ _ _ h => h) (Or.inl ⟨by rfl, fun w _hS => rfl⟩) ⟨kkeep jd c0, kkeep jd c1, kkeep jd c2_⟩ ?_
  try simp only [Act.put, List.getElem_toArray, List.getElem_cons_zero, List.getElem_cons_succ, List.setIfInBounds_toArray, List.set_cons_zero, List.set_cons_succ]
  refine wpAnyH_ready (rs := [17]) (by kernel_rfl) (by simp) ?_
  refine AllReadyH.cons rfl (fun K hK => ?_) AllReadyH.nil
  rw [if_pos (by rfl)]
  go_simp
  refine (hbH _).mono ?_
  rintro e W5 ⟨s2, p2, l2, c2, q2, k2, d2, rfl, D3, g5⟩
  have j5 := jd.trans g5
  have k5 := kd.trans g5
  have hcH9 := hcH W5 s2 p2 l2 c2 q2 k2 d2 _ k5 D3
  go_wp2_with fail
  refine hK.out _ _ ⟨kkeep j5 c0, kkeep j5 c1, kkeep j5 c2_⟩ (fun _ => ?_)
  clear hK K
  try simp only [Act.put, List.getElem_toArray, List.getElem_cons_zero, List.getElem_cons_succ, List.setIfInBounds_toArray, List.set_cons_zero, List.set_cons_succ]
  refine wpAnyH_ready (rs := [18]) (by kernel_rfl) (by simp) ?_
  refine AllReadyH.cons rfl (fun K hK => ?_) AllReadyH.nil
  rw [if_pos (by rfl)]
  go_simp
  refine hcH9.mono ?_
  rintro e W6 ⟨rfl, g6⟩
  have j6 := j5.trans g6
  have k6 := k5.trans g6
  go_wp2_with fail
  refine hK.out _ _ ⟨kkeep j6 c0, kkeep j6 c1, kkeep j6 c2_⟩ (fun _ => ?_)
  clear hK K
  try simp only [Act.put, List.getElem_toArray, List.getElem_cons_zero, List.getElem_cons_succ, List.setIfInBounds_toArray, List.set_cons_zero, List.set_cons_succ]
  refine wpAnyH_take (i := 19) (v := .bool true) rfl (by kernel_rfl) (by kernel_rfl) (by kernel_rfl) (fun _ _ _ h => h) (Or.inl ⟨by rfl, fun w _hS => rfl⟩) ⟨kkeep j6 c0, kkeep j6 c1, kkeep j6 c2_⟩ ?_
  try simp only [Act.put, List.getElem_toArray, List.getElem_cons_zero, List.getElem_cons_succ, List.setIfInBounds_toArray, List.set_cons_zero, List.set_cons_succ]
  refine wpAnyH_take (i := 20) (v := .bool true) rfl (by kernel_rfl) (by kernel_rfl) (by kernel_rfl) (fun _ _ _ h => h) (Or.inl ⟨by rfl, fun w _hS => rfl⟩) ⟨kkeep j6 c0, kkeep j6 c1, kkeep j6 c2_⟩ ?_
  try simp only [Act.put, List.getElem_toArray, List.getElem_cons_zero, List.getElem_cons_succ, List.setIfInBounds_toArray, List.set_cons_zero, List.set_cons_succ]
  refine wpAnyH_take (i := 21) (v := .bool true) rfl (by kernel_rfl) (by kernel_rfl) (by kernel_rfl) (fun _ _ _ h => h) (Or.inl ⟨by rfl, fun w _hS => rfl⟩) ⟨kkeep j6 c0, kkeep j6 c1, kkeep j6 c2_⟩ ?_
  try simp only [Act.put, List.getElem_toArray, List.getElem_cons_zero, List.getElem_cons_succ, List.setIfInBounds_toArray, List.set_cons_zero, List.set_cons_succ]
  refine wpAnyH_take (i := 22) (v := .bool true) rfl (by kernel_rfl) (by kernel_rfl) (by kernel_rfl) (fun _ _ _ h => h) (Or.inl ⟨by rfl, fun w _hS => rfl⟩) ⟨kkeep j6 c0, kkeep j6 c1, kkeep j6 c2_⟩ ?_
  try simp only [Act.put, List.getElem_toArray, List.getElem_cons_zero, List.getElem_cons_succ, List.setIfInBounds_toArray, List.set_cons_zero, List.set_cons_succ]
  refine wpAnyH_done (by kernel_rfl) ?_ _
  go_wp2
  exact bodyPost_ret (v := .bool true) (by simp [results, Tryz.results42, go_sem]) rfl ⟨rfl, k6⟩
end Go.Proofs.YteedfmghgkmofaaGreatDoor
namespace Go.Proofs.YteedfmghgkmofaaGreatDoor
open Go.RowKit
/-- a pattern, as one of a number -/
def nmP (X : Nat) : Nat := if X % 9223372036854775808 < 9218868437227405312 then X else X &&& 9227875636482146303
theorem nmP_fin (X : Nat) : nmP X % 9223372036854775808 < 9218868437227405312 := by
  unfold nmP
  by_cases c : X % 9223372036854775808 < 9218868437227405312
  · rw [if_pos c]; exact c
  · rw [if_neg c]
    have e : (X &&& 9227875636482146303) % 2 ^ 63 = X &&& 4503599627370495 := by
      rw [← Nat.and_two_pow_sub_one_eq_mod, Nat.and_assoc]; rfl
    have h : X &&& 4503599627370495 ≤ 4503599627370495 := Nat.and_le_right
    rw [show (2 : Nat) ^ 63 = 9223372036854775808 from by decide] at e
    omega
theorem nmP_lt (X : Nat) (h : X < 18446744073709551616) : nmP X < 18446744073709551616 := by
  unfold nmP
  by_cases c : X % 9223372036854775808 < 9218868437227405312
  · rw [if_pos c]; exact h
  · rw [if_neg c]
    have : X &&& 9227875636482146303 ≤ X := Nat.and_le_left
    omega
set_option maxRecDepth 20000 in
set_option maxHeartbeats 400000 in
theorem number4_ (X : Nat) (hX : X < 18446744073709551616) (w : World) : Calls Tryz.prog 37 #[.int .u64 (X : Int)] w fun e w' => e = .returned (.int .u64 ((nmP X : Nat) : Int)) ∧ w' = w := by
  have hf := fin4_ X hX
  unfold nmP
  by_cases c : X % 9223372036854775808 < 9218868437227405312
  · rw [if_pos c]
    rw [decide_eq_true c] at hf
    clear c hX
    go_enter Tryz.func37, Tryz.ntmps37
    go_wp2_with (first | (go_at_call 63; refine (hf _).mono ?_; rintro e w' ⟨rfl, hw'⟩; obtain rfl := hw'.symm; clear hw'))
    exact bodyPost_ret (v := .int .u64 (X : Int)) (by simp [results, Tryz.results37, go_sem]) rfl ⟨rfl, rfl⟩
  · rw [if_neg c]
    rw [decide_eq_false c] at hf
    have h1 := u64_andNot_nat X 9218868437227405312 hX (by decide)
    rw [show 18446744073709551615 - 9218868437227405312 = 9227875636482146303 from rfl, show (((9218868437227405312 : Nat) : Int)) = 9218868437227405312 from rfl] at h1
    generalize X &&& 9227875636482146303 = Z at *
    clear c hX
    go_enter Tryz.func37, Tryz.ntmps37
    go_wp2_with (first | (go_at_call 63; refine (hf _).mono ?_; rintro e w' ⟨rfl, hw'⟩; obtain rfl := hw'.symm; clear hw'))
    exact bodyPost_ret (v := .int .u64 (Z : Int)) (by simp [results, Tryz.results37, go_sem]) rfl ⟨rfl, rfl⟩
theorem tkS_fin (X Y : Nat) (pr : Bool) (hX : X % 9223372036854775808 < 9218868437227405312) (hY : Y % 9223372036854775808 < 9218868437227405312) : tkS X Y pr = 0 := by
  unfold tkS
  cases pr
  · simp only [Bool.false_eq_true, if_false]; unfold xS tS; rw [if_neg (by omega), if_neg (by omega)]
  · simp only [if_true]; unfold yS; rw [if_pos ⟨hX, hY⟩]
end Go.Proofs.YteedfmghgkmofaaGreatDoor
namespace Go.Proofs.YteedfmghgkmofaaGreatDoor
open Go.RowKit
/-- what the terms, as numbers, add -/
def tnV (K : Nat) (t : Tm) : Int := tkV K (nmP t.1) (nmP t.2.1) t.2.2
def tsV (K : Nat) : List Tm → Int
  | [] => 0
  | t :: L => tnV K t + tsV K L
theorem tsV_take (K : Nat) (L : List Tm) : ∀ i, i < L.length → tsV K (L.take (i + 1)) = tsV K (L.take i) + tnV K (L.getD i (0, 0, false)) := by
  induction L with
  | nil => intro i h; simp at h
  | cons x xs ih =>
    intro i h
    cases i with
    | zero => simp [tsV]
    | succ i =>
      have e := ih i (by simpa using h)
      simp only [List.take_succ_cons, tsV, List.getD_cons_succ] at e ⊢
      rw [e]; omega
theorem ftake4_ (X Y : Nat) (pr : Bool) (K : Nat) (hK : K = 1074) (hX : X < 18446744073709551616) (hY : Y < 18446744073709551616) (fX : X % 9223372036854775808 < 9218868437227405312) (fY : Y % 9223372036854775808 < 9218868437227405312) (b : Nat) (V : Int) (k : Nat) (hk : k < 4611686018427387904) (w : World) (h : Fs w b V k K) : Calls Tryz.prog 34 #[.pointer (some ⟨b, 0, none⟩), .agg #[.int .u64 (X : Int), .int .u64 (Y : Int), .bool pr]] w fun e w' => (∃ v, e = .returned v) ∧ Fs w' b (V + tkV K X Y pr) (k + 1) K ∧ Kb b w w' := by
  obtain ⟨ws, h1, h2, h3, h4⟩ := h
  refine (take4_ X Y pr K hK hX hY b V k 0 hk w ⟨ws, h1, h2⟩).mono ?_
  rintro e w' ⟨hv, ⟨ws', q1, q2⟩, q3⟩
  rw [tkS_fin X Y pr fX fY] at q2
  refine ⟨hv, ⟨ws', q1, q2, by omega, Fs.grow k V _ K h4 (tkV_le K hK X Y pr)⟩, q3⟩
end Go.Proofs.YteedfmghgkmofaaGreatDoor
namespace Go.Proofs.YteedfmghgkmofaaGreatDoor
open Go.RowKit
set_option linter.unusedVariables false
set_option maxRecDepth 20000 in
set_option maxHeartbeats 1000000 in
theorem about4_ (K : Nat) (hK : K = 1074) (V : Int) (C N : Nat) (hC : 0 < C) (hN : N ≤ 200000) (L H : Int) (hA : Ab V C L H) (s : Bool) (p : Option Addr) (l c : Nat) (q : Option Addr) (k d : Nat) (B : Nat) (w : World) (hq : XP B w s p l c q k d V (C * 2 ^ K) N) : Calls Tryz.prog 42 #[.agg #[.bool s, .slice p l c, .slice q k d], .int .u64 ((pz L : Nat) : Int), .int .u64 ((pz H : Nat) : Int)] w fun e w' => e = .returned (.bool true) ∧ Kp w w' := by
  have hP := Nat.two_pow_pos K
  have hbd : -9218868437227405312 ≤ L ∧ L ≤ 9218868437227405312 ∧ -9218868437227405312 ≤ H ∧ H ≤ 9218868437227405312 ∧ L < 9218868437227405312 ∧ -9218868437227405312 < H := by rcases hA with h | h <;> omega
  obtain ⟨b1, b2, b3, b4, b5, b6⟩ := hbd
  have nL := pz_ne L b1 b2
  have nH := pz_ne H b3 b4
  have cL : ∀ (x : Int), -9218868437227405312 < L → L < 9218868437227405312 → cmI (vZ L * (C : Int)) V = x → ∀ (W : World) (s2 : Bool) (p2 : Option Addr) (l2 c2 : Nat) (q2 : Option Addr) (k2 d2 : Nat) (b2 : Nat), Kp w W → Dy b2 W s2 p2 l2 c2 q2 k2 d2 (vZ L) K → Calls Tryz.prog 78 #[.agg #[.bool s2, .slice p2 l2 c2, .slice q2 k2 d2], .agg #[.bool s, .slice p l c, .slice q k d]] W fun e w' => e = .returned (.int .i64 x) ∧ Kp W w' := by
    intro x h1 h2 hx W s2 p2 l2 c2 q2 k2 d2 bb g D
    have hl : (vZ L).natAbs < 2 ^ (K + 1024) := iv_lt (decide (L < 0)) L.natAbs K hK (by omega)
    have h := xcmp_ (vZ L) V (2 ^ K) (C * 2 ^ K) (K + 1024) N (by omega) hN s2 p2 l2 c2 q2 k2 d2 s p l c q k d bb B W (D.xp (K + 1024) hl (by omega)) (hq.kp g)
    rw [(cm_scale (vZ L) V C (2 ^ K) hP).1, hx] at h
    exact h
  have cH : ∀ (x : Int), -9218868437227405312 < H → H < 9218868437227405312 → cmI V (vZ H * (C : Int)) = x → ∀ (W : World) (s2 : Bool) (p2 : Option Addr) (l2 c2 : Nat) (q2 : Option Addr) (k2 d2 : Nat) (b2 : Nat), Kp w W → Dy b2 W s2 p2 l2 c2 q2 k2 d2 (vZ H) K → Calls Tryz.prog 78 #[.agg #[.bool s, .slice p l c, .slice q k d], .agg #[.bool s2, .slice p2 l2 c2, .slice q2 k2 d2]] W fun e w' => e = .returned (.int .i64 x) ∧ Kp W w' := by
    intro x h1 h2 hx W s2 p2 l2 c2 q2 k2 d2 bb g D
    have hl : (vZ H).natAbs < 2 ^ (K + 1024) := iv_lt (decide (H < 0)) H.natAbs K hK (by omega)
    have h := xcmp_ V (vZ H) (C * 2 ^ K) (2 ^ K) N (K + 1024) hN (by omega) s p l c q k d s2 p2 l2 c2 q2 k2 d2 B bb W (hq.kp g) (D.xp (K + 1024) hl (by omega))
    rw [(cm_scale (vZ H) V C (2 ^ K) hP).2, hx] at h
    exact h
  rcases hA with ⟨e1, e2, e3, e4⟩ | ⟨e1, e2, e3, e4, e5⟩
  · subst e1
    exact aboutE_ (fun b W s2 p2 l2 c2 q2 k2 d2 i => Dy b W s2 p2 l2 c2 q2 k2 d2 (if i = 0 then vZ L else vZ L) K) _ _ s p l c q k d w (beq_eq_false_iff_ne.2 nL.1) (beq_eq_false_iff_ne.2 nH.1) (beq_eq_false_iff_ne.2 (nL.2.2.1 (by omega))) (beq_eq_false_iff_ne.2 (nH.2.2.2 (by omega))) (beq_eq_false_iff_ne.2 nL.2.1) (beq_eq_false_iff_ne.2 nH.2.1) (beq_self_eq_true _) (fun W => by have h := fin4_ (pz L) (pz_lt4 L (by omega) (by omega)) W; rw [pz_fin L (by omega) (by omega), decide_eq_true ⟨by omega, by omega⟩] at h; exact h) (fun W => (dyfrom_ (decide (L < 0)) L.natAbs K hK (by omega) W).mono (by rintro e w' ⟨s2, p2, l2, c2, q2, k2, d2, rfl, D, g⟩; exact ⟨s2, p2, l2, c2, q2, k2, d2, rfl, D, g⟩)) (fun W s2 p2 l2 c2 q2 k2 d2 bb g D => cL 0 e2 e3 (by rw [e4]; exact cmI_eq9 V) W s2 p2 l2 c2 q2 k2 d2 bb g D)
  · have hne := pz_inj L H b1 b2 b3 b4 (by omega)
    have hst : ∀ W : World, Calls Tryz.prog 79 #[.int .u64 ((pz L : Nat) : Int)] W fun e w' => e = .returned (.int .u64 ((pz H : Nat) : Int)) ∧ w' = W := fun W => by rw [e1]; exact step4_ L b1 b5 W
    by_cases c1 : -9218868437227405312 < L
    · by_cases cc2 : H < 9218868437227405312
      · exact aboutFF_ (fun b W s2 p2 l2 c2 q2 k2 d2 i => Dy b W s2 p2 l2 c2 q2 k2 d2 (if i = 0 then vZ L else vZ H) K) _ _ s p l c q k d w (beq_eq_false_iff_ne.2 nL.1) (beq_eq_false_iff_ne.2 nH.1) (beq_eq_false_iff_ne.2 (nL.2.2.1 (by omega))) (beq_eq_false_iff_ne.2 (nH.2.2.2 (by omega))) (beq_eq_false_iff_ne.2 nL.2.1) (beq_eq_false_iff_ne.2 nH.2.1) (beq_eq_false_iff_ne.2 hne) hst (fun W => by have h := fin4_ (pz L) (pz_lt4 L (by omega) (by omega)) W; rw [pz_fin L (by omega) (by omega), decide_eq_true ⟨c1, b5⟩] at h; exact h) (fun W => by have h := fin4_ (pz H) (pz_lt4 H (by omega) (by omega)) W; rw [pz_fin H (by omega) (by omega), decide_eq_true ⟨b6, cc2⟩] at h; exact h) (fun W => (dyfrom_ (decide (L < 0)) L.natAbs K hK (by omega) W).mono (by rintro e w' ⟨s2, p2, l2, c2, q2, k2, d2, rfl, D, g⟩; exact ⟨s2, p2, l2, c2, q2, k2, d2, rfl, D, g⟩)) (fun W s2 p2 l2 c2 q2 k2 d2 bb g D => cL (-1) c1 b5 (cmI_lt9 _ _ (e4 c1)) W s2 p2 l2 c2 q2 k2 d2 bb g D) (fun W => (dyfrom_ (decide (H < 0)) H.natAbs K hK (by omega) W).mono (by rintro e w' ⟨s2, p2, l2, c2, q2, k2, d2, rfl, D, g⟩; exact ⟨s2, p2, l2, c2, q2, k2, d2, rfl, D, g⟩)) (fun W s2 p2 l2 c2 q2 k2 d2 bb g D => cH (-1) b6 cc2 (cmI_lt9 _ _ (e5 cc2)) W s2 p2 l2 c2 q2 k2 d2 bb g D)
      · exact aboutFI_ (fun b W s2 p2 l2 c2 q2 k2 d2 i => Dy b W s2 p2 l2 c2 q2 k2 d2 (if i = 0 then vZ L else vZ H) K) _ _ s p l c q k d w (beq_eq_false_iff_ne.2 nL.1) (beq_eq_false_iff_ne.2 nH.1) (beq_eq_false_iff_ne.2 (nL.2.2.1 (by omega))) (beq_eq_false_iff_ne.2 (nH.2.2.2 (by omega))) (beq_eq_false_iff_ne.2 nL.2.1) (beq_eq_false_iff_ne.2 nH.2.1) (beq_eq_false_iff_ne.2 hne) hst (fun W => by have h := fin4_ (pz L) (pz_lt4 L (by omega) (by omega)) W; rw [pz_fin L (by omega) (by omega), decide_eq_true ⟨c1, b5⟩] at h; exact h) (fun W => by have h := fin4_ (pz H) (pz_lt4 H (by omega) (by omega)) W; rw [pz_fin H (by omega) (by omega), decide_eq_false (by omega)] at h; exact h) (fun W => (dyfrom_ (decide (L < 0)) L.natAbs K hK (by omega) W).mono (by rintro e w' ⟨s2, p2, l2, c2, q2, k2, d2, rfl, D, g⟩; exact ⟨s2, p2, l2, c2, q2, k2, d2, rfl, D, g⟩)) (fun W s2 p2 l2 c2 q2 k2 d2 bb g D => cL (-1) c1 b5 (cmI_lt9 _ _ (e4 c1)) W s2 p2 l2 c2 q2 k2 d2 bb g D)
    · have cc2 : H < 9218868437227405312 := by omega
      exact aboutIF_ (fun b W s2 p2 l2 c2 q2 k2 d2 i => Dy b W s2 p2 l2 c2 q2 k2 d2 (if i = 0 then vZ L else vZ H) K) _ _ s p l c q k d w (beq_eq_false_iff_ne.2 nL.1) (beq_eq_false_iff_ne.2 nH.1) (beq_eq_false_iff_ne.2 (nL.2.2.1 (by omega))) (beq_eq_false_iff_ne.2 (nH.2.2.2 (by omega))) (beq_eq_false_iff_ne.2 nL.2.1) (beq_eq_false_iff_ne.2 nH.2.1) (beq_eq_false_iff_ne.2 hne) hst (fun W => by have h := fin4_ (pz L) (pz_lt4 L (by omega) (by omega)) W; rw [pz_fin L (by omega) (by omega), decide_eq_false (by omega)] at h; exact h) (fun W => by have h := fin4_ (pz H) (pz_lt4 H (by omega) (by omega)) W; rw [pz_fin H (by omega) (by omega), decide_eq_true ⟨b6, cc2⟩] at h; exact h) (fun W => (dyfrom_ (decide (H < 0)) H.natAbs K hK (by omega) W).mono (by rintro e w' ⟨s2, p2, l2, c2, q2, k2, d2, rfl, D, g⟩; exact ⟨s2, p2, l2, c2, q2, k2, d2, rfl, D, g⟩)) (fun W s2 p2 l2 c2 q2 k2 d2 bb g D => cH (-1) b6 cc2 (cmI_lt9 _ _ (e5 cc2)) W s2 p2 l2 c2 q2 k2 d2 bb g D)
end Go.Proofs.YteedfmghgkmofaaGreatDoor
namespace Go.Proofs.YteedfmghgkmofaaGreatDoor
open Go.RowKit
set_option linter.unusedVariables false
def H3c (w : World) (b : Nat) (v0 v1 v2 : Value) : Prop := w.cell? ⟨b, 0, none⟩ = some v0 ∧ w.cell? ⟨b, 1, none⟩ = some v1 ∧ w.cell? ⟨b, 2, none⟩ = some v2 ∧ w.frozen? ⟨b, 0, none⟩ = false ∧ w.frozen? ⟨b, 1, none⟩ = false ∧ w.frozen? ⟨b, 2, none⟩ = false
theorem H3c.keep {W w : World} {b : Nat} {v0 v1 v2 : Value} (h : H3c W b v0 v1 v2) (g : Kp W w) : H3c w b v0 v1 v2 := by
  obtain ⟨h0, h1, h2, h3, h4, h5⟩ := h
  exact ⟨kkeep g h0, kkeep g h1, kkeep g h2, (kfro g (cell_lt h0)).trans h3, (kfro g (cell_lt h0)).trans h4, (kfro g (cell_lt h0)).trans h5⟩
theorem H3c.new (w : World) (v0 v1 v2 : Value) (t : TypeId) : H3c (w.alloc (.cells #[v0, v1, v2] t)) w.heap.size v0 v1 v2 := by
  unfold H3c; simp [go_sem]
theorem H3c.lt {w : World} {b : Nat} {v0 v1 v2 : Value} (h : H3c w b v0 v1 v2) : b < w.heap.size := cell_lt h.1
set_option maxRecDepth 20000 in
set_option maxHeartbeats 1000000 in
theorem H3c.put {w : World} {b : Nat} {v0 v1 v2 : Value} (h : H3c w b v0 v1 v2) (u0 u1 u2 : Value) : H3c ((((w.setCell ⟨b, 0, none⟩ u0).setCell ⟨b, 1, none⟩ u1).setCell ⟨b, 2, none⟩ u2)) b u0 u1 u2 := by
  obtain ⟨h0, h1, h2, h3, h4, h5⟩ := h
  unfold H3c; simp [go_sem, h0, h1, h2, h3, h4, h5]
theorem xV_fin (n : Bool) (m K : Nat) (hm : m < 9218868437227405312) : xV (Fq.wD n m) K = tV n m K := by
  obtain ⟨p1, p2⟩ := wD_parts n m (by omega)
  unfold xV; rw [p1, p2, if_pos hm]
theorem yV_fin (n n' : Bool) (m m' : Nat) (hm : m < 9218868437227405312) (hm' : m' < 9218868437227405312) : yV (Fq.wD n m) (Fq.wD n' m') = Iv n m * Iv n' m' := by
  obtain ⟨p1, p2⟩ := wD_parts n m (by omega)
  obtain ⟨p3, p4⟩ := wD_parts n' m' (by omega)
  unfold yV; rw [p1, p2, p3, p4, if_pos ⟨hm, hm'⟩]
theorem own_ne (p : Option Addr) (l c b : Nat) (h : ∀ a, p = some a → a.block ≠ b) : ∀ g, (Value.slice p l c).ownBlock = some g → g ≠ b := by
  intro g hg
  cases p with
  | none => simp [Value.ownBlock] at hg
  | some a => simp [Value.ownBlock] at hg; rw [← hg]; exact h a rfl
theorem Dy.kb {base : Nat} {w w' : World} {s1 : Bool} {p1 : Option Addr} {l1 c1 : Nat} {q1 : Option Addr} {k1 d1 : Nat} {V : Int} {E : Nat} {g : Nat} (h : Dy base w s1 p1 l1 c1 q1 k1 d1 V E) (k : Kb g w w') (hn : NB p1 q1 g) : Dy base w' s1 p1 l1 c1 q1 k1 d1 V E := by
  obtain ⟨a, j, h1, h2, h3⟩ := h
  exact ⟨a, j, h1.kb k (own_ne _ _ _ _ hn.1), h2.kb k (own_ne _ _ _ _ hn.2), h3⟩
theorem H3c.kb {g : Nat} {w w' : World} {b : Nat} {v0 v1 v2 : Value} (h : H3c w b v0 v1 v2) (k : Kb g w w') (hne : b ≠ g) : H3c w' b v0 v1 v2 := by
  have hl := cell_lt h.1
  have hb := k.2.2.2.2 b hl hne
  obtain ⟨h0, h1, h2, h3, h4, h5⟩ := h
  refine ⟨k.arr hne h0, k.arr hne h1, k.arr hne h2, ?_, ?_, ?_⟩
  · rw [← h3]; unfold World.frozen?; simp only [hb]
  · rw [← h4]; unfold World.frozen?; simp only [hb]
  · rw [← h5]; unfold World.frozen?; simp only [hb]
/-- the exact sum: three cells at b that hold V of 2^-E; its rows lie neither there nor at bs -/
def Qs (w : World) (b bs : Nat) (V : Int) (E : Nat) : Prop := ∃ (s1 : Bool) (p1 : Option Addr) (l1 c1 : Nat) (q1 : Option Addr) (k1 d1 : Nat), H3c w b (.bool s1) (.slice p1 l1 c1) (.slice q1 k1 d1) ∧ Dy 0 w s1 p1 l1 c1 q1 k1 d1 V E ∧ NB p1 q1 b ∧ NB p1 q1 bs
theorem Qs.kp {w w' : World} {b bs : Nat} {V : Int} {E : Nat} (h : Qs w b bs V E) (g : Kp w w') : Qs w' b bs V E := by
  obtain ⟨s1, p1, l1, c1, q1, k1, d1, h1, h2, h3⟩ := h
  exact ⟨s1, p1, l1, c1, q1, k1, d1, h1.keep g, h2.kp g, h3⟩
theorem Qs.kb {w w' : World} {b bs : Nat} {V : Int} {E : Nat} (h : Qs w b bs V E) (g : Kb bs w w') (hne : b ≠ bs) : Qs w' b bs V E := by
  obtain ⟨s1, p1, l1, c1, q1, k1, d1, h1, h2, h3, h4⟩ := h
  exact ⟨s1, p1, l1, c1, q1, k1, d1, h1.kb g hne, h2.kb g h4, h3, h4⟩
theorem tb_b (K k : Nat) (V : Int) (hK : K = 1074) (hk : k ≤ 1000) (h : V.natAbs ≤ k * tb K) : V.natAbs < 2 ^ (K + K + 2058) := by
  have e : 2 ^ (K + K + 2058) = 1024 * tb K := by
    unfold tb
    rw [show K + K + 2058 = 10 + (2 * K + 2048) from by omega, Nat.pow_add]
  rw [e]
  have h1 : k * tb K ≤ 1000 * tb K := Nat.mul_le_mul hk (Nat.le_refl _)
  have h2 : 0 < tb K := Nat.two_pow_pos _
  omega
theorem fs_b {w : World} {b : Nat} {V : Int} {k K : Nat} (h : Fs w b V k K) (hK : K = 1074) (hk : k ≤ 1000) : V.natAbs < 2 ^ (K + K + 2058) := by
  obtain ⟨ws, -, -, -, h4⟩ := h
  exact tb_b K k V hK hk h4
theorem tk_b (K : Nat) (hK : K = 1074) (X Y : Nat) (pr : Bool) : (tkV K X Y pr).natAbs < 2 ^ (K + K + 2058) := tb_b K 1 _ hK (by decide) (by have := tkV_le K hK X Y pr; omega)
theorem dysign_ (s1 : Bool) (p1 : Option Addr) (l1 c1 : Nat) (q1 : Option Addr) (k1 d1 : Nat) (V : Int) (E B : Nat) (hB : B ≤ 60000) (hV : V.natAbs < 2 ^ B) (b1 : Nat) (w : World) (h : Dy b1 w s1 p1 l1 c1 q1 k1 d1 V E) : Calls Tryz.prog 41 #[.agg #[.bool s1, .slice p1 l1 c1, .slice q1 k1 d1]] w fun e w' => e = .returned (.int .i64 (sgV V)) ∧ Kp w w' := by
  obtain ⟨a, j, h1, h2, ⟨g1, g2, g3⟩, h4⟩ := h
  have ha : a ≤ V.natAbs := by
    have : a * 1 ≤ a * 2 ^ (E - j) := Nat.mul_le_mul (Nat.le_refl _) Nat.one_le_two_pow
    omega
  have hr := rsign_ s1 (.slice p1 l1 c1) (.slice q1 k1 d1) a w h1.ls (by have := (blen_le_iff a B).2 (by omega); omega)
  have e : (if a = 0 then (0 : Int) else if s1 = true then -1 else 1) = sgV V := by
    unfold sgV
    by_cases z : V = 0
    · have : a = 0 := by
        have hp := Nat.two_pow_pos (E - j)
        rw [z] at g3
        rcases Nat.mul_eq_zero.1 (g3.trans (by rfl)) with h | h <;> omega
      rw [if_pos this, if_neg (by omega), if_pos z]
    · have : a ≠ 0 := by
        rintro rfl
        rw [Nat.zero_mul] at g3; omega
      rw [if_neg this, h4 z]
      by_cases n : V < 0
      · rw [if_pos n]; simp [n]
      · rw [if_neg n, if_neg z]; simp [n]
  rw [e] at hr
  exact hr
end Go.Proofs.YteedfmghgkmofaaGreatDoor
namespace Go.Proofs.YteedfmghgkmofaaGreatDoor
open Go.RowKit
set_option linter.unusedVariables false
set_option maxRecDepth 20000 in
set_option maxHeartbeats 8000000 in
theorem ttightA_ (K : Nat) (hK : K = 1074) (p : Option Addr) (c : Nat) (L : List Tm) (hok : TmOk L) (h3 : 1000 < L.length) (M : Nat) (hM1 : 1 ≤ M) (hM2 : M < 9223372036854775808) (w : World) (ha : ArrT w p L) (hT : Tab w) (hQ : Fq.Tab w) : Calls Tryz.prog 6 #[.slice p L.length c, .int .i64 (M : Int)] w fun e w' => e = .returned (.bool true) ∧ Kp w w' := by
  have hlv := lives_ w hT hQ
  obtain ⟨N, hN⟩ : ∃ N, N = L.length := ⟨_, rfl⟩
  rw [← hN] at h3 ⊢
  have j9 : (1000 : Int) < (N : Int) := by omega
  have j7 : ¬ ((M : Int) < 1) := by omega
  have HT : Hid (Tab w ∧ Fq.Tab w) := ⟨hT, hQ⟩
  have HN0 : Hid (N = L.length ∧ ArrT w p L ∧ TmOk L ∧ K = 1074 ∧ 1000 ≤ N ∧ 1000 ≤ 1000) := ⟨hN, ha, hok, hK, by omega, by omega⟩
  clear hN ha hok hK hT hQ h3
  go_enter Tryz.func6, Tryz.ntmps6
  go_wp2_with fail
  refine hlv.mono ?_
  rintro e wa ⟨rfl, ga⟩
  go_wp2_with fail
  refine (fnew_ K _).mono ?_
  rintro e wb ⟨rfl, F0, gb⟩
  have hk : Kp w wb := ga.trans gb
  have hz : w.heap.size ≤ wa.heap.size := ga.size
  clear ga gb hlv
  generalize wa.heap.size = bs at *
  go_wp2_with fail
  refine (int0X_ (K + K) _).mono ?_
  rintro e wc_ ⟨s1, p1, l1, c1, q1, k1, d1, rfl, hD0, gc⟩
  have hbs : bs < wb.heap.size := F0.lt
  have HS : Hid (Fs (wc_.alloc (.cells #[.bool s1, .slice p1 l1 c1, .slice q1 k1 d1] 43)) bs (tsV K (L.take 0)) 0 K ∧ Qs (wc_.alloc (.cells #[.bool s1, .slice p1 l1 c1, .slice q1 k1 d1] 43)) wc_.heap.size bs (tsV K (L.take 0)) (K + K) ∧ Kp w (wc_.alloc (.cells #[.bool s1, .slice p1 l1 c1, .slice q1 k1 d1] 43))) :=
    ⟨by simpa [tsV] using (F0.kp gc).kp ((Kp.refl _).alloc _), by simpa [tsV] using (show Qs (wc_.alloc (.cells #[.bool s1, .slice p1 l1 c1, .slice q1 k1 d1] 43)) wc_.heap.size bs 0 (K + K) from ⟨s1, p1, l1, c1, q1, k1, d1, H3c.new _ _ _ _ _, (hD0.mono (Nat.zero_le _)).kp ((Kp.refl _).alloc _), hD0.nbNew (Nat.le_refl _), hD0.nbLow hbs⟩), (hk.trans gc).alloc _⟩
  obtain ⟨hN, ha, hok, hK, hkN, hk3⟩ := HN0.out
  have HN : Hid (N = L.length ∧ ArrT w p L ∧ TmOk L ∧ w.heap.size ≤ bs ∧ 1000 ≤ N ∧ 1000 ≤ 1000 ∧ K = 1074 ∧ bs < wc_.heap.size) := ⟨hN, ha, hok, hz, hkN, hk3, hK, by have := gc.size; omega⟩
  clear HN0 hN ha hok hK hkN hk3 F0 hk hz hD0 gc hbs
  go_wp2_with fail
  generalize wc_.alloc (.cells #[.bool s1, .slice p1 l1 c1, .slice q1 k1 d1] 43) = wd at *
  generalize wc_.heap.size = bq at *
  go_loopw [8, 9, 10] (fun ii tt xx wr => ∃ i : Nat, ii = .int .i64 (i : Int) ∧ i ≤ 1000 ∧ Fs wr bs (tsV K (L.take i)) i K ∧ Qs wr bq bs (tsV K (L.take i)) (K + K) ∧ Kp w wr) (fun i _ _ _ => 1000 - (intOf i).toNat)
  case atStart => exact ⟨0, rfl, Nat.zero_le _, HS.out.1, HS.out.2.1, HS.out.2.2⟩
  case round =>
    obtain ⟨i, rfl, hi, hF, hQ1, hk⟩ := hrel
    clear HS
    obtain ⟨hN, ha, hok, hz, hkN, hk3, hK, hbq⟩ := HN.out
    by_cases ci : i < 1000
    · obtain ⟨oX, oY⟩ := hok i (by omega)
      have hts := tsV_take K L i (by omega)
      rcases ha with ha | ⟨bl, off, rfl, ha⟩
      · rw [ha] at hN; simp at hN; omega
      obtain ⟨e0, e1, e2⟩ := ha i (by omega)
      have e0 := kkeep hk e0
      have e1 := kkeep hk e1
      have e2 := kkeep hk e2
      obtain ⟨X, hX⟩ : ∃ X, X = (L.getD i (0, 0, false)).1 := ⟨_, rfl⟩
      obtain ⟨Y, hY⟩ : ∃ Y, Y = (L.getD i (0, 0, false)).2.1 := ⟨_, rfl⟩
      obtain ⟨pr, hpr⟩ : ∃ pr, pr = (L.getD i (0, 0, false)).2.2 := ⟨_, rfl⟩
      unfold tnV at hts
      rw [← hX] at e0 oX hts
      rw [← hY] at e1 oY hts
      rw [← hpr] at e2 hts
      have hnX := number4_ X oX
      have hnY := number4_ Y oY
      have j1 : (i : Int) < 1000 := by omega
      have j2 : i + 1 ≤ 1000 := by omega
      have j3 : 1000 - (i + 1) < 1000 - i := by omega
      have j4 : i < N := by omega
      have j5 : (i : Int) < (N : Int) := by omega
      have j6 : i + 1 ≤ 1000 := by omega
      have e0 : wr.drew.cell? ⟨bl, off + i * 3, none⟩ = some (.int .u64 (X : Int)) := e0
      have e1 : wr.drew.cell? ⟨bl, off + i * 3 + 1, none⟩ = some (.int .u64 (Y : Int)) := e1
      have e2 : wr.drew.cell? ⟨bl, off + i * 3 + 2, none⟩ = some (.bool pr) := e2
      obtain ⟨n1, m1, hm1, hn1⟩ := Fq.exD (nmP X) (nmP_lt X oX)
      obtain ⟨n2, m2, hm2, hn2⟩ := Fq.exD (nmP Y) (nmP_lt Y oY)
      have f1 := nmP_fin X
      have f2 := nmP_fin Y
      have l1 := nmP_lt X oX
      have l2 := nmP_lt Y oY
      rw [hn1] at hts hnX f1 l1
      rw [hn2] at hts hnY f2 l2
      have g1 : m1 < 9218868437227405312 := by rw [(wD_parts n1 m1 hm1).1] at f1; exact f1
      have g2 : m2 < 9218868437227405312 := by rw [(wD_parts n2 m2 hm2).1] at f2; exact f2
      have HR : Hid (Fs wr bs (tsV K (L.take i)) i K ∧ Qs wr bq bs (tsV K (L.take i)) (K + K) ∧ Kp w wr ∧ w.heap.size ≤ bs ∧ bs < bq ∧ K = 1074 ∧ tsV K (L.take (i + 1)) = tsV K (L.take i) + tkV K (Fq.wD n1 m1) (Fq.wD n2 m2) pr ∧ Fq.wD n1 m1 < 18446744073709551616 ∧ Fq.wD n2 m2 < 18446744073709551616 ∧ m1 < 9218868437227405312 ∧ m2 < 9218868437227405312 ∧ Fq.wD n1 m1 % 9223372036854775808 < 9218868437227405312 ∧ Fq.wD n2 m2 % 9223372036854775808 < 9218868437227405312) := ⟨hF, hQ1, hk, hz, hbq, hK, hts, l1, l2, g1, g2, f1, f2⟩
      clear hN ha hok hz hkN hK hi hts hX hY hpr hF hQ1 ci hk hm1 hm2 hn1 hn2 f1 f2 g1 g2 l1 l2 oX oY hbq
      obtain ⟨WX, hWX⟩ : ∃ WX : Int, WX = ((Fq.wD n1 m1 : Nat) : Int) := ⟨_, rfl⟩
      obtain ⟨WY, hWY⟩ : ∃ WY : Int, WY = ((Fq.wD n2 m2 : Nat) : Int) := ⟨_, rfl⟩
      rw [← hWX] at hnX
      rw [← hWY] at hnY
      have HW : Hid (WX = ((Fq.wD n1 m1 : Nat) : Int) ∧ WY = ((Fq.wD n2 m2 : Nat) : Int)) := ⟨hWX, hWY⟩
      clear hWX hWY
      go_upto_region 11 with fail
      go_region_held3 (fun w' => w'.cell? ⟨bl, off + i * 3, none⟩ = some (.int .u64 (X : Int)) ∧ w'.cell? ⟨bl, off + i * 3 + 1, none⟩ = some (.int .u64 (Y : Int)) ∧ w'.cell? ⟨bl, off + i * 3 + 2, none⟩ = some (.bool pr)) (first | (with_reducible exact ⟨e0, e1, e2⟩) | go_keep) (first | (go_at_call_of 37 (Value.int IntKind.u64 (X : Int)); refine (hnX _).mono ?_; rintro e w' ⟨rfl, hw'⟩; obtain rfl := hw'.symm; clear hw') | (go_at_call_of 37 (Value.int IntKind.u64 (Y : Int)); refine (hnY _).mono ?_; rintro e w' ⟨rfl, hw'⟩; obtain rfl := hw'.symm; clear hw'))
      all_goals (
        cases pr
        · obtain ⟨hF, hQ1, hk, hz, hbq, hK, hts, l1_, l2_, g1, g2, f1, f2⟩ := HR.out
          have t0 : (wr.alloc (.cells #[.int .u64 WX, .int .u64 WY, .bool false] 68)).drew.cell? ⟨wr.heap.size, 0, none⟩ = some (.int .u64 WX) := by simp [go_sem]
          have t1 : (wr.alloc (.cells #[.int .u64 WX, .int .u64 WY, .bool false] 68)).drew.cell? ⟨wr.heap.size, 1, none⟩ = some (.int .u64 WY) := by simp [go_sem]
          have t2 : (wr.alloc (.cells #[.int .u64 WX, .int .u64 WY, .bool false] 68)).drew.cell? ⟨wr.heap.size, 2, none⟩ = some (.bool false) := by simp [go_sem]
          have gA : Kp wr (wr.alloc (.cells #[.int .u64 WX, .int .u64 WY, .bool false] 68)).drew := ((Kp.refl wr).alloc _).drew
          have hbt : bs < wr.heap.size := hF.lt
          generalize (wr.alloc (.cells #[.int .u64 WX, .int .u64 WY, .bool false] 68)).drew = W1 at *
          generalize wr.heap.size = bt at *
          replace hF := hF.kp gA
          replace hQ1 := hQ1.kp gA
          replace hk := hk.trans gA
          have htk := ftake4_ (Fq.wD n1 m1) (Fq.wD n2 m2) false K hK l1_ l2_ f1 f2 bs _ i (by omega) W1 hF
          rw [← hts, ← HW.out.1, ← HW.out.2] at htk
          have HP : Hid (Qs W1 bq bs (tsV K (L.take i)) (K + K) ∧ Kp w W1 ∧ bs < bt ∧ (tsV K (L.take i)).natAbs < 2 ^ (K + K + 2058)) := ⟨hQ1, hk, hbt, fs_b hF hK (by omega)⟩
          clear hF hQ1 hk hz hbq hK hts l1_ l2_ g1 g2 f1 f2 gA hbt
          go_wp2_with fail
          refine htk.mono ?_
          rintro e W2 ⟨⟨v2, rfl⟩, hF, kb⟩
          obtain ⟨hQ1, hk, hbt, hVb⟩ := HP.out
          obtain ⟨-, -, -, hz, hbq, hK, hts, l1_, l2_, g1, g2, f1, f2⟩ := HR.out
          replace hQ1 := hQ1.kb kb (by omega)
          replace hk := kb.kp hk hz
          replace t0 := kb.arr (show bt ≠ bs by omega) t0
          replace t1 := kb.arr (show bt ≠ bs by omega) t1
          replace t2 := kb.arr (show bt ≠ bs by omega) t2
          have hfx := dyfrom_ n1 m1 K hK g1 W2
          rw [← HW.out.1] at hfx
          clear HP htk kb
          have HP : Hid (Fs W2 bs (tsV K (L.take (i + 1))) (i + 1) K ∧ Qs W2 bq bs (tsV K (L.take i)) (K + K) ∧ Kp w W2 ∧ (tsV K (L.take i)).natAbs < 2 ^ (K + K + 2058)) := ⟨hF, hQ1, hk, hVb⟩
          clear hF hQ1 hk hbt hVb hz hbq hK hts l1_ l2_ g1 g2 f1 f2
          go_wp2_with fail
          refine hfx.mono ?_
          rintro e W3 ⟨s3, p3, l3, c3, q3, k3_, d3, rfl, D3, g3⟩
          obtain ⟨hF, hQ1, hk, hVb⟩ := HP.out
          obtain ⟨s5, p5, l5, c5, q5, k5_, d5, hq, hDq, hnb1, hnb2⟩ := hQ1
          replace hF := hF.kp g3
          replace hq := hq.keep g3
          replace hDq := hDq.kp g3
          replace hk := hk.trans g3
          replace t0 := kkeep g3 t0
          replace t1 := kkeep g3 t1
          replace t2 := kkeep g3 t2
          have hx := H3c.new W3 (.bool s3) (.slice p3 l3 c3) (.slice q3 k3_ d3) 43
          have gB : Kp W3 (W3.alloc (.cells #[.bool s3, .slice p3 l3 c3, .slice q3 k3_ d3] 43)) := (Kp.refl W3).alloc _
          have hnb := hDq.nbNew (Nat.le_refl _)
          have hbx : bq < W3.heap.size := hq.lt
          have hbtx : bt < W3.heap.size := cell_lt t0
          clear g3 hfx HP
          go_upto_region 14 with fail
          generalize W3.alloc (.cells #[.bool s3, .slice p3 l3 c3, .slice q3 k3_ d3] 43) = W4 at *
          have D3 := D3.mono (Nat.zero_le _)
          replace hF := hF.kp gB
          replace hq := hq.keep gB
          replace hDq := hDq.kp gB
          replace D3 := D3.kp gB
          replace hk := hk.trans gB
          replace t0 := kkeep gB t0
          replace t1 := kkeep gB t1
          replace t2 := kkeep gB t2
          generalize W3.heap.size = bx at *
          clear gB hnb1 hnb2
          obtain ⟨-, -, -, hz, hbq, hK, hts, l1_, l2_, g1, g2, f1, f2⟩ := HR.out
          have hXb := tk_b K hK (Fq.wD n1 m1) (Fq.wD n2 m2) false
          have hxv : tkV K (Fq.wD n1 m1) (Fq.wD n2 m2) false = Iv n1 m1 * ((2 ^ K : Nat) : Int) := by
            unfold tkV; simp only [Bool.false_eq_true, if_false]; rw [xV_fin n1 m1 K g1]; rfl
          have hDx : Dy 0 W4 s3 p3 l3 c3 q3 k3_ d3 (Iv n1 m1 * ((2 ^ K : Nat) : Int)) (K + K) := D3.up K
          rw [hxv] at hts hXb
          generalize Iv n1 m1 * ((2 ^ K : Nat) : Int) = XV at *
          have hVV := hts
          clear hz hbq hK hts l1_ l2_ g1 g2 f1 f2 hxv D3 hbx
          obtain ⟨u0, u1, u2, u3, u4, u5⟩ := id hq
          obtain ⟨y0, y1, y2, y3, y4, y5⟩ := id hx
          have hra := dyadd_ s5 p5 l5 c5 q5 k5_ d5 s3 p3 l3 c3 q3 k3_ d3 (tsV K (L.take i)) _ (K + K) (K + K + 2058) (by have := HR.out.2.2.2.2.2.1; omega) (by have := HR.out.2.2.2.2.2.1; omega) hVb hXb 0 0 W4 hDq hDx
          have HY : Hid (H3c W4 bq (.bool s5) (.slice p5 l5 c5) (.slice q5 k5_ d5) ∧ Fs W4 bs (tsV K (L.take (i + 1))) (i + 1) K ∧ Kp w W4 ∧ w.heap.size ≤ bs ∧ bs < bq ∧ tsV K (L.take (i + 1)) = tsV K (L.take i) + XV) := ⟨hq, hF, hk, HR.out.2.2.2.1, HR.out.2.2.2.2.1, hVV⟩
          clear hq hx hF hk hDq hDx hVb hXb hVV hnb HR
          go_wp2_with fail
          refine hra.mono ?_
          rintro e W8 ⟨s8, p8, l8, c8, q8, k8_, d8, rfl, D8, g8⟩
          obtain ⟨hq, hF, hk, hz, hbq, hVV⟩ := HY.out
          have hql : bq < W4.heap.size := hq.lt
          replace hq := hq.keep g8
          have kbs : Kb bq W8 (((W8.setCell ⟨bq, 0, none⟩ (.bool s8)).setCell ⟨bq, 1, none⟩ (.slice p8 l8 c8)).setCell ⟨bq, 2, none⟩ (.slice q8 k8_ d8)) := ((((Kb.refl bq W8).setCell 0 _).setCell 1 _).setCell 2 _)
          have HZ : Hid (Fs (((W8.setCell ⟨bq, 0, none⟩ (.bool s8)).setCell ⟨bq, 1, none⟩ (.slice p8 l8 c8)).setCell ⟨bq, 2, none⟩ (.slice q8 k8_ d8)) bs (tsV K (L.take (i + 1))) (i + 1) K ∧ Qs (((W8.setCell ⟨bq, 0, none⟩ (.bool s8)).setCell ⟨bq, 1, none⟩ (.slice p8 l8 c8)).setCell ⟨bq, 2, none⟩ (.slice q8 k8_ d8)) bq bs (tsV K (L.take (i + 1))) (K + K) ∧ Kp w (((W8.setCell ⟨bq, 0, none⟩ (.bool s8)).setCell ⟨bq, 1, none⟩ (.slice p8 l8 c8)).setCell ⟨bq, 2, none⟩ (.slice q8 k8_ d8))) :=
            ⟨(hF.kp g8).kb kbs (by omega), ⟨s8, p8, l8, c8, q8, k8_, d8, hq.put _ _ _, by rw [hVV]; exact (D8.mono (Nat.zero_le _)).kb kbs (D8.nbLow hql), D8.nbLow hql, D8.nbLow (by omega)⟩, kbs.kp (hk.trans g8) (by omega)⟩
          obtain ⟨v0, v1, v2, v3, v4, v5⟩ := hq
          clear hF hk hz hbq hVV hql kbs HY hra g8 D8
          go_wp2
          exact ⟨⟨i + 1, by go_num, j2, HZ.out.1, HZ.out.2.1, HZ.out.2.2⟩, (show 1000 - (i + 1) < 1000 - i from j3)⟩
        · obtain ⟨hF, hQ1, hk, hz, hbq, hK, hts, l1_, l2_, g1, g2, f1, f2⟩ := HR.out
          have t0 : (wr.alloc (.cells #[.int .u64 WX, .int .u64 WY, .bool true] 68)).drew.cell? ⟨wr.heap.size, 0, none⟩ = some (.int .u64 WX) := by simp [go_sem]
          have t1 : (wr.alloc (.cells #[.int .u64 WX, .int .u64 WY, .bool true] 68)).drew.cell? ⟨wr.heap.size, 1, none⟩ = some (.int .u64 WY) := by simp [go_sem]
          have t2 : (wr.alloc (.cells #[.int .u64 WX, .int .u64 WY, .bool true] 68)).drew.cell? ⟨wr.heap.size, 2, none⟩ = some (.bool true) := by simp [go_sem]
          have gA : Kp wr (wr.alloc (.cells #[.int .u64 WX, .int .u64 WY, .bool true] 68)).drew := ((Kp.refl wr).alloc _).drew
          have hbt : bs < wr.heap.size := hF.lt
          generalize (wr.alloc (.cells #[.int .u64 WX, .int .u64 WY, .bool true] 68)).drew = W1 at *
          generalize wr.heap.size = bt at *
          replace hF := hF.kp gA
          replace hQ1 := hQ1.kp gA
          replace hk := hk.trans gA
          have htk := ftake4_ (Fq.wD n1 m1) (Fq.wD n2 m2) true K hK l1_ l2_ f1 f2 bs _ i (by omega) W1 hF
          rw [← hts, ← HW.out.1, ← HW.out.2] at htk
          have HP : Hid (Qs W1 bq bs (tsV K (L.take i)) (K + K) ∧ Kp w W1 ∧ bs < bt ∧ (tsV K (L.take i)).natAbs < 2 ^ (K + K + 2058)) := ⟨hQ1, hk, hbt, fs_b hF hK (by omega)⟩
          clear hF hQ1 hk hz hbq hK hts l1_ l2_ g1 g2 f1 f2 gA hbt
          go_wp2_with fail
          refine htk.mono ?_
          rintro e W2 ⟨⟨v2, rfl⟩, hF, kb⟩
          obtain ⟨hQ1, hk, hbt, hVb⟩ := HP.out
          obtain ⟨-, -, -, hz, hbq, hK, hts, l1_, l2_, g1, g2, f1, f2⟩ := HR.out
          replace hQ1 := hQ1.kb kb (by omega)
          replace hk := kb.kp hk hz
          replace t0 := kb.arr (show bt ≠ bs by omega) t0
          replace t1 := kb.arr (show bt ≠ bs by omega) t1
          replace t2 := kb.arr (show bt ≠ bs by omega) t2
          have hfx := dyfrom_ n1 m1 K hK g1 W2
          rw [← HW.out.1] at hfx
          clear HP htk kb
          have HP : Hid (Fs W2 bs (tsV K (L.take (i + 1))) (i + 1) K ∧ Qs W2 bq bs (tsV K (L.take i)) (K + K) ∧ Kp w W2 ∧ (tsV K (L.take i)).natAbs < 2 ^ (K + K + 2058)) := ⟨hF, hQ1, hk, hVb⟩
          clear hF hQ1 hk hbt hVb hz hbq hK hts l1_ l2_ g1 g2 f1 f2
          go_wp2_with fail
          refine hfx.mono ?_
          rintro e W3 ⟨s3, p3, l3, c3, q3, k3_, d3, rfl, D3, g3⟩
          obtain ⟨hF, hQ1, hk, hVb⟩ := HP.out
          obtain ⟨s5, p5, l5, c5, q5, k5_, d5, hq, hDq, hnb1, hnb2⟩ := hQ1
          replace hF := hF.kp g3
          replace hq := hq.keep g3
          replace hDq := hDq.kp g3
          replace hk := hk.trans g3
          replace t0 := kkeep g3 t0
          replace t1 := kkeep g3 t1
          replace t2 := kkeep g3 t2
          have hx := H3c.new W3 (.bool s3) (.slice p3 l3 c3) (.slice q3 k3_ d3) 43
          have gB : Kp W3 (W3.alloc (.cells #[.bool s3, .slice p3 l3 c3, .slice q3 k3_ d3] 43)) := (Kp.refl W3).alloc _
          have hnb := hDq.nbNew (Nat.le_refl _)
          have hbx : bq < W3.heap.size := hq.lt
          have hbtx : bt < W3.heap.size := cell_lt t0
          clear g3 hfx HP
          go_upto_region 14 with fail
          generalize W3.alloc (.cells #[.bool s3, .slice p3 l3 c3, .slice q3 k3_ d3] 43) = W4 at *
          have D3 := D3.mono (Nat.zero_le _)
          replace hF := hF.kp gB
          replace hq := hq.keep gB
          replace hDq := hDq.kp gB
          replace D3 := D3.kp gB
          replace hk := hk.trans gB
          replace t0 := kkeep gB t0
          replace t1 := kkeep gB t1
          replace t2 := kkeep gB t2
          generalize W3.heap.size = bx at *
          clear gB hnb1 hnb2
          obtain ⟨-, -, -, hz, hbq, hK, hts, l1_, l2_, g1, g2, f1, f2⟩ := HR.out
          have hXb := tk_b K hK (Fq.wD n1 m1) (Fq.wD n2 m2) true
          have hxv : tkV K (Fq.wD n1 m1) (Fq.wD n2 m2) true = Iv n1 m1 * Iv n2 m2 := by
            unfold tkV; simp only [if_true]; exact yV_fin n1 n2 m1 m2 g1 g2
          have hi1 := iv_lt n1 m1 K hK g1
          have hi2 := iv_lt n2 m2 K hK g2
          have hfy := dyfrom_ n2 m2 K hK g2 W4.drew
          rw [← HW.out.2] at hfy
          have hrm := fun (W : World) (s9 : Bool) (p9 : Option Addr) (l9 c9 : Nat) (q9 : Option Addr) (k9_ d9 b : Nat) (g : Kp W4.drew W) (h : Dy b W s9 p9 l9 c9 q9 k9_ d9 (Iv n2 m2) K) => dymul_ s3 p3 l3 c3 q3 k3_ d3 s9 p9 l9 c9 q9 k9_ d9 (Iv n1 m1) (Iv n2 m2) K (K + 1024) (by omega) (by omega) hi1 hi2 0 b W (D3.kp ((Kp.refl W4).drew.trans g)) h
          rw [hxv] at hts hXb
          generalize Iv n1 m1 * Iv n2 m2 = XV at *
          have HP : Hid (Fs W4 bs (tsV K (L.take (i + 1))) (i + 1) K ∧ H3c W4 bq (.bool s5) (.slice p5 l5 c5) (.slice q5 k5_ d5) ∧ Dy 0 W4 s5 p5 l5 c5 q5 k5_ d5 (tsV K (L.take i)) (K + K) ∧ NB p5 q5 bx ∧ Kp w W4 ∧ (tsV K (L.take i)).natAbs < 2 ^ (K + K + 2058) ∧ XV.natAbs < 2 ^ (K + K + 2058) ∧ tsV K (L.take (i + 1)) = tsV K (L.take i) + XV ∧ H3c W4 bx (.bool s3) (.slice p3 l3 c3) (.slice q3 k3_ d3) ∧ bq < bx) := ⟨hF, hq, hDq, hnb, hk, hVb, hXb, hts, hx, hbx⟩
          obtain ⟨y0, y1, y2, y3, y4, y5⟩ := hx
          clear hF hq hDq hnb hk hVb hXb hts hz hbq hK l1_ l2_ g1 g2 f1 f2 hxv D3 hbx hi1 hi2
          go_upto_region 15 with fail
          have y0 : W4.drew.cell? ⟨bx, 0, none⟩ = some (.bool s3) := y0
          have y1 : W4.drew.cell? ⟨bx, 1, none⟩ = some (.slice p3 l3 c3) := y1
          have y2 : W4.drew.cell? ⟨bx, 2, none⟩ = some (.slice q3 k3_ d3) := y2
          have t1 : W4.drew.cell? ⟨bt, 1, none⟩ = some (.int .u64 WY) := t1
          go_region_with (first | (go_at_call 38; refine hfy.mono ?_; rintro e W5 ⟨s9, p9, l9, c9, q9, k9_, d9, rfl, D9, k9⟩; have x0 := kkeep k9 y0; have x1 := kkeep k9 y1; have x2 := kkeep k9 y2) | (go_at_call 39; refine (hrm _ _ _ _ _ _ _ _ _ k9 D9).mono ?_; rintro e W6 ⟨s6, p6, l6, c6, q6, k6_, d6, rfl, D6, g6⟩; have k6 := k9.trans g6; have HX := H3c.keep HP.out.2.2.2.2.2.2.2.2.1 ((Kp.refl W4).drew.trans k6); obtain ⟨z0, z1, z2, z3, z4, z5⟩ := id HX))
          all_goals (
            obtain ⟨hF, hq, hDq, hnb, hk, hVb, hXb, hVV, -, hbx⟩ := HP.out
            have g4 := (Kp.refl W4).drew.trans k6
            have hbl : bx < W5.heap.size := cell_lt (kkeep k9 y0)
            have hz := HR.out.2.2.2.1
            have hbq := HR.out.2.2.2.2.1
            have kbs : Kb bx W6 (((W6.setCell ⟨bx, 0, none⟩ (.bool s6)).setCell ⟨bx, 1, none⟩ (.slice p6 l6 c6)).setCell ⟨bx, 2, none⟩ (.slice q6 k6_ d6)) := ((((Kb.refl bx W6).setCell 0 _).setCell 1 _).setCell 2 _)
            replace hF := (hF.kp g4).kb kbs (by omega)
            replace hq := (hq.keep g4).kb kbs (by omega)
            replace hDq := (hDq.kp g4).kb kbs hnb
            replace hk := kbs.kp (hk.trans g4) (by omega)
            have hx := HX.put (.bool s6) (.slice p6 l6 c6) (.slice q6 k6_ d6)
            have hDx := (D6.mono (Nat.zero_le _)).kb kbs (D6.nbLow hbl)
            clear z0 z1 z2 z3 z4 z5 HX g4 hbl hz hbq kbs y0 y1 y2 y3 y4 y5 k6 k9 g6 D6 D9 HP hrm hfy
            generalize (((W6.setCell ⟨bx, 0, none⟩ (.bool s6)).setCell ⟨bx, 1, none⟩ (.slice p6 l6 c6)).setCell ⟨bx, 2, none⟩ (.slice q6 k6_ d6)) = W7 at *
            obtain ⟨u0, u1, u2, u3, u4, u5⟩ := id hq
            obtain ⟨y0, y1, y2, y3, y4, y5⟩ := id hx
            have hra := dyadd_ s5 p5 l5 c5 q5 k5_ d5 s6 p6 l6 c6 q6 k6_ d6 (tsV K (L.take i)) _ (K + K) (K + K + 2058) (by have := HR.out.2.2.2.2.2.1; omega) (by have := HR.out.2.2.2.2.2.1; omega) hVb hXb 0 0 W7 hDq hDx
            have HY : Hid (H3c W7 bq (.bool s5) (.slice p5 l5 c5) (.slice q5 k5_ d5) ∧ Fs W7 bs (tsV K (L.take (i + 1))) (i + 1) K ∧ Kp w W7 ∧ w.heap.size ≤ bs ∧ bs < bq ∧ tsV K (L.take (i + 1)) = tsV K (L.take i) + XV) := ⟨hq, hF, hk, HR.out.2.2.2.1, HR.out.2.2.2.2.1, hVV⟩
            clear hq hx hF hk hDq hDx hVb hXb hVV hnb HR
            go_wp2_with fail
            refine hra.mono ?_
            rintro e W8 ⟨s8, p8, l8, c8, q8, k8_, d8, rfl, D8, g8⟩
            obtain ⟨hq, hF, hk, hz, hbq, hVV⟩ := HY.out
            have hql : bq < W7.heap.size := hq.lt
            replace hq := hq.keep g8
            have kbs : Kb bq W8 (((W8.setCell ⟨bq, 0, none⟩ (.bool s8)).setCell ⟨bq, 1, none⟩ (.slice p8 l8 c8)).setCell ⟨bq, 2, none⟩ (.slice q8 k8_ d8)) := ((((Kb.refl bq W8).setCell 0 _).setCell 1 _).setCell 2 _)
            have HZ : Hid (Fs (((W8.setCell ⟨bq, 0, none⟩ (.bool s8)).setCell ⟨bq, 1, none⟩ (.slice p8 l8 c8)).setCell ⟨bq, 2, none⟩ (.slice q8 k8_ d8)) bs (tsV K (L.take (i + 1))) (i + 1) K ∧ Qs (((W8.setCell ⟨bq, 0, none⟩ (.bool s8)).setCell ⟨bq, 1, none⟩ (.slice p8 l8 c8)).setCell ⟨bq, 2, none⟩ (.slice q8 k8_ d8)) bq bs (tsV K (L.take (i + 1))) (K + K) ∧ Kp w (((W8.setCell ⟨bq, 0, none⟩ (.bool s8)).setCell ⟨bq, 1, none⟩ (.slice p8 l8 c8)).setCell ⟨bq, 2, none⟩ (.slice q8 k8_ d8))) :=
              ⟨(hF.kp g8).kb kbs (by omega), ⟨s8, p8, l8, c8, q8, k8_, d8, hq.put _ _ _, by rw [hVV]; exact (D8.mono (Nat.zero_le _)).kb kbs (D8.nbLow hql), D8.nbLow hql, D8.nbLow (by omega)⟩, kbs.kp (hk.trans g8) (by omega)⟩
            obtain ⟨v0, v1, v2, v3, v4, v5⟩ := hq
            clear hF hk hz hbq hVV hql kbs HY hra g8 D8
            go_wp2
            exact ⟨⟨i + 1, by go_num, j2, HZ.out.1, HZ.out.2.1, HZ.out.2.2⟩, (show 1000 - (i + 1) < 1000 - i from j3)⟩))
    · have hik : i = 1000 := by omega
      have t1 : ¬ ((i : Int) < 1000) := by omega
      rw [hik] at hF hQ1
      obtain ⟨hT, hQ⟩ := HT.out
      obtain ⟨s5, p5, l5, c5, q5, k5_, d5, h3, hDq, -, -⟩ := hQ1
      have hVb := fs_b hF hK hk3
      clear hN ha hok hz hkN hbq hi ci hik
      generalize tsV K (L.take 1000) = V at *
      have hX := hDq.xp (K + K + 2058) hVb (by omega)
      have hpw : 2 ^ (K + K) = 2 ^ K * 2 ^ K := Nat.pow_add ..
      have hp1 := Nat.two_pow_pos K
      have hp2 : 0 < M * 2 ^ K := Nat.mul_pos (by omega) hp1
      have kr : Kp wr wr.drew := (Kp.refl wr).drew
      have kd : Kp wr.drew wr.drew := Kp.refl _
      have kwr : Kp w wr.drew := hk.drew
      have hA1 := ab_g (2 ^ K) hp1 V
      have hA2 := ab_g (M * 2 ^ K) hp2 V
      have hsg := fun (W : World) (g : Kp wr.drew W) => fsign_ K hK bs V 1000 W (hF.kp (kr.trans g))
      have hrs := fun (W : World) (g : Kp wr.drew W) => dysign_ s5 p5 l5 c5 q5 k5_ d5 V (K + K) (K + K + 2058) (by omega) hVb 0 W (hDq.kp (kr.trans g))
      have hrD := fun (W : World) (g : Kp wr.drew W) => fround_ (-1) (by decide) (by decide) K hK bs V 1000 W (hF.kp (kr.trans g)) (hT.grown (kwr.trans g)) (Fq.Tab.grown hQ (kwr.trans g))
      have hrU := fun (W : World) (g : Kp wr.drew W) => fround_ 1 (by decide) (by decide) K hK bs V 1000 W (hF.kp (kr.trans g)) (hT.grown (kwr.trans g)) (Fq.Tab.grown hQ (kwr.trans g))
      rw [fmaW_g K hK (-1) V] at hrD
      rw [fmaW_g K hK 1 V] at hrU
      have hoD := fun (W : World) (g : Kp wr.drew W) => fover_ (-1) (by decide) (by decide) M hM1 hM2 K hK bs V 1000 W (hF.kp (kr.trans g)) (Fq.Tab.grown hQ (kwr.trans g))
      have hoU := fun (W : World) (g : Kp wr.drew W) => fover_ 1 (by decide) (by decide) M hM1 hM2 K hK bs V 1000 W (hF.kp (kr.trans g)) (Fq.Tab.grown hQ (kwr.trans g))
      have hl := len_b V.natAbs 16384 (K + K + 2058) hVb (by omega)
      have hl2 := len_b M 16384 64 (by omega) (by decide)
      rw [ratW_g K hK (-1) V M hM1 hl hl2] at hoD
      rw [ratW_g K hK 1 V M hM1 hl hl2] at hoU
      generalize g53 (-1) 1 (2 ^ K) V = L1 at *
      generalize g53 1 1 (2 ^ K) V = H1 at *
      generalize g53 (-1) 1 (M * 2 ^ K) V = L2 at *
      generalize g53 1 1 (M * 2 ^ K) V = H2 at *
      have hbD := fun (W : World) => bits4_ (pz L1) (self_pz L1 (by rcases hA1 with h | h <;> omega)) W
      have hbU := fun (W : World) => bits4_ (pz H1) (self_pz H1 (by rcases hA1 with h | h <;> omega)) W
      have hcD := fun (W : World) => bits4_ (pz L2) (self_pz L2 (by rcases hA2 with h | h <;> omega)) W
      have hcU := fun (W : World) => bits4_ (pz H2) (self_pz H2 (by rcases hA2 with h | h <;> omega)) W
      have hX2 : XP 0 wr s5 p5 l5 c5 q5 k5_ d5 V (2 ^ K * 2 ^ K) (K + K + 2058) := by rw [← hpw]; exact hX
      have hab1 := fun (W : World) (g : Kp wr.drew W) => about4_ K hK V (2 ^ K) (K + K + 2058) hp1 (by omega) L1 H1 hA1 s5 p5 l5 c5 q5 k5_ d5 0 W (hX2.kp (kr.trans g))
      have hI : ∀ W : World, Calls Tryz.prog 36 #[.int .i64 (M : Int)] W fun e w' => ∃ (s6 : Bool) (p6 : Option Addr) (l6 c6 : Nat) (q6 : Option Addr) (k6_ d6 : Nat), e = .returned (.agg #[.bool s6, .slice p6 l6 c6, .slice q6 k6_ d6]) ∧ XP W.heap.size w' s6 p6 l6 c6 q6 k6_ d6 ((M : Nat) : Int) 1 100 ∧ Kp W w' := fun W => intN_ M hM1 hM2 W
      have hrq : ∀ (W : World) (s6 : Bool) (p6 : Option Addr) (l6 c6 : Nat) (q6 : Option Addr) (k6_ d6 : Nat) (b : Nat), Kp wr.drew W → XP b W s6 p6 l6 c6 q6 k6_ d6 ((M : Nat) : Int) 1 100 → Calls Tryz.prog 43 #[.agg #[.bool s5, .slice p5 l5 c5, .slice q5 k5_ d5], .agg #[.bool s6, .slice p6 l6 c6, .slice q6 k6_ d6]] W fun e w' => ∃ (s7 : Bool) (p7 : Option Addr) (l7 c7 : Nat) (q7 : Option Addr) (k7_ d7 : Nat), e = .returned (.agg #[.bool s7, .slice p7 l7 c7, .slice q7 k7_ d7]) ∧ XP W.heap.size w' s7 p7 l7 c7 q7 k7_ d7 V (M * 2 ^ K * 2 ^ K) (2 * (K + K + 2058 + 100) + 3) ∧ Kp W w' := fun W s6 p6 l6 c6 q6 k6_ d6 b g h => by
        have h9 := xquo_ V M false (by omega) (2 ^ (K + K)) 1 (K + K + 2058) 100 (by omega) s5 p5 l5 c5 q5 k5_ d5 s6 p6 l6 c6 q6 k6_ d6 0 b W (hX.kp (kr.trans g)) (by have e : rvI false M = ((M : Nat) : Int) := rfl; rw [e]; exact h)
        have e1 : rvI false 1 * V * ((1 : Nat) : Int) = V := by show 1 * V * 1 = V; omega
        have e2 : 2 ^ (K + K) * M = M * 2 ^ K * 2 ^ K := by rw [hpw, Nat.mul_comm, Nat.mul_assoc]
        rw [e1, e2] at h9
        exact h9
      have hab2 := fun (W : World) (s7 : Bool) (p7 : Option Addr) (l7 c7 : Nat) (q7 : Option Addr) (k7_ d7 : Nat) (b : Nat) (h : XP b W s7 p7 l7 c7 q7 k7_ d7 V (M * 2 ^ K * 2 ^ K) (2 * (K + K + 2058 + 100) + 3)) => about4_ K hK V (M * 2 ^ K) (2 * (K + K + 2058 + 100) + 3) hp2 (by omega) L2 H2 hA2 s7 p7 l7 c7 q7 k7_ d7 b W h
      have hlv2 := fun (W : World) (g : Kp wr.drew W) => lives_ W (hT.grown (kwr.trans g)) (Fq.Tab.grown hQ (kwr.trans g))
      obtain ⟨y0, y1, y2, -, -, -⟩ := h3
      have y0 : wr.drew.cell? ⟨bq, 0, none⟩ = some (.bool s5) := y0
      have y1 : wr.drew.cell? ⟨bq, 1, none⟩ = some (.slice p5 l5 c5) := y1
      have y2 : wr.drew.cell? ⟨bq, 2, none⟩ = some (.slice q5 k5_ d5) := y2
      have HW : Hid (Kp w wr.drew) := kwr
      generalize pz L1 = R1 at *
      generalize pz H1 = R2 at *
      generalize pz L2 = R3 at *
      generalize pz H2 = R4 at *
      generalize sgV V = SG at *
      clear hF hk hK hk3 hDq hVb hX hX2 hpw hp1 hp2 kr kwr hA1 hA2 hl hl2 HN HT hT hQ hM1 hM2
      go_upto_region 19 with fail
      go_region_held3 (fun w' => w'.cell? ⟨bq, 0, none⟩ = some (.bool s5) ∧ w'.cell? ⟨bq, 1, none⟩ = some (.slice p5 l5 c5) ∧ w'.cell? ⟨bq, 2, none⟩ = some (.slice q5 k5_ d5)) (first | (with_reducible exact ⟨y0, y1, y2⟩) | (exact ⟨kkeep k1 y0, kkeep k1 y1, kkeep k1 y2⟩) | (exact ⟨kkeep k2 y0, kkeep k2 y1, kkeep k2 y2⟩) | (exact ⟨kkeep k3 y0, kkeep k3 y1, kkeep k3 y2⟩) | (exact ⟨kkeep k4 y0, kkeep k4 y1, kkeep k4 y2⟩) | (exact ⟨kkeep k5 y0, kkeep k5 y1, kkeep k5 y2⟩) | (exact ⟨kkeep k6 y0, kkeep k6 y1, kkeep k6 y2⟩) | (exact ⟨kkeep k7 y0, kkeep k7 y1, kkeep k7 y2⟩) | (exact ⟨kkeep k8 y0, kkeep k8 y1, kkeep k8 y2⟩) | (exact ⟨kkeep k9 y0, kkeep k9 y1, kkeep k9 y2⟩) | (exact ⟨kkeep k10 y0, kkeep k10 y1, kkeep k10 y2⟩) | (exact ⟨kkeep k11 y0, kkeep k11 y1, kkeep k11 y2⟩)) (first | (go_at_call 11; refine (hsg _ ?q9).mono ?_; (case q9 => (first | exact kd | exact k1 | exact k2 | exact k3 | exact k4 | exact k5 | exact k6 | exact k7 | exact k8 | exact k9 | exact k10)); rintro e w1 ⟨rfl, g1⟩; have k1 := kd.trans g1; clear hsg) | (go_at_call 41; refine (hrs _ ?q9).mono ?_; (case q9 => (first | exact kd | exact k1 | exact k2 | exact k3 | exact k4 | exact k5 | exact k6 | exact k7 | exact k8 | exact k9 | exact k10)); rintro e w2 ⟨rfl, g2⟩; have k2 := k1.trans g2; clear hrs) | (go_at_call 10; refine (hrD _ ?q9).mono ?_; (case q9 => (first | exact kd | exact k1 | exact k2 | exact k3 | exact k4 | exact k5 | exact k6 | exact k7 | exact k8 | exact k9 | exact k10)); rintro e w3 ⟨rfl, g3⟩; have k3 := k2.trans g3; clear hrD) | (go_at_call 10; refine (hrU _ ?q9).mono ?_; (case q9 => (first | exact kd | exact k1 | exact k2 | exact k3 | exact k4 | exact k5 | exact k6 | exact k7 | exact k8 | exact k9 | exact k10)); rintro e w4 ⟨rfl, g4⟩; have k4 := k3.trans g4; clear hrU) | (go_at_call 9; refine (hbD _).mono ?_; rintro e w' ⟨rfl, hw'⟩; obtain rfl := hw'.symm; clear hw'; clear hbD) | (go_at_call 9; refine (hbU _).mono ?_; rintro e w' ⟨rfl, hw'⟩; obtain rfl := hw'.symm; clear hw'; clear hbU) | (go_at_call 9; refine (hcD _).mono ?_; rintro e w' ⟨rfl, hw'⟩; obtain rfl := hw'.symm; clear hw'; clear hcD) | (go_at_call 9; refine (hcU _).mono ?_; rintro e w' ⟨rfl, hw'⟩; obtain rfl := hw'.symm; clear hw'; clear hcU) | (go_at_call 42; refine (hab1 _ ?q9).mono ?_; (case q9 => (first | exact kd | exact k1 | exact k2 | exact k3 | exact k4 | exact k5 | exact k6 | exact k7 | exact k8 | exact k9 | exact k10)); rintro e w5 ⟨rfl, g5⟩; have k5 := k4.trans g5; clear hab1) | (go_at_call 36; refine (hI _).mono ?_; rintro e w6 ⟨s6, p6, l6, c6, q6, k6_, d6, rfl, X6, g6⟩; have k6 := k5.trans g6) | (go_at_call 43; refine (hrq _ _ _ _ _ _ _ _ _ ?q9 X6).mono ?_; (case q9 => (first | exact kd | exact k1 | exact k2 | exact k3 | exact k4 | exact k5 | exact k6 | exact k7 | exact k8 | exact k9 | exact k10)); rintro e w7 ⟨s7, p7, l7, c7, q7, k7_, d7, rfl, X7, g7⟩; have k7 := k6.trans g7) | (go_at_call 13; refine (hoD _ ?q9).mono ?_; (case q9 => (first | exact kd | exact k1 | exact k2 | exact k3 | exact k4 | exact k5 | exact k6 | exact k7 | exact k8 | exact k9 | exact k10)); rintro e w8 ⟨rfl, g8⟩; have k8 := k7.trans g8; have X8 := X7.kp g8; clear hoD) | (go_at_call 13; refine (hoU _ ?q9).mono ?_; (case q9 => (first | exact kd | exact k1 | exact k2 | exact k3 | exact k4 | exact k5 | exact k6 | exact k7 | exact k8 | exact k9 | exact k10)); rintro e w9 ⟨rfl, g9⟩; have k9 := k8.trans g9; have X9 := X8.kp g9; clear hoU) | (go_at_call 42; refine (hab2 _ _ _ _ _ _ _ _ _ X9).mono ?_; rintro e w10 ⟨rfl, g10⟩; have k10 := k9.trans g10) | (go_at_call 8; refine (hlv2 _ ?q9).mono ?_; (case q9 => (first | exact kd | exact k1 | exact k2 | exact k3 | exact k4 | exact k5 | exact k6 | exact k7 | exact k8 | exact k9 | exact k10)); rintro e w11 ⟨rfl, g11⟩; have k11 := k10.trans g11; clear hlv2))
      all_goals (
        go_wp2
        exact bodyPost_ret (v := .bool true) (by simp [results, Tryz.results6, go_sem]) rfl ⟨rfl, HW.out.trans k11⟩)
end Go.Proofs.YteedfmghgkmofaaGreatDoor
namespace Go.Proofs.YteedfmghgkmofaaGreatDoor
open Go.RowKit
set_option linter.unusedVariables false
set_option maxRecDepth 20000 in
set_option maxHeartbeats 8000000 in
theorem ttightAS_ (K : Nat) (hK : K = 1074) (p : Option Addr) (c : Nat) (L : List Tm) (hok : TmOk L) (h3 : 1000 < L.length) (z : Int) (hz1 : z < 1) (w : World) (ha : ArrT w p L) (hT : Tab w) (hQ : Fq.Tab w) : Calls Tryz.prog 6 #[.slice p L.length c, .int .i64 z] w fun e w' => e = .returned (.bool true) ∧ Kp w w' := by
  have hlv := lives_ w hT hQ
  obtain ⟨N, hN⟩ : ∃ N, N = L.length := ⟨_, rfl⟩
  rw [← hN] at h3 ⊢
  have j9 : (1000 : Int) < (N : Int) := by omega
  have j7 : z < 1 := by omega
  have HT : Hid (Tab w ∧ Fq.Tab w) := ⟨hT, hQ⟩
  have HN0 : Hid (N = L.length ∧ ArrT w p L ∧ TmOk L ∧ K = 1074 ∧ 1000 ≤ N ∧ 1000 ≤ 1000) := ⟨hN, ha, hok, hK, by omega, by omega⟩
  clear hN ha hok hK hT hQ h3
  go_enter Tryz.func6, Tryz.ntmps6
  go_wp2_with fail
  refine hlv.mono ?_
  rintro e wa ⟨rfl, ga⟩
  go_wp2_with fail
  refine (fnew_ K _).mono ?_
  rintro e wb ⟨rfl, F0, gb⟩
  have hk : Kp w wb := ga.trans gb
  have hz : w.heap.size ≤ wa.heap.size := ga.size
  clear ga gb hlv
  generalize wa.heap.size = bs at *
  go_wp2_with fail
  refine (int0X_ (K + K) _).mono ?_
  rintro e wc_ ⟨s1, p1, l1, c1, q1, k1, d1, rfl, hD0, gc⟩
  have hbs : bs < wb.heap.size := F0.lt
  have HS : Hid (Fs (wc_.alloc (.cells #[.bool s1, .slice p1 l1 c1, .slice q1 k1 d1] 43)) bs (tsV K (L.take 0)) 0 K ∧ Qs (wc_.alloc (.cells #[.bool s1, .slice p1 l1 c1, .slice q1 k1 d1] 43)) wc_.heap.size bs (tsV K (L.take 0)) (K + K) ∧ Kp w (wc_.alloc (.cells #[.bool s1, .slice p1 l1 c1, .slice q1 k1 d1] 43))) :=
    ⟨by simpa [tsV] using (F0.kp gc).kp ((Kp.refl _).alloc _), by simpa [tsV] using (show Qs (wc_.alloc (.cells #[.bool s1, .slice p1 l1 c1, .slice q1 k1 d1] 43)) wc_.heap.size bs 0 (K + K) from ⟨s1, p1, l1, c1, q1, k1, d1, H3c.new _ _ _ _ _, (hD0.mono (Nat.zero_le _)).kp ((Kp.refl _).alloc _), hD0.nbNew (Nat.le_refl _), hD0.nbLow hbs⟩), (hk.trans gc).alloc _⟩
  obtain ⟨hN, ha, hok, hK, hkN, hk3⟩ := HN0.out
  have HN : Hid (N = L.length ∧ ArrT w p L ∧ TmOk L ∧ w.heap.size ≤ bs ∧ 1000 ≤ N ∧ 1000 ≤ 1000 ∧ K = 1074 ∧ bs < wc_.heap.size) := ⟨hN, ha, hok, hz, hkN, hk3, hK, by have := gc.size; omega⟩
  clear HN0 hN ha hok hK hkN hk3 F0 hk hz hD0 gc hbs
  go_wp2_with fail
  generalize wc_.alloc (.cells #[.bool s1, .slice p1 l1 c1, .slice q1 k1 d1] 43) = wd at *
  generalize wc_.heap.size = bq at *
  go_loopw [8, 9, 10] (fun ii tt xx wr => ∃ i : Nat, ii = .int .i64 (i : Int) ∧ i ≤ 1000 ∧ Fs wr bs (tsV K (L.take i)) i K ∧ Qs wr bq bs (tsV K (L.take i)) (K + K) ∧ Kp w wr) (fun i _ _ _ => 1000 - (intOf i).toNat)
  case atStart => exact ⟨0, rfl, Nat.zero_le _, HS.out.1, HS.out.2.1, HS.out.2.2⟩
  case round =>
    obtain ⟨i, rfl, hi, hF, hQ1, hk⟩ := hrel
    clear HS
    obtain ⟨hN, ha, hok, hz, hkN, hk3, hK, hbq⟩ := HN.out
    by_cases ci : i < 1000
    · obtain ⟨oX, oY⟩ := hok i (by omega)
      have hts := tsV_take K L i (by omega)
      rcases ha with ha | ⟨bl, off, rfl, ha⟩
      · rw [ha] at hN; simp at hN; omega
      obtain ⟨e0, e1, e2⟩ := ha i (by omega)
      have e0 := kkeep hk e0
      have e1 := kkeep hk e1
      have e2 := kkeep hk e2
      obtain ⟨X, hX⟩ : ∃ X, X = (L.getD i (0, 0, false)).1 := ⟨_, rfl⟩
      obtain ⟨Y, hY⟩ : ∃ Y, Y = (L.getD i (0, 0, false)).2.1 := ⟨_, rfl⟩
      obtain ⟨pr, hpr⟩ : ∃ pr, pr = (L.getD i (0, 0, false)).2.2 := ⟨_, rfl⟩
      unfold tnV at hts
      rw [← hX] at e0 oX hts
      rw [← hY] at e1 oY hts
      rw [← hpr] at e2 hts
      have hnX := number4_ X oX
      have hnY := number4_ Y oY
      have j1 : (i : Int) < 1000 := by omega
      have j2 : i + 1 ≤ 1000 := by omega
      have j3 : 1000 - (i + 1) < 1000 - i := by omega
      have j4 : i < N := by omega
      have j5 : (i : Int) < (N : Int) := by omega
      have j6 : i + 1 ≤ 1000 := by omega
      have e0 : wr.drew.cell? ⟨bl, off + i * 3, none⟩ = some (.int .u64 (X : Int)) := e0
      have e1 : wr.drew.cell? ⟨bl, off + i * 3 + 1, none⟩ = some (.int .u64 (Y : Int)) := e1
      have e2 : wr.drew.cell? ⟨bl, off + i * 3 + 2, none⟩ = some (.bool pr) := e2
      obtain ⟨n1, m1, hm1, hn1⟩ := Fq.exD (nmP X) (nmP_lt X oX)
      obtain ⟨n2, m2, hm2, hn2⟩ := Fq.exD (nmP Y) (nmP_lt Y oY)
      have f1 := nmP_fin X
      have f2 := nmP_fin Y
      have l1 := nmP_lt X oX
      have l2 := nmP_lt Y oY
      rw [hn1] at hts hnX f1 l1
      rw [hn2] at hts hnY f2 l2
      have g1 : m1 < 9218868437227405312 := by rw [(wD_parts n1 m1 hm1).1] at f1; exact f1
      have g2 : m2 < 9218868437227405312 := by rw [(wD_parts n2 m2 hm2).1] at f2; exact f2
      have HR : Hid (Fs wr bs (tsV K (L.take i)) i K ∧ Qs wr bq bs (tsV K (L.take i)) (K + K) ∧ Kp w wr ∧ w.heap.size ≤ bs ∧ bs < bq ∧ K = 1074 ∧ tsV K (L.take (i + 1)) = tsV K (L.take i) + tkV K (Fq.wD n1 m1) (Fq.wD n2 m2) pr ∧ Fq.wD n1 m1 < 18446744073709551616 ∧ Fq.wD n2 m2 < 18446744073709551616 ∧ m1 < 9218868437227405312 ∧ m2 < 9218868437227405312 ∧ Fq.wD n1 m1 % 9223372036854775808 < 9218868437227405312 ∧ Fq.wD n2 m2 % 9223372036854775808 < 9218868437227405312) := ⟨hF, hQ1, hk, hz, hbq, hK, hts, l1, l2, g1, g2, f1, f2⟩
      clear hN ha hok hz hkN hK hi hts hX hY hpr hF hQ1 ci hk hm1 hm2 hn1 hn2 f1 f2 g1 g2 l1 l2 oX oY hbq
      obtain ⟨WX, hWX⟩ : ∃ WX : Int, WX = ((Fq.wD n1 m1 : Nat) : Int) := ⟨_, rfl⟩
      obtain ⟨WY, hWY⟩ : ∃ WY : Int, WY = ((Fq.wD n2 m2 : Nat) : Int) := ⟨_, rfl⟩
      rw [← hWX] at hnX
      rw [← hWY] at hnY
      have HW : Hid (WX = ((Fq.wD n1 m1 : Nat) : Int) ∧ WY = ((Fq.wD n2 m2 : Nat) : Int)) := ⟨hWX, hWY⟩
      clear hWX hWY
      go_upto_region 11 with fail
      go_region_held3 (fun w' => w'.cell? ⟨bl, off + i * 3, none⟩ = some (.int .u64 (X : Int)) ∧ w'.cell? ⟨bl, off + i * 3 + 1, none⟩ = some (.int .u64 (Y : Int)) ∧ w'.cell? ⟨bl, off + i * 3 + 2, none⟩ = some (.bool pr)) (first | (with_reducible exact ⟨e0, e1, e2⟩) | go_keep) (first | (go_at_call_of 37 (Value.int IntKind.u64 (X : Int)); refine (hnX _).mono ?_; rintro e w' ⟨rfl, hw'⟩; obtain rfl := hw'.symm; clear hw') | (go_at_call_of 37 (Value.int IntKind.u64 (Y : Int)); refine (hnY _).mono ?_; rintro e w' ⟨rfl, hw'⟩; obtain rfl := hw'.symm; clear hw'))
      all_goals (
        cases pr
        · obtain ⟨hF, hQ1, hk, hz, hbq, hK, hts, l1_, l2_, g1, g2, f1, f2⟩ := HR.out
          have t0 : (wr.alloc (.cells #[.int .u64 WX, .int .u64 WY, .bool false] 68)).drew.cell? ⟨wr.heap.size, 0, none⟩ = some (.int .u64 WX) := by simp [go_sem]
          have t1 : (wr.alloc (.cells #[.int .u64 WX, .int .u64 WY, .bool false] 68)).drew.cell? ⟨wr.heap.size, 1, none⟩ = some (.int .u64 WY) := by simp [go_sem]
          have t2 : (wr.alloc (.cells #[.int .u64 WX, .int .u64 WY, .bool false] 68)).drew.cell? ⟨wr.heap.size, 2, none⟩ = some (.bool false) := by simp [go_sem]
          have gA : Kp wr (wr.alloc (.cells #[.int .u64 WX, .int .u64 WY, .bool false] 68)).drew := ((Kp.refl wr).alloc _).drew
          have hbt : bs < wr.heap.size := hF.lt
          generalize (wr.alloc (.cells #[.int .u64 WX, .int .u64 WY, .bool false] 68)).drew = W1 at *
          generalize wr.heap.size = bt at *
          replace hF := hF.kp gA
          replace hQ1 := hQ1.kp gA
          replace hk := hk.trans gA
          have htk := ftake4_ (Fq.wD n1 m1) (Fq.wD n2 m2) false K hK l1_ l2_ f1 f2 bs _ i (by omega) W1 hF
          rw [← hts, ← HW.out.1, ← HW.out.2] at htk
          have HP : Hid (Qs W1 bq bs (tsV K (L.take i)) (K + K) ∧ Kp w W1 ∧ bs < bt ∧ (tsV K (L.take i)).natAbs < 2 ^ (K + K + 2058)) := ⟨hQ1, hk, hbt, fs_b hF hK (by omega)⟩
          clear hF hQ1 hk hz hbq hK hts l1_ l2_ g1 g2 f1 f2 gA hbt
          go_wp2_with fail
          refine htk.mono ?_
          rintro e W2 ⟨⟨v2, rfl⟩, hF, kb⟩
          obtain ⟨hQ1, hk, hbt, hVb⟩ := HP.out
          obtain ⟨-, -, -, hz, hbq, hK, hts, l1_, l2_, g1, g2, f1, f2⟩ := HR.out
          replace hQ1 := hQ1.kb kb (by omega)
          replace hk := kb.kp hk hz
          replace t0 := kb.arr (show bt ≠ bs by omega) t0
          replace t1 := kb.arr (show bt ≠ bs by omega) t1
          replace t2 := kb.arr (show bt ≠ bs by omega) t2
          have hfx := dyfrom_ n1 m1 K hK g1 W2
          rw [← HW.out.1] at hfx
          clear HP htk kb
          have HP : Hid (Fs W2 bs (tsV K (L.take (i + 1))) (i + 1) K ∧ Qs W2 bq bs (tsV K (L.take i)) (K + K) ∧ Kp w W2 ∧ (tsV K (L.take i)).natAbs < 2 ^ (K + K + 2058)) := ⟨hF, hQ1, hk, hVb⟩
          clear hF hQ1 hk hbt hVb hz hbq hK hts l1_ l2_ g1 g2 f1 f2
          go_wp2_with fail
          refine hfx.mono ?_
          rintro e W3 ⟨s3, p3, l3, c3, q3, k3_, d3, rfl, D3, g3⟩
          obtain ⟨hF, hQ1, hk, hVb⟩ := HP.out
          obtain ⟨s5, p5, l5, c5, q5, k5_, d5, hq, hDq, hnb1, hnb2⟩ := hQ1
          replace hF := hF.kp g3
          replace hq := hq.keep g3
          replace hDq := hDq.kp g3
          replace hk := hk.trans g3
          replace t0 := kkeep g3 t0
          replace t1 := kkeep g3 t1
          replace t2 := kkeep g3 t2
          have hx := H3c.new W3 (.bool s3) (.slice p3 l3 c3) (.slice q3 k3_ d3) 43
          have gB : Kp W3 (W3.alloc (.cells #[.bool s3, .slice p3 l3 c3, .slice q3 k3_ d3] 43)) := (Kp.refl W3).alloc _
          have hnb := hDq.nbNew (Nat.le_refl _)
          have hbx : bq < W3.heap.size := hq.lt
          have hbtx : bt < W3.heap.size := cell_lt t0
          clear g3 hfx HP
          go_upto_region 14 with fail
          generalize W3.alloc (.cells #[.bool s3, .slice p3 l3 c3, .slice q3 k3_ d3] 43) = W4 at *
          have D3 := D3.mono (Nat.zero_le _)
          replace hF := hF.kp gB
          replace hq := hq.keep gB
          replace hDq := hDq.kp gB
          replace D3 := D3.kp gB
          replace hk := hk.trans gB
          replace t0 := kkeep gB t0
          replace t1 := kkeep gB t1
          replace t2 := kkeep gB t2
          generalize W3.heap.size = bx at *
          clear gB hnb1 hnb2
          obtain ⟨-, -, -, hz, hbq, hK, hts, l1_, l2_, g1, g2, f1, f2⟩ := HR.out
          have hXb := tk_b K hK (Fq.wD n1 m1) (Fq.wD n2 m2) false
          have hxv : tkV K (Fq.wD n1 m1) (Fq.wD n2 m2) false = Iv n1 m1 * ((2 ^ K : Nat) : Int) := by
            unfold tkV; simp only [Bool.false_eq_true, if_false]; rw [xV_fin n1 m1 K g1]; rfl
          have hDx : Dy 0 W4 s3 p3 l3 c3 q3 k3_ d3 (Iv n1 m1 * ((2 ^ K : Nat) : Int)) (K + K) := D3.up K
          rw [hxv] at hts hXb
          generalize Iv n1 m1 * ((2 ^ K : Nat) : Int) = XV at *
          have hVV := hts
          clear hz hbq hK hts l1_ l2_ g1 g2 f1 f2 hxv D3 hbx
          obtain ⟨u0, u1, u2, u3, u4, u5⟩ := id hq
          obtain ⟨y0, y1, y2, y3, y4, y5⟩ := id hx
          have hra := dyadd_ s5 p5 l5 c5 q5 k5_ d5 s3 p3 l3 c3 q3 k3_ d3 (tsV K (L.take i)) _ (K + K) (K + K + 2058) (by have := HR.out.2.2.2.2.2.1; omega) (by have := HR.out.2.2.2.2.2.1; omega) hVb hXb 0 0 W4 hDq hDx
          have HY : Hid (H3c W4 bq (.bool s5) (.slice p5 l5 c5) (.slice q5 k5_ d5) ∧ Fs W4 bs (tsV K (L.take (i + 1))) (i + 1) K ∧ Kp w W4 ∧ w.heap.size ≤ bs ∧ bs < bq ∧ tsV K (L.take (i + 1)) = tsV K (L.take i) + XV) := ⟨hq, hF, hk, HR.out.2.2.2.1, HR.out.2.2.2.2.1, hVV⟩
          clear hq hx hF hk hDq hDx hVb hXb hVV hnb HR
          go_wp2_with fail
          refine hra.mono ?_
          rintro e W8 ⟨s8, p8, l8, c8, q8, k8_, d8, rfl, D8, g8⟩
          obtain ⟨hq, hF, hk, hz, hbq, hVV⟩ := HY.out
          have hql : bq < W4.heap.size := hq.lt
          replace hq := hq.keep g8
          have kbs : Kb bq W8 (((W8.setCell ⟨bq, 0, none⟩ (.bool s8)).setCell ⟨bq, 1, none⟩ (.slice p8 l8 c8)).setCell ⟨bq, 2, none⟩ (.slice q8 k8_ d8)) := ((((Kb.refl bq W8).setCell 0 _).setCell 1 _).setCell 2 _)
          have HZ : Hid (Fs (((W8.setCell ⟨bq, 0, none⟩ (.bool s8)).setCell ⟨bq, 1, none⟩ (.slice p8 l8 c8)).setCell ⟨bq, 2, none⟩ (.slice q8 k8_ d8)) bs (tsV K (L.take (i + 1))) (i + 1) K ∧ Qs (((W8.setCell ⟨bq, 0, none⟩ (.bool s8)).setCell ⟨bq, 1, none⟩ (.slice p8 l8 c8)).setCell ⟨bq, 2, none⟩ (.slice q8 k8_ d8)) bq bs (tsV K (L.take (i + 1))) (K + K) ∧ Kp w (((W8.setCell ⟨bq, 0, none⟩ (.bool s8)).setCell ⟨bq, 1, none⟩ (.slice p8 l8 c8)).setCell ⟨bq, 2, none⟩ (.slice q8 k8_ d8))) :=
            ⟨(hF.kp g8).kb kbs (by omega), ⟨s8, p8, l8, c8, q8, k8_, d8, hq.put _ _ _, by rw [hVV]; exact (D8.mono (Nat.zero_le _)).kb kbs (D8.nbLow hql), D8.nbLow hql, D8.nbLow (by omega)⟩, kbs.kp (hk.trans g8) (by omega)⟩
          obtain ⟨v0, v1, v2, v3, v4, v5⟩ := hq
          clear hF hk hz hbq hVV hql kbs HY hra g8 D8
          go_wp2
          exact ⟨⟨i + 1, by go_num, j2, HZ.out.1, HZ.out.2.1, HZ.out.2.2⟩, (show 1000 - (i + 1) < 1000 - i from j3)⟩
        · obtain ⟨hF, hQ1, hk, hz, hbq, hK, hts, l1_, l2_, g1, g2, f1, f2⟩ := HR.out
          have t0 : (wr.alloc (.cells #[.int .u64 WX, .int .u64 WY, .bool true] 68)).drew.cell? ⟨wr.heap.size, 0, none⟩ = some (.int .u64 WX) := by simp [go_sem]
          have t1 : (wr.alloc (.cells #[.int .u64 WX, .int .u64 WY, .bool true] 68)).drew.cell? ⟨wr.heap.size, 1, none⟩ = some (.int .u64 WY) := by simp [go_sem]
          have t2 : (wr.alloc (.cells #[.int .u64 WX, .int .u64 WY, .bool true] 68)).drew.cell? ⟨wr.heap.size, 2, none⟩ = some (.bool true) := by simp [go_sem]
          have gA : Kp wr (wr.alloc (.cells #[.int .u64 WX, .int .u64 WY, .bool true] 68)).drew := ((Kp.refl wr).alloc _).drew
          have hbt : bs < wr.heap.size := hF.lt
          generalize (wr.alloc (.cells #[.int .u64 WX, .int .u64 WY, .bool true] 68)).drew = W1 at *
          generalize wr.heap.size = bt at *
          replace hF := hF.kp gA
          replace hQ1 := hQ1.kp gA
          replace hk := hk.trans gA
          have htk := ftake4_ (Fq.wD n1 m1) (Fq.wD n2 m2) true K hK l1_ l2_ f1 f2 bs _ i (by omega) W1 hF
          rw [← hts, ← HW.out.1, ← HW.out.2] at htk
          have HP : Hid (Qs W1 bq bs (tsV K (L.take i)) (K + K) ∧ Kp w W1 ∧ bs < bt ∧ (tsV K (L.take i)).natAbs < 2 ^ (K + K + 2058)) := ⟨hQ1, hk, hbt, fs_b hF hK (by omega)⟩
          clear hF hQ1 hk hz hbq hK hts l1_ l2_ g1 g2 f1 f2 gA hbt
          go_wp2_with fail
          refine htk.mono ?_
          rintro e W2 ⟨⟨v2, rfl⟩, hF, kb⟩
          obtain ⟨hQ1, hk, hbt, hVb⟩ := HP.out
          obtain ⟨-, -, -, hz, hbq, hK, hts, l1_, l2_, g1, g2, f1, f2⟩ := HR.out
          replace hQ1 := hQ1.kb kb (by omega)
          replace hk := kb.kp hk hz
          replace t0 := kb.arr (show bt ≠ bs by omega) t0
          replace t1 := kb.arr (show bt ≠ bs by omega) t1
          replace t2 := kb.arr (show bt ≠ bs by omega) t2
          have hfx := dyfrom_ n1 m1 K hK g1 W2
          rw [← HW.out.1] at hfx
          clear HP htk kb
          have HP : Hid (Fs W2 bs (tsV K (L.take (i + 1))) (i + 1) K ∧ Qs W2 bq bs (tsV K (L.take i)) (K + K) ∧ Kp w W2 ∧ (tsV K (L.take i)).natAbs < 2 ^ (K + K + 2058)) := ⟨hF, hQ1, hk, hVb⟩
          clear hF hQ1 hk hbt hVb hz hbq hK hts l1_ l2_ g1 g2 f1 f2
          go_wp2_with fail
          refine hfx.mono ?_
          rintro e W3 ⟨s3, p3, l3, c3, q3, k3_, d3, rfl, D3, g3⟩
          obtain ⟨hF, hQ1, hk, hVb⟩ := HP.out
          obtain ⟨s5, p5, l5, c5, q5, k5_, d5, hq, hDq, hnb1, hnb2⟩ := hQ1
          replace hF := hF.kp g3
          replace hq := hq.keep g3
          replace hDq := hDq.kp g3
          replace hk := hk.trans g3
          replace t0 := kkeep g3 t0
          replace t1 := kkeep g3 t1
          replace t2 := kkeep g3 t2
          have hx := H3c.new W3 (.bool s3) (.slice p3 l3 c3) (.slice q3 k3_ d3) 43
          have gB : Kp W3 (W3.alloc (.cells #[.bool s3, .slice p3 l3 c3, .slice q3 k3_ d3] 43)) := (Kp.refl W3).alloc _
          have hnb := hDq.nbNew (Nat.le_refl _)
          have hbx : bq < W3.heap.size := hq.lt
          have hbtx : bt < W3.heap.size := cell_lt t0
          clear g3 hfx HP
          go_upto_region 14 with fail
          generalize W3.alloc (.cells #[.bool s3, .slice p3 l3 c3, .slice q3 k3_ d3] 43) = W4 at *
          have D3 := D3.mono (Nat.zero_le _)
          replace hF := hF.kp gB
          replace hq := hq.keep gB
          replace hDq := hDq.kp gB
          replace D3 := D3.kp gB
          replace hk := hk.trans gB
          replace t0 := kkeep gB t0
          replace t1 := kkeep gB t1
          replace t2 := kkeep gB t2
          generalize W3.heap.size = bx at *
          clear gB hnb1 hnb2
          obtain ⟨-, -, -, hz, hbq, hK, hts, l1_, l2_, g1, g2, f1, f2⟩ := HR.out
          have hXb := tk_b K hK (Fq.wD n1 m1) (Fq.wD n2 m2) true
          have hxv : tkV K (Fq.wD n1 m1) (Fq.wD n2 m2) true = Iv n1 m1 * Iv n2 m2 := by
            unfold tkV; simp only [if_true]; exact yV_fin n1 n2 m1 m2 g1 g2
          have hi1 := iv_lt n1 m1 K hK g1
          have hi2 := iv_lt n2 m2 K hK g2
          have hfy := dyfrom_ n2 m2 K hK g2 W4.drew
          rw [← HW.out.2] at hfy
          have hrm := fun (W : World) (s9 : Bool) (p9 : Option Addr) (l9 c9 : Nat) (q9 : Option Addr) (k9_ d9 b : Nat) (g : Kp W4.drew W) (h : Dy b W s9 p9 l9 c9 q9 k9_ d9 (Iv n2 m2) K) => dymul_ s3 p3 l3 c3 q3 k3_ d3 s9 p9 l9 c9 q9 k9_ d9 (Iv n1 m1) (Iv n2 m2) K (K + 1024) (by omega) (by omega) hi1 hi2 0 b W (D3.kp ((Kp.refl W4).drew.trans g)) h
          rw [hxv] at hts hXb
          generalize Iv n1 m1 * Iv n2 m2 = XV at *
          have HP : Hid (Fs W4 bs (tsV K (L.take (i + 1))) (i + 1) K ∧ H3c W4 bq (.bool s5) (.slice p5 l5 c5) (.slice q5 k5_ d5) ∧ Dy 0 W4 s5 p5 l5 c5 q5 k5_ d5 (tsV K (L.take i)) (K + K) ∧ NB p5 q5 bx ∧ Kp w W4 ∧ (tsV K (L.take i)).natAbs < 2 ^ (K + K + 2058) ∧ XV.natAbs < 2 ^ (K + K + 2058) ∧ tsV K (L.take (i + 1)) = tsV K (L.take i) + XV ∧ H3c W4 bx (.bool s3) (.slice p3 l3 c3) (.slice q3 k3_ d3) ∧ bq < bx) := ⟨hF, hq, hDq, hnb, hk, hVb, hXb, hts, hx, hbx⟩
          obtain ⟨y0, y1, y2, y3, y4, y5⟩ := hx
          clear hF hq hDq hnb hk hVb hXb hts hz hbq hK l1_ l2_ g1 g2 f1 f2 hxv D3 hbx hi1 hi2
          go_upto_region 15 with fail
          have y0 : W4.drew.cell? ⟨bx, 0, none⟩ = some (.bool s3) := y0
          have y1 : W4.drew.cell? ⟨bx, 1, none⟩ = some (.slice p3 l3 c3) := y1
          have y2 : W4.drew.cell? ⟨bx, 2, none⟩ = some (.slice q3 k3_ d3) := y2
          have t1 : W4.drew.cell? ⟨bt, 1, none⟩ = some (.int .u64 WY) := t1
          go_region_with (first | (go_at_call 38; refine hfy.mono ?_; rintro e W5 ⟨s9, p9, l9, c9, q9, k9_, d9, rfl, D9, k9⟩; have x0 := kkeep k9 y0; have x1 := kkeep k9 y1; have x2 := kkeep k9 y2) | (go_at_call 39; refine (hrm _ _ _ _ _ _ _ _ _ k9 D9).mono ?_; rintro e W6 ⟨s6, p6, l6, c6, q6, k6_, d6, rfl, D6, g6⟩; have k6 := k9.trans g6; have HX := H3c.keep HP.out.2.2.2.2.2.2.2.2.1 ((Kp.refl W4).drew.trans k6); obtain ⟨z0, z1, z2, z3, z4, z5⟩ := id HX))
          all_goals (
            obtain ⟨hF, hq, hDq, hnb, hk, hVb, hXb, hVV, -, hbx⟩ := HP.out
            have g4 := (Kp.refl W4).drew.trans k6
            have hbl : bx < W5.heap.size := cell_lt (kkeep k9 y0)
            have hz := HR.out.2.2.2.1
            have hbq := HR.out.2.2.2.2.1
            have kbs : Kb bx W6 (((W6.setCell ⟨bx, 0, none⟩ (.bool s6)).setCell ⟨bx, 1, none⟩ (.slice p6 l6 c6)).setCell ⟨bx, 2, none⟩ (.slice q6 k6_ d6)) := ((((Kb.refl bx W6).setCell 0 _).setCell 1 _).setCell 2 _)
            replace hF := (hF.kp g4).kb kbs (by omega)
            replace hq := (hq.keep g4).kb kbs (by omega)
            replace hDq := (hDq.kp g4).kb kbs hnb
            replace hk := kbs.kp (hk.trans g4) (by omega)
            have hx := HX.put (.bool s6) (.slice p6 l6 c6) (.slice q6 k6_ d6)
            have hDx := (D6.mono (Nat.zero_le _)).kb kbs (D6.nbLow hbl)
            clear z0 z1 z2 z3 z4 z5 HX g4 hbl hz hbq kbs y0 y1 y2 y3 y4 y5 k6 k9 g6 D6 D9 HP hrm hfy
            generalize (((W6.setCell ⟨bx, 0, none⟩ (.bool s6)).setCell ⟨bx, 1, none⟩ (.slice p6 l6 c6)).setCell ⟨bx, 2, none⟩ (.slice q6 k6_ d6)) = W7 at *
            obtain ⟨u0, u1, u2, u3, u4, u5⟩ := id hq
            obtain ⟨y0, y1, y2, y3, y4, y5⟩ := id hx
            have hra := dyadd_ s5 p5 l5 c5 q5 k5_ d5 s6 p6 l6 c6 q6 k6_ d6 (tsV K (L.take i)) _ (K + K) (K + K + 2058) (by have := HR.out.2.2.2.2.2.1; omega) (by have := HR.out.2.2.2.2.2.1; omega) hVb hXb 0 0 W7 hDq hDx
            have HY : Hid (H3c W7 bq (.bool s5) (.slice p5 l5 c5) (.slice q5 k5_ d5) ∧ Fs W7 bs (tsV K (L.take (i + 1))) (i + 1) K ∧ Kp w W7 ∧ w.heap.size ≤ bs ∧ bs < bq ∧ tsV K (L.take (i + 1)) = tsV K (L.take i) + XV) := ⟨hq, hF, hk, HR.out.2.2.2.1, HR.out.2.2.2.2.1, hVV⟩
            clear hq hx hF hk hDq hDx hVb hXb hVV hnb HR
            go_wp2_with fail
            refine hra.mono ?_
            rintro e W8 ⟨s8, p8, l8, c8, q8, k8_, d8, rfl, D8, g8⟩
            obtain ⟨hq, hF, hk, hz, hbq, hVV⟩ := HY.out
            have hql : bq < W7.heap.size := hq.lt
            replace hq := hq.keep g8
            have kbs : Kb bq W8 (((W8.setCell ⟨bq, 0, none⟩ (.bool s8)).setCell ⟨bq, 1, none⟩ (.slice p8 l8 c8)).setCell ⟨bq, 2, none⟩ (.slice q8 k8_ d8)) := ((((Kb.refl bq W8).setCell 0 _).setCell 1 _).setCell 2 _)
            have HZ : Hid (Fs (((W8.setCell ⟨bq, 0, none⟩ (.bool s8)).setCell ⟨bq, 1, none⟩ (.slice p8 l8 c8)).setCell ⟨bq, 2, none⟩ (.slice q8 k8_ d8)) bs (tsV K (L.take (i + 1))) (i + 1) K ∧ Qs (((W8.setCell ⟨bq, 0, none⟩ (.bool s8)).setCell ⟨bq, 1, none⟩ (.slice p8 l8 c8)).setCell ⟨bq, 2, none⟩ (.slice q8 k8_ d8)) bq bs (tsV K (L.take (i + 1))) (K + K) ∧ Kp w (((W8.setCell ⟨bq, 0, none⟩ (.bool s8)).setCell ⟨bq, 1, none⟩ (.slice p8 l8 c8)).setCell ⟨bq, 2, none⟩ (.slice q8 k8_ d8))) :=
              ⟨(hF.kp g8).kb kbs (by omega), ⟨s8, p8, l8, c8, q8, k8_, d8, hq.put _ _ _, by rw [hVV]; exact (D8.mono (Nat.zero_le _)).kb kbs (D8.nbLow hql), D8.nbLow hql, D8.nbLow (by omega)⟩, kbs.kp (hk.trans g8) (by omega)⟩
            obtain ⟨v0, v1, v2, v3, v4, v5⟩ := hq
            clear hF hk hz hbq hVV hql kbs HY hra g8 D8
            go_wp2
            exact ⟨⟨i + 1, by go_num, j2, HZ.out.1, HZ.out.2.1, HZ.out.2.2⟩, (show 1000 - (i + 1) < 1000 - i from j3)⟩))
    · have hik : i = 1000 := by omega
      have t1 : ¬ ((i : Int) < 1000) := by omega
      rw [hik] at hF hQ1
      obtain ⟨hT, hQ⟩ := HT.out
      obtain ⟨s5, p5, l5, c5, q5, k5_, d5, h3, hDq, -, -⟩ := hQ1
      have hVb := fs_b hF hK hk3
      clear hN ha hok hz hkN hbq hi ci hik
      generalize tsV K (L.take 1000) = V at *
      have hX := hDq.xp (K + K + 2058) hVb (by omega)
      have hpw : 2 ^ (K + K) = 2 ^ K * 2 ^ K := Nat.pow_add ..
      have hp1 := Nat.two_pow_pos K
      have hp2 : 0 < 7 * 2 ^ K := Nat.mul_pos (by omega) hp1
      have kr : Kp wr wr.drew := (Kp.refl wr).drew
      have kd : Kp wr.drew wr.drew := Kp.refl _
      have kwr : Kp w wr.drew := hk.drew
      have hA1 := ab_g (2 ^ K) hp1 V
      have hA2 := ab_g (7 * 2 ^ K) hp2 V
      have hsg := fun (W : World) (g : Kp wr.drew W) => fsign_ K hK bs V 1000 W (hF.kp (kr.trans g))
      have hrs := fun (W : World) (g : Kp wr.drew W) => dysign_ s5 p5 l5 c5 q5 k5_ d5 V (K + K) (K + K + 2058) (by omega) hVb 0 W (hDq.kp (kr.trans g))
      have hrD := fun (W : World) (g : Kp wr.drew W) => fround_ (-1) (by decide) (by decide) K hK bs V 1000 W (hF.kp (kr.trans g)) (hT.grown (kwr.trans g)) (Fq.Tab.grown hQ (kwr.trans g))
      have hrU := fun (W : World) (g : Kp wr.drew W) => fround_ 1 (by decide) (by decide) K hK bs V 1000 W (hF.kp (kr.trans g)) (hT.grown (kwr.trans g)) (Fq.Tab.grown hQ (kwr.trans g))
      rw [fmaW_g K hK (-1) V] at hrD
      rw [fmaW_g K hK 1 V] at hrU
      have hoD := fun (W : World) (g : Kp wr.drew W) => fover_ (-1) (by decide) (by decide) 7 (by decide) (by decide) K hK bs V 1000 W (hF.kp (kr.trans g)) (Fq.Tab.grown hQ (kwr.trans g))
      have hoU := fun (W : World) (g : Kp wr.drew W) => fover_ 1 (by decide) (by decide) 7 (by decide) (by decide) K hK bs V 1000 W (hF.kp (kr.trans g)) (Fq.Tab.grown hQ (kwr.trans g))
      have hl := len_b V.natAbs 16384 (K + K + 2058) hVb (by omega)
      have hl2 := len_b 7 16384 64 (by omega) (by decide)
      rw [ratW_g K hK (-1) V 7 (by decide) hl hl2] at hoD
      rw [ratW_g K hK 1 V 7 (by decide) hl hl2] at hoU
      generalize g53 (-1) 1 (2 ^ K) V = L1 at *
      generalize g53 1 1 (2 ^ K) V = H1 at *
      generalize g53 (-1) 1 (7 * 2 ^ K) V = L2 at *
      generalize g53 1 1 (7 * 2 ^ K) V = H2 at *
      have hbD := fun (W : World) => bits4_ (pz L1) (self_pz L1 (by rcases hA1 with h | h <;> omega)) W
      have hbU := fun (W : World) => bits4_ (pz H1) (self_pz H1 (by rcases hA1 with h | h <;> omega)) W
      have hcD := fun (W : World) => bits4_ (pz L2) (self_pz L2 (by rcases hA2 with h | h <;> omega)) W
      have hcU := fun (W : World) => bits4_ (pz H2) (self_pz H2 (by rcases hA2 with h | h <;> omega)) W
      have hX2 : XP 0 wr s5 p5 l5 c5 q5 k5_ d5 V (2 ^ K * 2 ^ K) (K + K + 2058) := by rw [← hpw]; exact hX
      have hab1 := fun (W : World) (g : Kp wr.drew W) => about4_ K hK V (2 ^ K) (K + K + 2058) hp1 (by omega) L1 H1 hA1 s5 p5 l5 c5 q5 k5_ d5 0 W (hX2.kp (kr.trans g))
      have hI : ∀ W : World, Calls Tryz.prog 36 #[.int .i64 7] W fun e w' => ∃ (s6 : Bool) (p6 : Option Addr) (l6 c6 : Nat) (q6 : Option Addr) (k6_ d6 : Nat), e = .returned (.agg #[.bool s6, .slice p6 l6 c6, .slice q6 k6_ d6]) ∧ XP W.heap.size w' s6 p6 l6 c6 q6 k6_ d6 ((7 : Nat) : Int) 1 100 ∧ Kp W w' := fun W => intN_ 7 (by decide) (by decide) W
      have hrq : ∀ (W : World) (s6 : Bool) (p6 : Option Addr) (l6 c6 : Nat) (q6 : Option Addr) (k6_ d6 : Nat) (b : Nat), Kp wr.drew W → XP b W s6 p6 l6 c6 q6 k6_ d6 ((7 : Nat) : Int) 1 100 → Calls Tryz.prog 43 #[.agg #[.bool s5, .slice p5 l5 c5, .slice q5 k5_ d5], .agg #[.bool s6, .slice p6 l6 c6, .slice q6 k6_ d6]] W fun e w' => ∃ (s7 : Bool) (p7 : Option Addr) (l7 c7 : Nat) (q7 : Option Addr) (k7_ d7 : Nat), e = .returned (.agg #[.bool s7, .slice p7 l7 c7, .slice q7 k7_ d7]) ∧ XP W.heap.size w' s7 p7 l7 c7 q7 k7_ d7 V (7 * 2 ^ K * 2 ^ K) (2 * (K + K + 2058 + 100) + 3) ∧ Kp W w' := fun W s6 p6 l6 c6 q6 k6_ d6 b g h => by
        have h9 := xquo_ V 7 false (by omega) (2 ^ (K + K)) 1 (K + K + 2058) 100 (by omega) s5 p5 l5 c5 q5 k5_ d5 s6 p6 l6 c6 q6 k6_ d6 0 b W (hX.kp (kr.trans g)) (by have e : rvI false 7 = ((7 : Nat) : Int) := rfl; rw [e]; exact h)
        have e1 : rvI false 1 * V * ((1 : Nat) : Int) = V := by show 1 * V * 1 = V; omega
        have e2 : 2 ^ (K + K) * 7 = 7 * 2 ^ K * 2 ^ K := by rw [hpw, Nat.mul_comm, Nat.mul_assoc]
        rw [e1, e2] at h9
        exact h9
      have hab2 := fun (W : World) (s7 : Bool) (p7 : Option Addr) (l7 c7 : Nat) (q7 : Option Addr) (k7_ d7 : Nat) (b : Nat) (h : XP b W s7 p7 l7 c7 q7 k7_ d7 V (7 * 2 ^ K * 2 ^ K) (2 * (K + K + 2058 + 100) + 3)) => about4_ K hK V (7 * 2 ^ K) (2 * (K + K + 2058 + 100) + 3) hp2 (by omega) L2 H2 hA2 s7 p7 l7 c7 q7 k7_ d7 b W h
      have hlv2 := fun (W : World) (g : Kp wr.drew W) => lives_ W (hT.grown (kwr.trans g)) (Fq.Tab.grown hQ (kwr.trans g))
      obtain ⟨y0, y1, y2, -, -, -⟩ := h3
      have y0 : wr.drew.cell? ⟨bq, 0, none⟩ = some (.bool s5) := y0
      have y1 : wr.drew.cell? ⟨bq, 1, none⟩ = some (.slice p5 l5 c5) := y1
      have y2 : wr.drew.cell? ⟨bq, 2, none⟩ = some (.slice q5 k5_ d5) := y2
      have HW : Hid (Kp w wr.drew) := kwr
      generalize pz L1 = R1 at *
      generalize pz H1 = R2 at *
      generalize pz L2 = R3 at *
      generalize pz H2 = R4 at *
      generalize sgV V = SG at *
      clear hF hk hK hk3 hDq hVb hX hX2 hpw hp1 hp2 kr kwr hA1 hA2 hl hl2 HN HT hT hQ
      go_upto_region 19 with fail
      go_region_held3 (fun w' => w'.cell? ⟨bq, 0, none⟩ = some (.bool s5) ∧ w'.cell? ⟨bq, 1, none⟩ = some (.slice p5 l5 c5) ∧ w'.cell? ⟨bq, 2, none⟩ = some (.slice q5 k5_ d5)) (first | (with_reducible exact ⟨y0, y1, y2⟩) | (exact ⟨kkeep k1 y0, kkeep k1 y1, kkeep k1 y2⟩) | (exact ⟨kkeep k2 y0, kkeep k2 y1, kkeep k2 y2⟩) | (exact ⟨kkeep k3 y0, kkeep k3 y1, kkeep k3 y2⟩) | (exact ⟨kkeep k4 y0, kkeep k4 y1, kkeep k4 y2⟩) | (exact ⟨kkeep k5 y0, kkeep k5 y1, kkeep k5 y2⟩) | (exact ⟨kkeep k6 y0, kkeep k6 y1, kkeep k6 y2⟩) | (exact ⟨kkeep k7 y0, kkeep k7 y1, kkeep k7 y2⟩) | (exact ⟨kkeep k8 y0, kkeep k8 y1, kkeep k8 y2⟩) | (exact ⟨kkeep k9 y0, kkeep k9 y1, kkeep k9 y2⟩) | (exact ⟨kkeep k10 y0, kkeep k10 y1, kkeep k10 y2⟩) | (exact ⟨kkeep k11 y0, kkeep k11 y1, kkeep k11 y2⟩)) (first | (go_at_call 11; refine (hsg _ ?q9).mono ?_; (case q9 => (first | exact kd | exact k1 | exact k2 | exact k3 | exact k4 | exact k5 | exact k6 | exact k7 | exact k8 | exact k9 | exact k10)); rintro e w1 ⟨rfl, g1⟩; have k1 := kd.trans g1; clear hsg) | (go_at_call 41; refine (hrs _ ?q9).mono ?_; (case q9 => (first | exact kd | exact k1 | exact k2 | exact k3 | exact k4 | exact k5 | exact k6 | exact k7 | exact k8 | exact k9 | exact k10)); rintro e w2 ⟨rfl, g2⟩; have k2 := k1.trans g2; clear hrs) | (go_at_call 10; refine (hrD _ ?q9).mono ?_; (case q9 => (first | exact kd | exact k1 | exact k2 | exact k3 | exact k4 | exact k5 | exact k6 | exact k7 | exact k8 | exact k9 | exact k10)); rintro e w3 ⟨rfl, g3⟩; have k3 := k2.trans g3; clear hrD) | (go_at_call 10; refine (hrU _ ?q9).mono ?_; (case q9 => (first | exact kd | exact k1 | exact k2 | exact k3 | exact k4 | exact k5 | exact k6 | exact k7 | exact k8 | exact k9 | exact k10)); rintro e w4 ⟨rfl, g4⟩; have k4 := k3.trans g4; clear hrU) | (go_at_call 9; refine (hbD _).mono ?_; rintro e w' ⟨rfl, hw'⟩; obtain rfl := hw'.symm; clear hw'; clear hbD) | (go_at_call 9; refine (hbU _).mono ?_; rintro e w' ⟨rfl, hw'⟩; obtain rfl := hw'.symm; clear hw'; clear hbU) | (go_at_call 9; refine (hcD _).mono ?_; rintro e w' ⟨rfl, hw'⟩; obtain rfl := hw'.symm; clear hw'; clear hcD) | (go_at_call 9; refine (hcU _).mono ?_; rintro e w' ⟨rfl, hw'⟩; obtain rfl := hw'.symm; clear hw'; clear hcU) | (go_at_call 42; refine (hab1 _ ?q9).mono ?_; (case q9 => (first | exact kd | exact k1 | exact k2 | exact k3 | exact k4 | exact k5 | exact k6 | exact k7 | exact k8 | exact k9 | exact k10)); rintro e w5 ⟨rfl, g5⟩; have k5 := k4.trans g5; clear hab1) | (go_at_call 36; refine (hI _).mono ?_; rintro e w6 ⟨s6, p6, l6, c6, q6, k6_, d6, rfl, X6, g6⟩; have k6 := k5.trans g6) | (go_at_call 43; refine (hrq _ _ _ _ _ _ _ _ _ ?q9 X6).mono ?_; (case q9 => (first | exact kd | exact k1 | exact k2 | exact k3 | exact k4 | exact k5 | exact k6 | exact k7 | exact k8 | exact k9 | exact k10)); rintro e w7 ⟨s7, p7, l7, c7, q7, k7_, d7, rfl, X7, g7⟩; have k7 := k6.trans g7) | (go_at_call 13; refine (hoD _ ?q9).mono ?_; (case q9 => (first | exact kd | exact k1 | exact k2 | exact k3 | exact k4 | exact k5 | exact k6 | exact k7 | exact k8 | exact k9 | exact k10)); rintro e w8 ⟨rfl, g8⟩; have k8 := k7.trans g8; have X8 := X7.kp g8; clear hoD) | (go_at_call 13; refine (hoU _ ?q9).mono ?_; (case q9 => (first | exact kd | exact k1 | exact k2 | exact k3 | exact k4 | exact k5 | exact k6 | exact k7 | exact k8 | exact k9 | exact k10)); rintro e w9 ⟨rfl, g9⟩; have k9 := k8.trans g9; have X9 := X8.kp g9; clear hoU) | (go_at_call 42; refine (hab2 _ _ _ _ _ _ _ _ _ X9).mono ?_; rintro e w10 ⟨rfl, g10⟩; have k10 := k9.trans g10) | (go_at_call 8; refine (hlv2 _ ?q9).mono ?_; (case q9 => (first | exact kd | exact k1 | exact k2 | exact k3 | exact k4 | exact k5 | exact k6 | exact k7 | exact k8 | exact k9 | exact k10)); rintro e w11 ⟨rfl, g11⟩; have k11 := k10.trans g11; clear hlv2))
      all_goals (
        go_wp2
        exact bodyPost_ret (v := .bool true) (by simp [results, Tryz.results6, go_sem]) rfl ⟨rfl, HW.out.trans k11⟩)
end Go.Proofs.YteedfmghgkmofaaGreatDoor
namespace Go.Proofs.YteedfmghgkmofaaGreatDoor
open Go.RowKit
set_option linter.unusedVariables false
set_option maxRecDepth 20000 in
set_option maxHeartbeats 8000000 in
theorem ttightB_ (K : Nat) (hK : K = 1074) (p : Option Addr) (c : Nat) (L : List Tm) (hok : TmOk L) (h3 : ¬ 1000 < L.length) (M : Nat) (hM1 : 1 ≤ M) (hM2 : M < 9223372036854775808) (w : World) (ha : ArrT w p L) (hT : Tab w) (hQ : Fq.Tab w) : Calls Tryz.prog 6 #[.slice p L.length c, .int .i64 (M : Int)] w fun e w' => e = .returned (.bool true) ∧ Kp w w' := by
  have hlv := lives_ w hT hQ
  obtain ⟨N, hN⟩ : ∃ N, N = L.length := ⟨_, rfl⟩
  rw [← hN] at h3 ⊢
  have j9 : ¬ ((1000 : Int) < (N : Int)) := by omega
  have j7 : ¬ ((M : Int) < 1) := by omega
  have HT : Hid (Tab w ∧ Fq.Tab w) := ⟨hT, hQ⟩
  have HN0 : Hid (N = L.length ∧ ArrT w p L ∧ TmOk L ∧ K = 1074 ∧ N ≤ N ∧ N ≤ 1000) := ⟨hN, ha, hok, hK, by omega, by omega⟩
  clear hN ha hok hK hT hQ h3
  go_enter Tryz.func6, Tryz.ntmps6
  go_wp2_with fail
  refine hlv.mono ?_
  rintro e wa ⟨rfl, ga⟩
  go_wp2_with fail
  refine (fnew_ K _).mono ?_
  rintro e wb ⟨rfl, F0, gb⟩
  have hk : Kp w wb := ga.trans gb
  have hz : w.heap.size ≤ wa.heap.size := ga.size
  clear ga gb hlv
  generalize wa.heap.size = bs at *
  go_wp2_with fail
  refine (int0X_ (K + K) _).mono ?_
  rintro e wc_ ⟨s1, p1, l1, c1, q1, k1, d1, rfl, hD0, gc⟩
  have hbs : bs < wb.heap.size := F0.lt
  have HS : Hid (Fs (wc_.alloc (.cells #[.bool s1, .slice p1 l1 c1, .slice q1 k1 d1] 43)) bs (tsV K (L.take 0)) 0 K ∧ Qs (wc_.alloc (.cells #[.bool s1, .slice p1 l1 c1, .slice q1 k1 d1] 43)) wc_.heap.size bs (tsV K (L.take 0)) (K + K) ∧ Kp w (wc_.alloc (.cells #[.bool s1, .slice p1 l1 c1, .slice q1 k1 d1] 43))) :=
    ⟨by simpa [tsV] using (F0.kp gc).kp ((Kp.refl _).alloc _), by simpa [tsV] using (show Qs (wc_.alloc (.cells #[.bool s1, .slice p1 l1 c1, .slice q1 k1 d1] 43)) wc_.heap.size bs 0 (K + K) from ⟨s1, p1, l1, c1, q1, k1, d1, H3c.new _ _ _ _ _, (hD0.mono (Nat.zero_le _)).kp ((Kp.refl _).alloc _), hD0.nbNew (Nat.le_refl _), hD0.nbLow hbs⟩), (hk.trans gc).alloc _⟩
  obtain ⟨hN, ha, hok, hK, hkN, hk3⟩ := HN0.out
  have HN : Hid (N = L.length ∧ ArrT w p L ∧ TmOk L ∧ w.heap.size ≤ bs ∧ N ≤ N ∧ N ≤ 1000 ∧ K = 1074 ∧ bs < wc_.heap.size) := ⟨hN, ha, hok, hz, hkN, hk3, hK, by have := gc.size; omega⟩
  clear HN0 hN ha hok hK hkN hk3 F0 hk hz hD0 gc hbs
  go_wp2_with fail
  generalize wc_.alloc (.cells #[.bool s1, .slice p1 l1 c1, .slice q1 k1 d1] 43) = wd at *
  generalize wc_.heap.size = bq at *
  go_loopw [8, 9, 10] (fun ii tt xx wr => ∃ i : Nat, ii = .int .i64 (i : Int) ∧ i ≤ N ∧ Fs wr bs (tsV K (L.take i)) i K ∧ Qs wr bq bs (tsV K (L.take i)) (K + K) ∧ Kp w wr) (fun i _ _ _ => N - (intOf i).toNat)
  case atStart => exact ⟨0, rfl, Nat.zero_le _, HS.out.1, HS.out.2.1, HS.out.2.2⟩
  case round =>
    obtain ⟨i, rfl, hi, hF, hQ1, hk⟩ := hrel
    clear HS
    obtain ⟨hN, ha, hok, hz, hkN, hk3, hK, hbq⟩ := HN.out
    by_cases ci : i < N
    · obtain ⟨oX, oY⟩ := hok i (by omega)
      have hts := tsV_take K L i (by omega)
      rcases ha with ha | ⟨bl, off, rfl, ha⟩
      · rw [ha] at hN; simp at hN; omega
      obtain ⟨e0, e1, e2⟩ := ha i (by omega)
      have e0 := kkeep hk e0
      have e1 := kkeep hk e1
      have e2 := kkeep hk e2
      obtain ⟨X, hX⟩ : ∃ X, X = (L.getD i (0, 0, false)).1 := ⟨_, rfl⟩
      obtain ⟨Y, hY⟩ : ∃ Y, Y = (L.getD i (0, 0, false)).2.1 := ⟨_, rfl⟩
      obtain ⟨pr, hpr⟩ : ∃ pr, pr = (L.getD i (0, 0, false)).2.2 := ⟨_, rfl⟩
      unfold tnV at hts
      rw [← hX] at e0 oX hts
      rw [← hY] at e1 oY hts
      rw [← hpr] at e2 hts
      have hnX := number4_ X oX
      have hnY := number4_ Y oY
      have j1 : (i : Int) < (N : Int) := by omega
      have j2 : i + 1 ≤ N := by omega
      have j3 : N - (i + 1) < N - i := by omega
      have j4 : i < N := by omega
      have j5 : (i : Int) < (N : Int) := by omega
      have j6 : i + 1 ≤ 1000 := by omega
      have e0 : wr.drew.cell? ⟨bl, off + i * 3, none⟩ = some (.int .u64 (X : Int)) := e0
      have e1 : wr.drew.cell? ⟨bl, off + i * 3 + 1, none⟩ = some (.int .u64 (Y : Int)) := e1
      have e2 : wr.drew.cell? ⟨bl, off + i * 3 + 2, none⟩ = some (.bool pr) := e2
      obtain ⟨n1, m1, hm1, hn1⟩ := Fq.exD (nmP X) (nmP_lt X oX)
      obtain ⟨n2, m2, hm2, hn2⟩ := Fq.exD (nmP Y) (nmP_lt Y oY)
      have f1 := nmP_fin X
      have f2 := nmP_fin Y
      have l1 := nmP_lt X oX
      have l2 := nmP_lt Y oY
      rw [hn1] at hts hnX f1 l1
      rw [hn2] at hts hnY f2 l2
      have g1 : m1 < 9218868437227405312 := by rw [(wD_parts n1 m1 hm1).1] at f1; exact f1
      have g2 : m2 < 9218868437227405312 := by rw [(wD_parts n2 m2 hm2).1] at f2; exact f2
      have HR : Hid (Fs wr bs (tsV K (L.take i)) i K ∧ Qs wr bq bs (tsV K (L.take i)) (K + K) ∧ Kp w wr ∧ w.heap.size ≤ bs ∧ bs < bq ∧ K = 1074 ∧ tsV K (L.take (i + 1)) = tsV K (L.take i) + tkV K (Fq.wD n1 m1) (Fq.wD n2 m2) pr ∧ Fq.wD n1 m1 < 18446744073709551616 ∧ Fq.wD n2 m2 < 18446744073709551616 ∧ m1 < 9218868437227405312 ∧ m2 < 9218868437227405312 ∧ Fq.wD n1 m1 % 9223372036854775808 < 9218868437227405312 ∧ Fq.wD n2 m2 % 9223372036854775808 < 9218868437227405312) := ⟨hF, hQ1, hk, hz, hbq, hK, hts, l1, l2, g1, g2, f1, f2⟩
      clear hN ha hok hz hkN hK hi hts hX hY hpr hF hQ1 ci hk hm1 hm2 hn1 hn2 f1 f2 g1 g2 l1 l2 oX oY hbq
      obtain ⟨WX, hWX⟩ : ∃ WX : Int, WX = ((Fq.wD n1 m1 : Nat) : Int) := ⟨_, rfl⟩
      obtain ⟨WY, hWY⟩ : ∃ WY : Int, WY = ((Fq.wD n2 m2 : Nat) : Int) := ⟨_, rfl⟩
      rw [← hWX] at hnX
      rw [← hWY] at hnY
      have HW : Hid (WX = ((Fq.wD n1 m1 : Nat) : Int) ∧ WY = ((Fq.wD n2 m2 : Nat) : Int)) := ⟨hWX, hWY⟩
      clear hWX hWY
      go_upto_region 11 with fail
      go_region_held3 (fun w' => w'.cell? ⟨bl, off + i * 3, none⟩ = some (.int .u64 (X : Int)) ∧ w'.cell? ⟨bl, off + i * 3 + 1, none⟩ = some (.int .u64 (Y : Int)) ∧ w'.cell? ⟨bl, off + i * 3 + 2, none⟩ = some (.bool pr)) (first | (with_reducible exact ⟨e0, e1, e2⟩) | go_keep) (first | (go_at_call_of 37 (Value.int IntKind.u64 (X : Int)); refine (hnX _).mono ?_; rintro e w' ⟨rfl, hw'⟩; obtain rfl := hw'.symm; clear hw') | (go_at_call_of 37 (Value.int IntKind.u64 (Y : Int)); refine (hnY _).mono ?_; rintro e w' ⟨rfl, hw'⟩; obtain rfl := hw'.symm; clear hw'))
      all_goals (
        cases pr
        · obtain ⟨hF, hQ1, hk, hz, hbq, hK, hts, l1_, l2_, g1, g2, f1, f2⟩ := HR.out
          have t0 : (wr.alloc (.cells #[.int .u64 WX, .int .u64 WY, .bool false] 68)).drew.cell? ⟨wr.heap.size, 0, none⟩ = some (.int .u64 WX) := by simp [go_sem]
          have t1 : (wr.alloc (.cells #[.int .u64 WX, .int .u64 WY, .bool false] 68)).drew.cell? ⟨wr.heap.size, 1, none⟩ = some (.int .u64 WY) := by simp [go_sem]
          have t2 : (wr.alloc (.cells #[.int .u64 WX, .int .u64 WY, .bool false] 68)).drew.cell? ⟨wr.heap.size, 2, none⟩ = some (.bool false) := by simp [go_sem]
          have gA : Kp wr (wr.alloc (.cells #[.int .u64 WX, .int .u64 WY, .bool false] 68)).drew := ((Kp.refl wr).alloc _).drew
          have hbt : bs < wr.heap.size := hF.lt
          generalize (wr.alloc (.cells #[.int .u64 WX, .int .u64 WY, .bool false] 68)).drew = W1 at *
          generalize wr.heap.size = bt at *
          replace hF := hF.kp gA
          replace hQ1 := hQ1.kp gA
          replace hk := hk.trans gA
          have htk := ftake4_ (Fq.wD n1 m1) (Fq.wD n2 m2) false K hK l1_ l2_ f1 f2 bs _ i (by omega) W1 hF
          rw [← hts, ← HW.out.1, ← HW.out.2] at htk
          have HP : Hid (Qs W1 bq bs (tsV K (L.take i)) (K + K) ∧ Kp w W1 ∧ bs < bt ∧ (tsV K (L.take i)).natAbs < 2 ^ (K + K + 2058)) := ⟨hQ1, hk, hbt, fs_b hF hK (by omega)⟩
          clear hF hQ1 hk hz hbq hK hts l1_ l2_ g1 g2 f1 f2 gA hbt
          go_wp2_with fail
          refine htk.mono ?_
          rintro e W2 ⟨⟨v2, rfl⟩, hF, kb⟩
          obtain ⟨hQ1, hk, hbt, hVb⟩ := HP.out
          obtain ⟨-, -, -, hz, hbq, hK, hts, l1_, l2_, g1, g2, f1, f2⟩ := HR.out
          replace hQ1 := hQ1.kb kb (by omega)
          replace hk := kb.kp hk hz
          replace t0 := kb.arr (show bt ≠ bs by omega) t0
          replace t1 := kb.arr (show bt ≠ bs by omega) t1
          replace t2 := kb.arr (show bt ≠ bs by omega) t2
          have hfx := dyfrom_ n1 m1 K hK g1 W2
          rw [← HW.out.1] at hfx
          clear HP htk kb
          have HP : Hid (Fs W2 bs (tsV K (L.take (i + 1))) (i + 1) K ∧ Qs W2 bq bs (tsV K (L.take i)) (K + K) ∧ Kp w W2 ∧ (tsV K (L.take i)).natAbs < 2 ^ (K + K + 2058)) := ⟨hF, hQ1, hk, hVb⟩
          clear hF hQ1 hk hbt hVb hz hbq hK hts l1_ l2_ g1 g2 f1 f2
          go_wp2_with fail
          refine hfx.mono ?_
          rintro e W3 ⟨s3, p3, l3, c3, q3, k3_, d3, rfl, D3, g3⟩
          obtain ⟨hF, hQ1, hk, hVb⟩ := HP.out
          obtain ⟨s5, p5, l5, c5, q5, k5_, d5, hq, hDq, hnb1, hnb2⟩ := hQ1
          replace hF := hF.kp g3
          replace hq := hq.keep g3
          replace hDq := hDq.kp g3
          replace hk := hk.trans g3
          replace t0 := kkeep g3 t0
          replace t1 := kkeep g3 t1
          replace t2 := kkeep g3 t2
          have hx := H3c.new W3 (.bool s3) (.slice p3 l3 c3) (.slice q3 k3_ d3) 43
          have gB : Kp W3 (W3.alloc (.cells #[.bool s3, .slice p3 l3 c3, .slice q3 k3_ d3] 43)) := (Kp.refl W3).alloc _
          have hnb := hDq.nbNew (Nat.le_refl _)
          have hbx : bq < W3.heap.size := hq.lt
          have hbtx : bt < W3.heap.size := cell_lt t0
          clear g3 hfx HP
          go_upto_region 14 with fail
          generalize W3.alloc (.cells #[.bool s3, .slice p3 l3 c3, .slice q3 k3_ d3] 43) = W4 at *
          have D3 := D3.mono (Nat.zero_le _)
          replace hF := hF.kp gB
          replace hq := hq.keep gB
          replace hDq := hDq.kp gB
          replace D3 := D3.kp gB
          replace hk := hk.trans gB
          replace t0 := kkeep gB t0
          replace t1 := kkeep gB t1
          replace t2 := kkeep gB t2
          generalize W3.heap.size = bx at *
          clear gB hnb1 hnb2
          obtain ⟨-, -, -, hz, hbq, hK, hts, l1_, l2_, g1, g2, f1, f2⟩ := HR.out
          have hXb := tk_b K hK (Fq.wD n1 m1) (Fq.wD n2 m2) false
          have hxv : tkV K (Fq.wD n1 m1) (Fq.wD n2 m2) false = Iv n1 m1 * ((2 ^ K : Nat) : Int) := by
            unfold tkV; simp only [Bool.false_eq_true, if_false]; rw [xV_fin n1 m1 K g1]; rfl
          have hDx : Dy 0 W4 s3 p3 l3 c3 q3 k3_ d3 (Iv n1 m1 * ((2 ^ K : Nat) : Int)) (K + K) := D3.up K
          rw [hxv] at hts hXb
          generalize Iv n1 m1 * ((2 ^ K : Nat) : Int) = XV at *
          have hVV := hts
          clear hz hbq hK hts l1_ l2_ g1 g2 f1 f2 hxv D3 hbx
          obtain ⟨u0, u1, u2, u3, u4, u5⟩ := id hq
          obtain ⟨y0, y1, y2, y3, y4, y5⟩ := id hx
          have hra := dyadd_ s5 p5 l5 c5 q5 k5_ d5 s3 p3 l3 c3 q3 k3_ d3 (tsV K (L.take i)) _ (K + K) (K + K + 2058) (by have := HR.out.2.2.2.2.2.1; omega) (by have := HR.out.2.2.2.2.2.1; omega) hVb hXb 0 0 W4 hDq hDx
          have HY : Hid (H3c W4 bq (.bool s5) (.slice p5 l5 c5) (.slice q5 k5_ d5) ∧ Fs W4 bs (tsV K (L.take (i + 1))) (i + 1) K ∧ Kp w W4 ∧ w.heap.size ≤ bs ∧ bs < bq ∧ tsV K (L.take (i + 1)) = tsV K (L.take i) + XV) := ⟨hq, hF, hk, HR.out.2.2.2.1, HR.out.2.2.2.2.1, hVV⟩
          clear hq hx hF hk hDq hDx hVb hXb hVV hnb HR
          go_wp2_with fail
          refine hra.mono ?_
          rintro e W8 ⟨s8, p8, l8, c8, q8, k8_, d8, rfl, D8, g8⟩
          obtain ⟨hq, hF, hk, hz, hbq, hVV⟩ := HY.out
          have hql : bq < W4.heap.size := hq.lt
          replace hq := hq.keep g8
          have kbs : Kb bq W8 (((W8.setCell ⟨bq, 0, none⟩ (.bool s8)).setCell ⟨bq, 1, none⟩ (.slice p8 l8 c8)).setCell ⟨bq, 2, none⟩ (.slice q8 k8_ d8)) := ((((Kb.refl bq W8).setCell 0 _).setCell 1 _).setCell 2 _)
          have HZ : Hid (Fs (((W8.setCell ⟨bq, 0, none⟩ (.bool s8)).setCell ⟨bq, 1, none⟩ (.slice p8 l8 c8)).setCell ⟨bq, 2, none⟩ (.slice q8 k8_ d8)) bs (tsV K (L.take (i + 1))) (i + 1) K ∧ Qs (((W8.setCell ⟨bq, 0, none⟩ (.bool s8)).setCell ⟨bq, 1, none⟩ (.slice p8 l8 c8)).setCell ⟨bq, 2, none⟩ (.slice q8 k8_ d8)) bq bs (tsV K (L.take (i + 1))) (K + K) ∧ Kp w (((W8.setCell ⟨bq, 0, none⟩ (.bool s8)).setCell ⟨bq, 1, none⟩ (.slice p8 l8 c8)).setCell ⟨bq, 2, none⟩ (.slice q8 k8_ d8))) :=
            ⟨(hF.kp g8).kb kbs (by omega), ⟨s8, p8, l8, c8, q8, k8_, d8, hq.put _ _ _, by rw [hVV]; exact (D8.mono (Nat.zero_le _)).kb kbs (D8.nbLow hql), D8.nbLow hql, D8.nbLow (by omega)⟩, kbs.kp (hk.trans g8) (by omega)⟩
          obtain ⟨v0, v1, v2, v3, v4, v5⟩ := hq
          clear hF hk hz hbq hVV hql kbs HY hra g8 D8
          go_wp2
          exact ⟨⟨i + 1, by go_num, j2, HZ.out.1, HZ.out.2.1, HZ.out.2.2⟩, (show N - (i + 1) < N - i from j3)⟩
        · obtain ⟨hF, hQ1, hk, hz, hbq, hK, hts, l1_, l2_, g1, g2, f1, f2⟩ := HR.out
          have t0 : (wr.alloc (.cells #[.int .u64 WX, .int .u64 WY, .bool true] 68)).drew.cell? ⟨wr.heap.size, 0, none⟩ = some (.int .u64 WX) := by simp [go_sem]
          have t1 : (wr.alloc (.cells #[.int .u64 WX, .int .u64 WY, .bool true] 68)).drew.cell? ⟨wr.heap.size, 1, none⟩ = some (.int .u64 WY) := by simp [go_sem]
          have t2 : (wr.alloc (.cells #[.int .u64 WX, .int .u64 WY, .bool true] 68)).drew.cell? ⟨wr.heap.size, 2, none⟩ = some (.bool true) := by simp [go_sem]
          have gA : Kp wr (wr.alloc (.cells #[.int .u64 WX, .int .u64 WY, .bool true] 68)).drew := ((Kp.refl wr).alloc _).drew
          have hbt : bs < wr.heap.size := hF.lt
          generalize (wr.alloc (.cells #[.int .u64 WX, .int .u64 WY, .bool true] 68)).drew = W1 at *
          generalize wr.heap.size = bt at *
          replace hF := hF.kp gA
          replace hQ1 := hQ1.kp gA
          replace hk := hk.trans gA
          have htk := ftake4_ (Fq.wD n1 m1) (Fq.wD n2 m2) true K hK l1_ l2_ f1 f2 bs _ i (by omega) W1 hF
          rw [← hts, ← HW.out.1, ← HW.out.2] at htk
          have HP : Hid (Qs W1 bq bs (tsV K (L.take i)) (K + K) ∧ Kp w W1 ∧ bs < bt ∧ (tsV K (L.take i)).natAbs < 2 ^ (K + K + 2058)) := ⟨hQ1, hk, hbt, fs_b hF hK (by omega)⟩
          clear hF hQ1 hk hz hbq hK hts l1_ l2_ g1 g2 f1 f2 gA hbt
          go_wp2_with fail
          refine htk.mono ?_
          rintro e W2 ⟨⟨v2, rfl⟩, hF, kb⟩
          obtain ⟨hQ1, hk, hbt, hVb⟩ := HP.out
          obtain ⟨-, -, -, hz, hbq, hK, hts, l1_, l2_, g1, g2, f1, f2⟩ := HR.out
          replace hQ1 := hQ1.kb kb (by omega)
          replace hk := kb.kp hk hz
          replace t0 := kb.arr (show bt ≠ bs by omega) t0
          replace t1 := kb.arr (show bt ≠ bs by omega) t1
          replace t2 := kb.arr (show bt ≠ bs by omega) t2
          have hfx := dyfrom_ n1 m1 K hK g1 W2
          rw [← HW.out.1] at hfx
          clear HP htk kb
          have HP : Hid (Fs W2 bs (tsV K (L.take (i + 1))) (i + 1) K ∧ Qs W2 bq bs (tsV K (L.take i)) (K + K) ∧ Kp w W2 ∧ (tsV K (L.take i)).natAbs < 2 ^ (K + K + 2058)) := ⟨hF, hQ1, hk, hVb⟩
          clear hF hQ1 hk hbt hVb hz hbq hK hts l1_ l2_ g1 g2 f1 f2
          go_wp2_with fail
          refine hfx.mono ?_
          rintro e W3 ⟨s3, p3, l3, c3, q3, k3_, d3, rfl, D3, g3⟩
          obtain ⟨hF, hQ1, hk, hVb⟩ := HP.out
          obtain ⟨s5, p5, l5, c5, q5, k5_, d5, hq, hDq, hnb1, hnb2⟩ := hQ1
          replace hF := hF.kp g3
          replace hq := hq.keep g3
          replace hDq := hDq.kp g3
          replace hk := hk.trans g3
          replace t0 := kkeep g3 t0
          replace t1 := kkeep g3 t1
          replace t2 := kkeep g3 t2
          have hx := H3c.new W3 (.bool s3) (.slice p3 l3 c3) (.slice q3 k3_ d3) 43
          have gB : Kp W3 (W3.alloc (.cells #[.bool s3, .slice p3 l3 c3, .slice q3 k3_ d3] 43)) := (Kp.refl W3).alloc _
          have hnb := hDq.nbNew (Nat.le_refl _)
          have hbx : bq < W3.heap.size := hq.lt
          have hbtx : bt < W3.heap.size := cell_lt t0
          clear g3 hfx HP
          go_upto_region 14 with fail
          generalize W3.alloc (.cells #[.bool s3, .slice p3 l3 c3, .slice q3 k3_ d3] 43) = W4 at *
          have D3 := D3.mono (Nat.zero_le _)
          replace hF := hF.kp gB
          replace hq := hq.keep gB
          replace hDq := hDq.kp gB
          replace D3 := D3.kp gB
          replace hk := hk.trans gB
          replace t0 := kkeep gB t0
          replace t1 := kkeep gB t1
          replace t2 := kkeep gB t2
          generalize W3.heap.size = bx at *
          clear gB hnb1 hnb2
          obtain ⟨-, -, -, hz, hbq, hK, hts, l1_, l2_, g1, g2, f1, f2⟩ := HR.out
          have hXb := tk_b K hK (Fq.wD n1 m1) (Fq.wD n2 m2) true
          have hxv : tkV K (Fq.wD n1 m1) (Fq.wD n2 m2) true = Iv n1 m1 * Iv n2 m2 := by
            unfold tkV; simp only [if_true]; exact yV_fin n1 n2 m1 m2 g1 g2
          have hi1 := iv_lt n1 m1 K hK g1
          have hi2 := iv_lt n2 m2 K hK g2
          have hfy := dyfrom_ n2 m2 K hK g2 W4.drew
          rw [← HW.out.2] at hfy
          have hrm := fun (W : World) (s9 : Bool) (p9 : Option Addr) (l9 c9 : Nat) (q9 : Option Addr) (k9_ d9 b : Nat) (g : Kp W4.drew W) (h : Dy b W s9 p9 l9 c9 q9 k9_ d9 (Iv n2 m2) K) => dymul_ s3 p3 l3 c3 q3 k3_ d3 s9 p9 l9 c9 q9 k9_ d9 (Iv n1 m1) (Iv n2 m2) K (K + 1024) (by omega) (by omega) hi1 hi2 0 b W (D3.kp ((Kp.refl W4).drew.trans g)) h
          rw [hxv] at hts hXb
          generalize Iv n1 m1 * Iv n2 m2 = XV at *
          have HP : Hid (Fs W4 bs (tsV K (L.take (i + 1))) (i + 1) K ∧ H3c W4 bq (.bool s5) (.slice p5 l5 c5) (.slice q5 k5_ d5) ∧ Dy 0 W4 s5 p5 l5 c5 q5 k5_ d5 (tsV K (L.take i)) (K + K) ∧ NB p5 q5 bx ∧ Kp w W4 ∧ (tsV K (L.take i)).natAbs < 2 ^ (K + K + 2058) ∧ XV.natAbs < 2 ^ (K + K + 2058) ∧ tsV K (L.take (i + 1)) = tsV K (L.take i) + XV ∧ H3c W4 bx (.bool s3) (.slice p3 l3 c3) (.slice q3 k3_ d3) ∧ bq < bx) := ⟨hF, hq, hDq, hnb, hk, hVb, hXb, hts, hx, hbx⟩
          obtain ⟨y0, y1, y2, y3, y4, y5⟩ := hx
          clear hF hq hDq hnb hk hVb hXb hts hz hbq hK l1_ l2_ g1 g2 f1 f2 hxv D3 hbx hi1 hi2
          go_upto_region 15 with fail
          have y0 : W4.drew.cell? ⟨bx, 0, none⟩ = some (.bool s3) := y0
          have y1 : W4.drew.cell? ⟨bx, 1, none⟩ = some (.slice p3 l3 c3) := y1
          have y2 : W4.drew.cell? ⟨bx, 2, none⟩ = some (.slice q3 k3_ d3) := y2
          have t1 : W4.drew.cell? ⟨bt, 1, none⟩ = some (.int .u64 WY) := t1
          go_region_with (first | (go_at_call 38; refine hfy.mono ?_; rintro e W5 ⟨s9, p9, l9, c9, q9, k9_, d9, rfl, D9, k9⟩; have x0 := kkeep k9 y0; have x1 := kkeep k9 y1; have x2 := kkeep k9 y2) | (go_at_call 39; refine (hrm _ _ _ _ _ _ _ _ _ k9 D9).mono ?_; rintro e W6 ⟨s6, p6, l6, c6, q6, k6_, d6, rfl, D6, g6⟩; have k6 := k9.trans g6; have HX := H3c.keep HP.out.2.2.2.2.2.2.2.2.1 ((Kp.refl W4).drew.trans k6); obtain ⟨z0, z1, z2, z3, z4, z5⟩ := id HX))
          all_goals (
            obtain ⟨hF, hq, hDq, hnb, hk, hVb, hXb, hVV, -, hbx⟩ := HP.out
            have g4 := (Kp.refl W4).drew.trans k6
            have hbl : bx < W5.heap.size := cell_lt (kkeep k9 y0)
            have hz := HR.out.2.2.2.1
            have hbq := HR.out.2.2.2.2.1
            have kbs : Kb bx W6 (((W6.setCell ⟨bx, 0, none⟩ (.bool s6)).setCell ⟨bx, 1, none⟩ (.slice p6 l6 c6)).setCell ⟨bx, 2, none⟩ (.slice q6 k6_ d6)) := ((((Kb.refl bx W6).setCell 0 _).setCell 1 _).setCell 2 _)
            replace hF := (hF.kp g4).kb kbs (by omega)
            replace hq := (hq.keep g4).kb kbs (by omega)
            replace hDq := (hDq.kp g4).kb kbs hnb
            replace hk := kbs.kp (hk.trans g4) (by omega)
            have hx := HX.put (.bool s6) (.slice p6 l6 c6) (.slice q6 k6_ d6)
            have hDx := (D6.mono (Nat.zero_le _)).kb kbs (D6.nbLow hbl)
            clear z0 z1 z2 z3 z4 z5 HX g4 hbl hz hbq kbs y0 y1 y2 y3 y4 y5 k6 k9 g6 D6 D9 HP hrm hfy
            generalize (((W6.setCell ⟨bx, 0, none⟩ (.bool s6)).setCell ⟨bx, 1, none⟩ (.slice p6 l6 c6)).setCell ⟨bx, 2, none⟩ (.slice q6 k6_ d6)) = W7 at *
            obtain ⟨u0, u1, u2, u3, u4, u5⟩ := id hq
            obtain ⟨y0, y1, y2, y3, y4, y5⟩ := id hx
            have hra := dyadd_ s5 p5 l5 c5 q5 k5_ d5 s6 p6 l6 c6 q6 k6_ d6 (tsV K (L.take i)) _ (K + K) (K + K + 2058) (by have := HR.out.2.2.2.2.2.1; omega) (by have := HR.out.2.2.2.2.2.1; omega) hVb hXb 0 0 W7 hDq hDx
            have HY : Hid (H3c W7 bq (.bool s5) (.slice p5 l5 c5) (.slice q5 k5_ d5) ∧ Fs W7 bs (tsV K (L.take (i + 1))) (i + 1) K ∧ Kp w W7 ∧ w.heap.size ≤ bs ∧ bs < bq ∧ tsV K (L.take (i + 1)) = tsV K (L.take i) + XV) := ⟨hq, hF, hk, HR.out.2.2.2.1, HR.out.2.2.2.2.1, hVV⟩
            clear hq hx hF hk hDq hDx hVb hXb hVV hnb HR
            go_wp2_with fail
            refine hra.mono ?_
            rintro e W8 ⟨s8, p8, l8, c8, q8, k8_, d8, rfl, D8, g8⟩
            obtain ⟨hq, hF, hk, hz, hbq, hVV⟩ := HY.out
            have hql : bq < W7.heap.size := hq.lt
            replace hq := hq.keep g8
            have kbs : Kb bq W8 (((W8.setCell ⟨bq, 0, none⟩ (.bool s8)).setCell ⟨bq, 1, none⟩ (.slice p8 l8 c8)).setCell ⟨bq, 2, none⟩ (.slice q8 k8_ d8)) := ((((Kb.refl bq W8).setCell 0 _).setCell 1 _).setCell 2 _)
            have HZ : Hid (Fs (((W8.setCell ⟨bq, 0, none⟩ (.bool s8)).setCell ⟨bq, 1, none⟩ (.slice p8 l8 c8)).setCell ⟨bq, 2, none⟩ (.slice q8 k8_ d8)) bs (tsV K (L.take (i + 1))) (i + 1) K ∧ Qs (((W8.setCell ⟨bq, 0, none⟩ (.bool s8)).setCell ⟨bq, 1, none⟩ (.slice p8 l8 c8)).setCell ⟨bq, 2, none⟩ (.slice q8 k8_ d8)) bq bs (tsV K (L.take (i + 1))) (K + K) ∧ Kp w (((W8.setCell ⟨bq, 0, none⟩ (.bool s8)).setCell ⟨bq, 1, none⟩ (.slice p8 l8 c8)).setCell ⟨bq, 2, none⟩ (.slice q8 k8_ d8))) :=
              ⟨(hF.kp g8).kb kbs (by omega), ⟨s8, p8, l8, c8, q8, k8_, d8, hq.put _ _ _, by rw [hVV]; exact (D8.mono (Nat.zero_le _)).kb kbs (D8.nbLow hql), D8.nbLow hql, D8.nbLow (by omega)⟩, kbs.kp (hk.trans g8) (by omega)⟩
            obtain ⟨v0, v1, v2, v3, v4, v5⟩ := hq
            clear hF hk hz hbq hVV hql kbs HY hra g8 D8
            go_wp2
            exact ⟨⟨i + 1, by go_num, j2, HZ.out.1, HZ.out.2.1, HZ.out.2.2⟩, (show N - (i + 1) < N - i from j3)⟩))
    · have hik : i = N := by omega
      have t1 : ¬ ((i : Int) < (N : Int)) := by omega
      rw [hik] at hF hQ1
      obtain ⟨hT, hQ⟩ := HT.out
      obtain ⟨s5, p5, l5, c5, q5, k5_, d5, h3, hDq, -, -⟩ := hQ1
      have hVb := fs_b hF hK hk3
      clear hN ha hok hz hkN hbq hi ci hik
      generalize tsV K (L.take N) = V at *
      have hX := hDq.xp (K + K + 2058) hVb (by omega)
      have hpw : 2 ^ (K + K) = 2 ^ K * 2 ^ K := Nat.pow_add ..
      have hp1 := Nat.two_pow_pos K
      have hp2 : 0 < M * 2 ^ K := Nat.mul_pos (by omega) hp1
      have kr : Kp wr wr.drew := (Kp.refl wr).drew
      have kd : Kp wr.drew wr.drew := Kp.refl _
      have kwr : Kp w wr.drew := hk.drew
      have hA1 := ab_g (2 ^ K) hp1 V
      have hA2 := ab_g (M * 2 ^ K) hp2 V
      have hsg := fun (W : World) (g : Kp wr.drew W) => fsign_ K hK bs V N W (hF.kp (kr.trans g))
      have hrs := fun (W : World) (g : Kp wr.drew W) => dysign_ s5 p5 l5 c5 q5 k5_ d5 V (K + K) (K + K + 2058) (by omega) hVb 0 W (hDq.kp (kr.trans g))
      have hrD := fun (W : World) (g : Kp wr.drew W) => fround_ (-1) (by decide) (by decide) K hK bs V N W (hF.kp (kr.trans g)) (hT.grown (kwr.trans g)) (Fq.Tab.grown hQ (kwr.trans g))
      have hrU := fun (W : World) (g : Kp wr.drew W) => fround_ 1 (by decide) (by decide) K hK bs V N W (hF.kp (kr.trans g)) (hT.grown (kwr.trans g)) (Fq.Tab.grown hQ (kwr.trans g))
      rw [fmaW_g K hK (-1) V] at hrD
      rw [fmaW_g K hK 1 V] at hrU
      have hoD := fun (W : World) (g : Kp wr.drew W) => fover_ (-1) (by decide) (by decide) M hM1 hM2 K hK bs V N W (hF.kp (kr.trans g)) (Fq.Tab.grown hQ (kwr.trans g))
      have hoU := fun (W : World) (g : Kp wr.drew W) => fover_ 1 (by decide) (by decide) M hM1 hM2 K hK bs V N W (hF.kp (kr.trans g)) (Fq.Tab.grown hQ (kwr.trans g))
      have hl := len_b V.natAbs 16384 (K + K + 2058) hVb (by omega)
      have hl2 := len_b M 16384 64 (by omega) (by decide)
      rw [ratW_g K hK (-1) V M hM1 hl hl2] at hoD
      rw [ratW_g K hK 1 V M hM1 hl hl2] at hoU
      generalize g53 (-1) 1 (2 ^ K) V = L1 at *
      generalize g53 1 1 (2 ^ K) V = H1 at *
      generalize g53 (-1) 1 (M * 2 ^ K) V = L2 at *
      generalize g53 1 1 (M * 2 ^ K) V = H2 at *
      have hbD := fun (W : World) => bits4_ (pz L1) (self_pz L1 (by rcases hA1 with h | h <;> omega)) W
      have hbU := fun (W : World) => bits4_ (pz H1) (self_pz H1 (by rcases hA1 with h | h <;> omega)) W
      have hcD := fun (W : World) => bits4_ (pz L2) (self_pz L2 (by rcases hA2 with h | h <;> omega)) W
      have hcU := fun (W : World) => bits4_ (pz H2) (self_pz H2 (by rcases hA2 with h | h <;> omega)) W
      have hX2 : XP 0 wr s5 p5 l5 c5 q5 k5_ d5 V (2 ^ K * 2 ^ K) (K + K + 2058) := by rw [← hpw]; exact hX
      have hab1 := fun (W : World) (g : Kp wr.drew W) => about4_ K hK V (2 ^ K) (K + K + 2058) hp1 (by omega) L1 H1 hA1 s5 p5 l5 c5 q5 k5_ d5 0 W (hX2.kp (kr.trans g))
      have hI : ∀ W : World, Calls Tryz.prog 36 #[.int .i64 (M : Int)] W fun e w' => ∃ (s6 : Bool) (p6 : Option Addr) (l6 c6 : Nat) (q6 : Option Addr) (k6_ d6 : Nat), e = .returned (.agg #[.bool s6, .slice p6 l6 c6, .slice q6 k6_ d6]) ∧ XP W.heap.size w' s6 p6 l6 c6 q6 k6_ d6 ((M : Nat) : Int) 1 100 ∧ Kp W w' := fun W => intN_ M hM1 hM2 W
      have hrq : ∀ (W : World) (s6 : Bool) (p6 : Option Addr) (l6 c6 : Nat) (q6 : Option Addr) (k6_ d6 : Nat) (b : Nat), Kp wr.drew W → XP b W s6 p6 l6 c6 q6 k6_ d6 ((M : Nat) : Int) 1 100 → Calls Tryz.prog 43 #[.agg #[.bool s5, .slice p5 l5 c5, .slice q5 k5_ d5], .agg #[.bool s6, .slice p6 l6 c6, .slice q6 k6_ d6]] W fun e w' => ∃ (s7 : Bool) (p7 : Option Addr) (l7 c7 : Nat) (q7 : Option Addr) (k7_ d7 : Nat), e = .returned (.agg #[.bool s7, .slice p7 l7 c7, .slice q7 k7_ d7]) ∧ XP W.heap.size w' s7 p7 l7 c7 q7 k7_ d7 V (M * 2 ^ K * 2 ^ K) (2 * (K + K + 2058 + 100) + 3) ∧ Kp W w' := fun W s6 p6 l6 c6 q6 k6_ d6 b g h => by
        have h9 := xquo_ V M false (by omega) (2 ^ (K + K)) 1 (K + K + 2058) 100 (by omega) s5 p5 l5 c5 q5 k5_ d5 s6 p6 l6 c6 q6 k6_ d6 0 b W (hX.kp (kr.trans g)) (by have e : rvI false M = ((M : Nat) : Int) := rfl; rw [e]; exact h)
        have e1 : rvI false 1 * V * ((1 : Nat) : Int) = V := by show 1 * V * 1 = V; omega
        have e2 : 2 ^ (K + K) * M = M * 2 ^ K * 2 ^ K := by rw [hpw, Nat.mul_comm, Nat.mul_assoc]
        rw [e1, e2] at h9
        exact h9
      have hab2 := fun (W : World) (s7 : Bool) (p7 : Option Addr) (l7 c7 : Nat) (q7 : Option Addr) (k7_ d7 : Nat) (b : Nat) (h : XP b W s7 p7 l7 c7 q7 k7_ d7 V (M * 2 ^ K * 2 ^ K) (2 * (K + K + 2058 + 100) + 3)) => about4_ K hK V (M * 2 ^ K) (2 * (K + K + 2058 + 100) + 3) hp2 (by omega) L2 H2 hA2 s7 p7 l7 c7 q7 k7_ d7 b W h
      have hlv2 := fun (W : World) (g : Kp wr.drew W) => lives_ W (hT.grown (kwr.trans g)) (Fq.Tab.grown hQ (kwr.trans g))
      obtain ⟨y0, y1, y2, -, -, -⟩ := h3
      have y0 : wr.drew.cell? ⟨bq, 0, none⟩ = some (.bool s5) := y0
      have y1 : wr.drew.cell? ⟨bq, 1, none⟩ = some (.slice p5 l5 c5) := y1
      have y2 : wr.drew.cell? ⟨bq, 2, none⟩ = some (.slice q5 k5_ d5) := y2
      have HW : Hid (Kp w wr.drew) := kwr
      generalize pz L1 = R1 at *
      generalize pz H1 = R2 at *
      generalize pz L2 = R3 at *
      generalize pz H2 = R4 at *
      generalize sgV V = SG at *
      clear hF hk hK hk3 hDq hVb hX hX2 hpw hp1 hp2 kr kwr hA1 hA2 hl hl2 HN HT hT hQ hM1 hM2
      go_upto_region 19 with fail
      go_region_held3 (fun w' => w'.cell? ⟨bq, 0, none⟩ = some (.bool s5) ∧ w'.cell? ⟨bq, 1, none⟩ = some (.slice p5 l5 c5) ∧ w'.cell? ⟨bq, 2, none⟩ = some (.slice q5 k5_ d5)) (first | (with_reducible exact ⟨y0, y1, y2⟩) | (exact ⟨kkeep k1 y0, kkeep k1 y1, kkeep k1 y2⟩) | (exact ⟨kkeep k2 y0, kkeep k2 y1, kkeep k2 y2⟩) | (exact ⟨kkeep k3 y0, kkeep k3 y1, kkeep k3 y2⟩) | (exact ⟨kkeep k4 y0, kkeep k4 y1, kkeep k4 y2⟩) | (exact ⟨kkeep k5 y0, kkeep k5 y1, kkeep k5 y2⟩) | (exact ⟨kkeep k6 y0, kkeep k6 y1, kkeep k6 y2⟩) | (exact ⟨kkeep k7 y0, kkeep k7 y1, kkeep k7 y2⟩) | (exact ⟨kkeep k8 y0, kkeep k8 y1, kkeep k8 y2⟩) | (exact ⟨kkeep k9 y0, kkeep k9 y1, kkeep k9 y2⟩) | (exact ⟨kkeep k10 y0, kkeep k10 y1, kkeep k10 y2⟩) | (exact ⟨kkeep k11 y0, kkeep k11 y1, kkeep k11 y2⟩)) (first | (go_at_call 11; refine (hsg _ ?q9).mono ?_; (case q9 => (first | exact kd | exact k1 | exact k2 | exact k3 | exact k4 | exact k5 | exact k6 | exact k7 | exact k8 | exact k9 | exact k10)); rintro e w1 ⟨rfl, g1⟩; have k1 := kd.trans g1; clear hsg) | (go_at_call 41; refine (hrs _ ?q9).mono ?_; (case q9 => (first | exact kd | exact k1 | exact k2 | exact k3 | exact k4 | exact k5 | exact k6 | exact k7 | exact k8 | exact k9 | exact k10)); rintro e w2 ⟨rfl, g2⟩; have k2 := k1.trans g2; clear hrs) | (go_at_call 10; refine (hrD _ ?q9).mono ?_; (case q9 => (first | exact kd | exact k1 | exact k2 | exact k3 | exact k4 | exact k5 | exact k6 | exact k7 | exact k8 | exact k9 | exact k10)); rintro e w3 ⟨rfl, g3⟩; have k3 := k2.trans g3; clear hrD) | (go_at_call 10; refine (hrU _ ?q9).mono ?_; (case q9 => (first | exact kd | exact k1 | exact k2 | exact k3 | exact k4 | exact k5 | exact k6 | exact k7 | exact k8 | exact k9 | exact k10)); rintro e w4 ⟨rfl, g4⟩; have k4 := k3.trans g4; clear hrU) | (go_at_call 9; refine (hbD _).mono ?_; rintro e w' ⟨rfl, hw'⟩; obtain rfl := hw'.symm; clear hw'; clear hbD) | (go_at_call 9; refine (hbU _).mono ?_; rintro e w' ⟨rfl, hw'⟩; obtain rfl := hw'.symm; clear hw'; clear hbU) | (go_at_call 9; refine (hcD _).mono ?_; rintro e w' ⟨rfl, hw'⟩; obtain rfl := hw'.symm; clear hw'; clear hcD) | (go_at_call 9; refine (hcU _).mono ?_; rintro e w' ⟨rfl, hw'⟩; obtain rfl := hw'.symm; clear hw'; clear hcU) | (go_at_call 42; refine (hab1 _ ?q9).mono ?_; (case q9 => (first | exact kd | exact k1 | exact k2 | exact k3 | exact k4 | exact k5 | exact k6 | exact k7 | exact k8 | exact k9 | exact k10)); rintro e w5 ⟨rfl, g5⟩; have k5 := k4.trans g5; clear hab1) | (go_at_call 36; refine (hI _).mono ?_; rintro e w6 ⟨s6, p6, l6, c6, q6, k6_, d6, rfl, X6, g6⟩; have k6 := k5.trans g6) | (go_at_call 43; refine (hrq _ _ _ _ _ _ _ _ _ ?q9 X6).mono ?_; (case q9 => (first | exact kd | exact k1 | exact k2 | exact k3 | exact k4 | exact k5 | exact k6 | exact k7 | exact k8 | exact k9 | exact k10)); rintro e w7 ⟨s7, p7, l7, c7, q7, k7_, d7, rfl, X7, g7⟩; have k7 := k6.trans g7) | (go_at_call 13; refine (hoD _ ?q9).mono ?_; (case q9 => (first | exact kd | exact k1 | exact k2 | exact k3 | exact k4 | exact k5 | exact k6 | exact k7 | exact k8 | exact k9 | exact k10)); rintro e w8 ⟨rfl, g8⟩; have k8 := k7.trans g8; have X8 := X7.kp g8; clear hoD) | (go_at_call 13; refine (hoU _ ?q9).mono ?_; (case q9 => (first | exact kd | exact k1 | exact k2 | exact k3 | exact k4 | exact k5 | exact k6 | exact k7 | exact k8 | exact k9 | exact k10)); rintro e w9 ⟨rfl, g9⟩; have k9 := k8.trans g9; have X9 := X8.kp g9; clear hoU) | (go_at_call 42; refine (hab2 _ _ _ _ _ _ _ _ _ X9).mono ?_; rintro e w10 ⟨rfl, g10⟩; have k10 := k9.trans g10) | (go_at_call 8; refine (hlv2 _ ?q9).mono ?_; (case q9 => (first | exact kd | exact k1 | exact k2 | exact k3 | exact k4 | exact k5 | exact k6 | exact k7 | exact k8 | exact k9 | exact k10)); rintro e w11 ⟨rfl, g11⟩; have k11 := k10.trans g11; clear hlv2))
      all_goals (
        go_wp2
        exact bodyPost_ret (v := .bool true) (by simp [results, Tryz.results6, go_sem]) rfl ⟨rfl, HW.out.trans k11⟩)
end Go.Proofs.YteedfmghgkmofaaGreatDoor
namespace Go.Proofs.YteedfmghgkmofaaGreatDoor
open Go.RowKit
set_option linter.unusedVariables false
set_option maxRecDepth 20000 in
set_option maxHeartbeats 8000000 in
theorem ttightBS_ (K : Nat) (hK : K = 1074) (p : Option Addr) (c : Nat) (L : List Tm) (hok : TmOk L) (h3 : ¬ 1000 < L.length) (z : Int) (hz1 : z < 1) (w : World) (ha : ArrT w p L) (hT : Tab w) (hQ : Fq.Tab w) : Calls Tryz.prog 6 #[.slice p L.length c, .int .i64 z] w fun e w' => e = .returned (.bool true) ∧ Kp w w' := by
  have hlv := lives_ w hT hQ
  obtain ⟨N, hN⟩ : ∃ N, N = L.length := ⟨_, rfl⟩
  rw [← hN] at h3 ⊢
  have j9 : ¬ ((1000 : Int) < (N : Int)) := by omega
  have j7 : z < 1 := by omega
  have HT : Hid (Tab w ∧ Fq.Tab w) := ⟨hT, hQ⟩
  have HN0 : Hid (N = L.length ∧ ArrT w p L ∧ TmOk L ∧ K = 1074 ∧ N ≤ N ∧ N ≤ 1000) := ⟨hN, ha, hok, hK, by omega, by omega⟩
  clear hN ha hok hK hT hQ h3
  go_enter Tryz.func6, Tryz.ntmps6
  go_wp2_with fail
  refine hlv.mono ?_
  rintro e wa ⟨rfl, ga⟩
  go_wp2_with fail
  refine (fnew_ K _).mono ?_
  rintro e wb ⟨rfl, F0, gb⟩
  have hk : Kp w wb := ga.trans gb
  have hz : w.heap.size ≤ wa.heap.size := ga.size
  clear ga gb hlv
  generalize wa.heap.size = bs at *
  go_wp2_with fail
  refine (int0X_ (K + K) _).mono ?_
  rintro e wc_ ⟨s1, p1, l1, c1, q1, k1, d1, rfl, hD0, gc⟩
  have hbs : bs < wb.heap.size := F0.lt
  have HS : Hid (Fs (wc_.alloc (.cells #[.bool s1, .slice p1 l1 c1, .slice q1 k1 d1] 43)) bs (tsV K (L.take 0)) 0 K ∧ Qs (wc_.alloc (.cells #[.bool s1, .slice p1 l1 c1, .slice q1 k1 d1] 43)) wc_.heap.size bs (tsV K (L.take 0)) (K + K) ∧ Kp w (wc_.alloc (.cells #[.bool s1, .slice p1 l1 c1, .slice q1 k1 d1] 43))) :=
    ⟨by simpa [tsV] using (F0.kp gc).kp ((Kp.refl _).alloc _), by simpa [tsV] using (show Qs (wc_.alloc (.cells #[.bool s1, .slice p1 l1 c1, .slice q1 k1 d1] 43)) wc_.heap.size bs 0 (K + K) from ⟨s1, p1, l1, c1, q1, k1, d1, H3c.new _ _ _ _ _, (hD0.mono (Nat.zero_le _)).kp ((Kp.refl _).alloc _), hD0.nbNew (Nat.le_refl _), hD0.nbLow hbs⟩), (hk.trans gc).alloc _⟩
  obtain ⟨hN, ha, hok, hK, hkN, hk3⟩ := HN0.out
  have HN : Hid (N = L.length ∧ ArrT w p L ∧ TmOk L ∧ w.heap.size ≤ bs ∧ N ≤ N ∧ N ≤ 1000 ∧ K = 1074 ∧ bs < wc_.heap.size) := ⟨hN, ha, hok, hz, hkN, hk3, hK, by have := gc.size; omega⟩
  clear HN0 hN ha hok hK hkN hk3 F0 hk hz hD0 gc hbs
  go_wp2_with fail
  generalize wc_.alloc (.cells #[.bool s1, .slice p1 l1 c1, .slice q1 k1 d1] 43) = wd at *
  generalize wc_.heap.size = bq at *
  go_loopw [8, 9, 10] (fun ii tt xx wr => ∃ i : Nat, ii = .int .i64 (i : Int) ∧ i ≤ N ∧ Fs wr bs (tsV K (L.take i)) i K ∧ Qs wr bq bs (tsV K (L.take i)) (K + K) ∧ Kp w wr) (fun i _ _ _ => N - (intOf i).toNat)
  case atStart => exact ⟨0, rfl, Nat.zero_le _, HS.out.1, HS.out.2.1, HS.out.2.2⟩
  case round =>
    obtain ⟨i, rfl, hi, hF, hQ1, hk⟩ := hrel
    clear HS
    obtain ⟨hN, ha, hok, hz, hkN, hk3, hK, hbq⟩ := HN.out
    by_cases ci : i < N
    · obtain ⟨oX, oY⟩ := hok i (by omega)
      have hts := tsV_take K L i (by omega)
      rcases ha with ha | ⟨bl, off, rfl, ha⟩
      · rw [ha] at hN; simp at hN; omega
      obtain ⟨e0, e1, e2⟩ := ha i (by omega)
      have e0 := kkeep hk e0
      have e1 := kkeep hk e1
      have e2 := kkeep hk e2
      obtain ⟨X, hX⟩ : ∃ X, X = (L.getD i (0, 0, false)).1 := ⟨_, rfl⟩
      obtain ⟨Y, hY⟩ : ∃ Y, Y = (L.getD i (0, 0, false)).2.1 := ⟨_, rfl⟩
      obtain ⟨pr, hpr⟩ : ∃ pr, pr = (L.getD i (0, 0, false)).2.2 := ⟨_, rfl⟩
      unfold tnV at hts
      rw [← hX] at e0 oX hts
      rw [← hY] at e1 oY hts
      rw [← hpr] at e2 hts
      have hnX := number4_ X oX
      have hnY := number4_ Y oY
      have j1 : (i : Int) < (N : Int) := by omega
      have j2 : i + 1 ≤ N := by omega
      have j3 : N - (i + 1) < N - i := by omega
      have j4 : i < N := by omega
      have j5 : (i : Int) < (N : Int) := by omega
      have j6 : i + 1 ≤ 1000 := by omega
      have e0 : wr.drew.cell? ⟨bl, off + i * 3, none⟩ = some (.int .u64 (X : Int)) := e0
      have e1 : wr.drew.cell? ⟨bl, off + i * 3 + 1, none⟩ = some (.int .u64 (Y : Int)) := e1
      have e2 : wr.drew.cell? ⟨bl, off + i * 3 + 2, none⟩ = some (.bool pr) := e2
      obtain ⟨n1, m1, hm1, hn1⟩ := Fq.exD (nmP X) (nmP_lt X oX)
      obtain ⟨n2, m2, hm2, hn2⟩ := Fq.exD (nmP Y) (nmP_lt Y oY)
      have f1 := nmP_fin X
      have f2 := nmP_fin Y
      have l1 := nmP_lt X oX
      have l2 := nmP_lt Y oY
      rw [hn1] at hts hnX f1 l1
      rw [hn2] at hts hnY f2 l2
      have g1 : m1 < 9218868437227405312 := by rw [(wD_parts n1 m1 hm1).1] at f1; exact f1
      have g2 : m2 < 9218868437227405312 := by rw [(wD_parts n2 m2 hm2).1] at f2; exact f2
      have HR : Hid (Fs wr bs (tsV K (L.take i)) i K ∧ Qs wr bq bs (tsV K (L.take i)) (K + K) ∧ Kp w wr ∧ w.heap.size ≤ bs ∧ bs < bq ∧ K = 1074 ∧ tsV K (L.take (i + 1)) = tsV K (L.take i) + tkV K (Fq.wD n1 m1) (Fq.wD n2 m2) pr ∧ Fq.wD n1 m1 < 18446744073709551616 ∧ Fq.wD n2 m2 < 18446744073709551616 ∧ m1 < 9218868437227405312 ∧ m2 < 9218868437227405312 ∧ Fq.wD n1 m1 % 9223372036854775808 < 9218868437227405312 ∧ Fq.wD n2 m2 % 9223372036854775808 < 9218868437227405312) := ⟨hF, hQ1, hk, hz, hbq, hK, hts, l1, l2, g1, g2, f1, f2⟩
      clear hN ha hok hz hkN hK hi hts hX hY hpr hF hQ1 ci hk hm1 hm2 hn1 hn2 f1 f2 g1 g2 l1 l2 oX oY hbq
      obtain ⟨WX, hWX⟩ : ∃ WX : Int, WX = ((Fq.wD n1 m1 : Nat) : Int) := ⟨_, rfl⟩
      obtain ⟨WY, hWY⟩ : ∃ WY : Int, WY = ((Fq.wD n2 m2 : Nat) : Int) := ⟨_, rfl⟩
      rw [← hWX] at hnX
      rw [← hWY] at hnY
      have HW : Hid (WX = ((Fq.wD n1 m1 : Nat) : Int) ∧ WY = ((Fq.wD n2 m2 : Nat) : Int)) := ⟨hWX, hWY⟩
      clear hWX hWY
      go_upto_region 11 with fail
      go_region_held3 (fun w' => w'.cell? ⟨bl, off + i * 3, none⟩ = some (.int .u64 (X : Int)) ∧ w'.cell? ⟨bl, off + i * 3 + 1, none⟩ = some (.int .u64 (Y : Int)) ∧ w'.cell? ⟨bl, off + i * 3 + 2, none⟩ = some (.bool pr)) (first | (with_reducible exact ⟨e0, e1, e2⟩) | go_keep) (first | (go_at_call_of 37 (Value.int IntKind.u64 (X : Int)); refine (hnX _).mono ?_; rintro e w' ⟨rfl, hw'⟩; obtain rfl := hw'.symm; clear hw') | (go_at_call_of 37 (Value.int IntKind.u64 (Y : Int)); refine (hnY _).mono ?_; rintro e w' ⟨rfl, hw'⟩; obtain rfl := hw'.symm; clear hw'))
      all_goals (
        cases pr
        · obtain ⟨hF, hQ1, hk, hz, hbq, hK, hts, l1_, l2_, g1, g2, f1, f2⟩ := HR.out
          have t0 : (wr.alloc (.cells #[.int .u64 WX, .int .u64 WY, .bool false] 68)).drew.cell? ⟨wr.heap.size, 0, none⟩ = some (.int .u64 WX) := by simp [go_sem]
          have t1 : (wr.alloc (.cells #[.int .u64 WX, .int .u64 WY, .bool false] 68)).drew.cell? ⟨wr.heap.size, 1, none⟩ = some (.int .u64 WY) := by simp [go_sem]
          have t2 : (wr.alloc (.cells #[.int .u64 WX, .int .u64 WY, .bool false] 68)).drew.cell? ⟨wr.heap.size, 2, none⟩ = some (.bool false) := by simp [go_sem]
          have gA : Kp wr (wr.alloc (.cells #[.int .u64 WX, .int .u64 WY, .bool false] 68)).drew := ((Kp.refl wr).alloc _).drew
          have hbt : bs < wr.heap.size := hF.lt
          generalize (wr.alloc (.cells #[.int .u64 WX, .int .u64 WY, .bool false] 68)).drew = W1 at *
          generalize wr.heap.size = bt at *
          replace hF := hF.kp gA
          replace hQ1 := hQ1.kp gA
          replace hk := hk.trans gA
          have htk := ftake4_ (Fq.wD n1 m1) (Fq.wD n2 m2) false K hK l1_ l2_ f1 f2 bs _ i (by omega) W1 hF
          rw [← hts, ← HW.out.1, ← HW.out.2] at htk
          have HP : Hid (Qs W1 bq bs (tsV K (L.take i)) (K + K) ∧ Kp w W1 ∧ bs < bt ∧ (tsV K (L.take i)).natAbs < 2 ^ (K + K + 2058)) := ⟨hQ1, hk, hbt, fs_b hF hK (by omega)⟩
          clear hF hQ1 hk hz hbq hK hts l1_ l2_ g1 g2 f1 f2 gA hbt
          go_wp2_with fail
          refine htk.mono ?_
          rintro e W2 ⟨⟨v2, rfl⟩, hF, kb⟩
          obtain ⟨hQ1, hk, hbt, hVb⟩ := HP.out
          obtain ⟨-, -, -, hz, hbq, hK, hts, l1_, l2_, g1, g2, f1, f2⟩ := HR.out
          replace hQ1 := hQ1.kb kb (by omega)
          replace hk := kb.kp hk hz
          replace t0 := kb.arr (show bt ≠ bs by omega) t0
          replace t1 := kb.arr (show bt ≠ bs by omega) t1
          replace t2 := kb.arr (show bt ≠ bs by omega) t2
          have hfx := dyfrom_ n1 m1 K hK g1 W2
          rw [← HW.out.1] at hfx
          clear HP htk kb
          have HP : Hid (Fs W2 bs (tsV K (L.take (i + 1))) (i + 1) K ∧ Qs W2 bq bs (tsV K (L.take i)) (K + K) ∧ Kp w W2 ∧ (tsV K (L.take i)).natAbs < 2 ^ (K + K + 2058)) := ⟨hF, hQ1, hk, hVb⟩
          clear hF hQ1 hk hbt hVb hz hbq hK hts l1_ l2_ g1 g2 f1 f2
          go_wp2_with fail
          refine hfx.mono ?_
          rintro e W3 ⟨s3, p3, l3, c3, q3, k3_, d3, rfl, D3, g3⟩
          obtain ⟨hF, hQ1, hk, hVb⟩ := HP.out
          obtain ⟨s5, p5, l5, c5, q5, k5_, d5, hq, hDq, hnb1, hnb2⟩ := hQ1
          replace hF := hF.kp g3
          replace hq := hq.keep g3
          replace hDq := hDq.kp g3
          replace hk := hk.trans g3
          replace t0 := kkeep g3 t0
          replace t1 := kkeep g3 t1
          replace t2 := kkeep g3 t2
          have hx := H3c.new W3 (.bool s3) (.slice p3 l3 c3) (.slice q3 k3_ d3) 43
          have gB : Kp W3 (W3.alloc (.cells #[.bool s3, .slice p3 l3 c3, .slice q3 k3_ d3] 43)) := (Kp.refl W3).alloc _
          have hnb := hDq.nbNew (Nat.le_refl _)
          have hbx : bq < W3.heap.size := hq.lt
          have hbtx : bt < W3.heap.size := cell_lt t0
          clear g3 hfx HP
          go_upto_region 14 with fail
          generalize W3.alloc (.cells #[.bool s3, .slice p3 l3 c3, .slice q3 k3_ d3] 43) = W4 at *
          have D3 := D3.mono (Nat.zero_le _)
          replace hF := hF.kp gB
          replace hq := hq.keep gB
          replace hDq := hDq.kp gB
          replace D3 := D3.kp gB
          replace hk := hk.trans gB
          replace t0 := kkeep gB t0
          replace t1 := kkeep gB t1
          replace t2 := kkeep gB t2
          generalize W3.heap.size = bx at *
          clear gB hnb1 hnb2
          obtain ⟨-, -, -, hz, hbq, hK, hts, l1_, l2_, g1, g2, f1, f2⟩ := HR.out
          have hXb := tk_b K hK (Fq.wD n1 m1) (Fq.wD n2 m2) false
          have hxv : tkV K (Fq.wD n1 m1) (Fq.wD n2 m2) false = Iv n1 m1 * ((2 ^ K : Nat) : Int) := by
            unfold tkV; simp only [Bool.false_eq_true, if_false]; rw [xV_fin n1 m1 K g1]; rfl
          have hDx : Dy 0 W4 s3 p3 l3 c3 q3 k3_ d3 (Iv n1 m1 * ((2 ^ K : Nat) : Int)) (K + K) := D3.up K
          rw [hxv] at hts hXb
          generalize Iv n1 m1 * ((2 ^ K : Nat) : Int) = XV at *
          have hVV := hts
          clear hz hbq hK hts l1_ l2_ g1 g2 f1 f2 hxv D3 hbx
          obtain ⟨u0, u1, u2, u3, u4, u5⟩ := id hq
          obtain ⟨y0, y1, y2, y3, y4, y5⟩ := id hx
          have hra := dyadd_ s5 p5 l5 c5 q5 k5_ d5 s3 p3 l3 c3 q3 k3_ d3 (tsV K (L.take i)) _ (K + K) (K + K + 2058) (by have := HR.out.2.2.2.2.2.1; omega) (by have := HR.out.2.2.2.2.2.1; omega) hVb hXb 0 0 W4 hDq hDx
          have HY : Hid (H3c W4 bq (.bool s5) (.slice p5 l5 c5) (.slice q5 k5_ d5) ∧ Fs W4 bs (tsV K (L.take (i + 1))) (i + 1) K ∧ Kp w W4 ∧ w.heap.size ≤ bs ∧ bs < bq ∧ tsV K (L.take (i + 1)) = tsV K (L.take i) + XV) := ⟨hq, hF, hk, HR.out.2.2.2.1, HR.out.2.2.2.2.1, hVV⟩
          clear hq hx hF hk hDq hDx hVb hXb hVV hnb HR
          go_wp2_with fail
          refine hra.mono ?_
          rintro e W8 ⟨s8, p8, l8, c8, q8, k8_, d8, rfl, D8, g8⟩
          obtain ⟨hq, hF, hk, hz, hbq, hVV⟩ := HY.out
          have hql : bq < W4.heap.size := hq.lt
          replace hq := hq.keep g8
          have kbs : Kb bq W8 (((W8.setCell ⟨bq, 0, none⟩ (.bool s8)).setCell ⟨bq, 1, none⟩ (.slice p8 l8 c8)).setCell ⟨bq, 2, none⟩ (.slice q8 k8_ d8)) := ((((Kb.refl bq W8).setCell 0 _).setCell 1 _).setCell 2 _)
          have HZ : Hid (Fs (((W8.setCell ⟨bq, 0, none⟩ (.bool s8)).setCell ⟨bq, 1, none⟩ (.slice p8 l8 c8)).setCell ⟨bq, 2, none⟩ (.slice q8 k8_ d8)) bs (tsV K (L.take (i + 1))) (i + 1) K ∧ Qs (((W8.setCell ⟨bq, 0, none⟩ (.bool s8)).setCell ⟨bq, 1, none⟩ (.slice p8 l8 c8)).setCell ⟨bq, 2, none⟩ (.slice q8 k8_ d8)) bq bs (tsV K (L.take (i + 1))) (K + K) ∧ Kp w (((W8.setCell ⟨bq, 0, none⟩ (.bool s8)).setCell ⟨bq, 1, none⟩ (.slice p8 l8 c8)).setCell ⟨bq, 2, none⟩ (.slice q8 k8_ d8))) :=
            ⟨(hF.kp g8).kb kbs (by omega), ⟨s8, p8, l8, c8, q8, k8_, d8, hq.put _ _ _, by rw [hVV]; exact (D8.mono (Nat.zero_le _)).kb kbs (D8.nbLow hql), D8.nbLow hql, D8.nbLow (by omega)⟩, kbs.kp (hk.trans g8) (by omega)⟩
          obtain ⟨v0, v1, v2, v3, v4, v5⟩ := hq
          clear hF hk hz hbq hVV hql kbs HY hra g8 D8
          go_wp2
          exact ⟨⟨i + 1, by go_num, j2, HZ.out.1, HZ.out.2.1, HZ.out.2.2⟩, (show N - (i + 1) < N - i from j3)⟩
        · obtain ⟨hF, hQ1, hk, hz, hbq, hK, hts, l1_, l2_, g1, g2, f1, f2⟩ := HR.out
          have t0 : (wr.alloc (.cells #[.int .u64 WX, .int .u64 WY, .bool true] 68)).drew.cell? ⟨wr.heap.size, 0, none⟩ = some (.int .u64 WX) := by simp [go_sem]
          have t1 : (wr.alloc (.cells #[.int .u64 WX, .int .u64 WY, .bool true] 68)).drew.cell? ⟨wr.heap.size, 1, none⟩ = some (.int .u64 WY) := by simp [go_sem]
          have t2 : (wr.alloc (.cells #[.int .u64 WX, .int .u64 WY, .bool true] 68)).drew.cell? ⟨wr.heap.size, 2, none⟩ = some (.bool true) := by simp [go_sem]
          have gA : Kp wr (wr.alloc (.cells #[.int .u64 WX, .int .u64 WY, .bool true] 68)).drew := ((Kp.refl wr).alloc _).drew
          have hbt : bs < wr.heap.size := hF.lt
          generalize (wr.alloc (.cells #[.int .u64 WX, .int .u64 WY, .bool true] 68)).drew = W1 at *
          generalize wr.heap.size = bt at *
          replace hF := hF.kp gA
          replace hQ1 := hQ1.kp gA
          replace hk := hk.trans gA
          have htk := ftake4_ (Fq.wD n1 m1) (Fq.wD n2 m2) true K hK l1_ l2_ f1 f2 bs _ i (by omega) W1 hF
          rw [← hts, ← HW.out.1, ← HW.out.2] at htk
          have HP : Hid (Qs W1 bq bs (tsV K (L.take i)) (K + K) ∧ Kp w W1 ∧ bs < bt ∧ (tsV K (L.take i)).natAbs < 2 ^ (K + K + 2058)) := ⟨hQ1, hk, hbt, fs_b hF hK (by omega)⟩
          clear hF hQ1 hk hz hbq hK hts l1_ l2_ g1 g2 f1 f2 gA hbt
          go_wp2_with fail
          refine htk.mono ?_
          rintro e W2 ⟨⟨v2, rfl⟩, hF, kb⟩
          obtain ⟨hQ1, hk, hbt, hVb⟩ := HP.out
          obtain ⟨-, -, -, hz, hbq, hK, hts, l1_, l2_, g1, g2, f1, f2⟩ := HR.out
          replace hQ1 := hQ1.kb kb (by omega)
          replace hk := kb.kp hk hz
          replace t0 := kb.arr (show bt ≠ bs by omega) t0
          replace t1 := kb.arr (show bt ≠ bs by omega) t1
          replace t2 := kb.arr (show bt ≠ bs by omega) t2
          have hfx := dyfrom_ n1 m1 K hK g1 W2
          rw [← HW.out.1] at hfx
          clear HP htk kb
          have HP : Hid (Fs W2 bs (tsV K (L.take (i + 1))) (i + 1) K ∧ Qs W2 bq bs (tsV K (L.take i)) (K + K) ∧ Kp w W2 ∧ (tsV K (L.take i)).natAbs < 2 ^ (K + K + 2058)) := ⟨hF, hQ1, hk, hVb⟩
          clear hF hQ1 hk hbt hVb hz hbq hK hts l1_ l2_ g1 g2 f1 f2
          go_wp2_with fail
          refine hfx.mono ?_
          rintro e W3 ⟨s3, p3, l3, c3, q3, k3_, d3, rfl, D3, g3⟩
          obtain ⟨hF, hQ1, hk, hVb⟩ := HP.out
          obtain ⟨s5, p5, l5, c5, q5, k5_, d5, hq, hDq, hnb1, hnb2⟩ := hQ1
          replace hF := hF.kp g3
          replace hq := hq.keep g3
          replace hDq := hDq.kp g3
          replace hk := hk.trans g3
          replace t0 := kkeep g3 t0
          replace t1 := kkeep g3 t1
          replace t2 := kkeep g3 t2
          have hx := H3c.new W3 (.bool s3) (.slice p3 l3 c3) (.slice q3 k3_ d3) 43
          have gB : Kp W3 (W3.alloc (.cells #[.bool s3, .slice p3 l3 c3, .slice q3 k3_ d3] 43)) := (Kp.refl W3).alloc _
          have hnb := hDq.nbNew (Nat.le_refl _)
          have hbx : bq < W3.heap.size := hq.lt
          have hbtx : bt < W3.heap.size := cell_lt t0
          clear g3 hfx HP
          go_upto_region 14 with fail
          generalize W3.alloc (.cells #[.bool s3, .slice p3 l3 c3, .slice q3 k3_ d3] 43) = W4 at *
          have D3 := D3.mono (Nat.zero_le _)
          replace hF := hF.kp gB
          replace hq := hq.keep gB
          replace hDq := hDq.kp gB
          replace D3 := D3.kp gB
          replace hk := hk.trans gB
          replace t0 := kkeep gB t0
          replace t1 := kkeep gB t1
          replace t2 := kkeep gB t2
          generalize W3.heap.size = bx at *
          clear gB hnb1 hnb2
          obtain ⟨-, -, -, hz, hbq, hK, hts, l1_, l2_, g1, g2, f1, f2⟩ := HR.out
          have hXb := tk_b K hK (Fq.wD n1 m1) (Fq.wD n2 m2) true
          have hxv : tkV K (Fq.wD n1 m1) (Fq.wD n2 m2) true = Iv n1 m1 * Iv n2 m2 := by
            unfold tkV; simp only [if_true]; exact yV_fin n1 n2 m1 m2 g1 g2
          have hi1 := iv_lt n1 m1 K hK g1
          have hi2 := iv_lt n2 m2 K hK g2
          have hfy := dyfrom_ n2 m2 K hK g2 W4.drew
          rw [← HW.out.2] at hfy
          have hrm := fun (W : World) (s9 : Bool) (p9 : Option Addr) (l9 c9 : Nat) (q9 : Option Addr) (k9_ d9 b : Nat) (g : Kp W4.drew W) (h : Dy b W s9 p9 l9 c9 q9 k9_ d9 (Iv n2 m2) K) => dymul_ s3 p3 l3 c3 q3 k3_ d3 s9 p9 l9 c9 q9 k9_ d9 (Iv n1 m1) (Iv n2 m2) K (K + 1024) (by omega) (by omega) hi1 hi2 0 b W (D3.kp ((Kp.refl W4).drew.trans g)) h
          rw [hxv] at hts hXb
          generalize Iv n1 m1 * Iv n2 m2 = XV at *
          have HP : Hid (Fs W4 bs (tsV K (L.take (i + 1))) (i + 1) K ∧ H3c W4 bq (.bool s5) (.slice p5 l5 c5) (.slice q5 k5_ d5) ∧ Dy 0 W4 s5 p5 l5 c5 q5 k5_ d5 (tsV K (L.take i)) (K + K) ∧ NB p5 q5 bx ∧ Kp w W4 ∧ (tsV K (L.take i)).natAbs < 2 ^ (K + K + 2058) ∧ XV.natAbs < 2 ^ (K + K + 2058) ∧ tsV K (L.take (i + 1)) = tsV K (L.take i) + XV ∧ H3c W4 bx (.bool s3) (.slice p3 l3 c3) (.slice q3 k3_ d3) ∧ bq < bx) := ⟨hF, hq, hDq, hnb, hk, hVb, hXb, hts, hx, hbx⟩
          obtain ⟨y0, y1, y2, y3, y4, y5⟩ := hx
          clear hF hq hDq hnb hk hVb hXb hts hz hbq hK l1_ l2_ g1 g2 f1 f2 hxv D3 hbx hi1 hi2
          go_upto_region 15 with fail
          have y0 : W4.drew.cell? ⟨bx, 0, none⟩ = some (.bool s3) := y0
          have y1 : W4.drew.cell? ⟨bx, 1, none⟩ = some (.slice p3 l3 c3) := y1
          have y2 : W4.drew.cell? ⟨bx, 2, none⟩ = some (.slice q3 k3_ d3) := y2
          have t1 : W4.drew.cell? ⟨bt, 1, none⟩ = some (.int .u64 WY) := t1
          go_region_with (first | (go_at_call 38; refine hfy.mono ?_; rintro e W5 ⟨s9, p9, l9, c9, q9, k9_, d9, rfl, D9, k9⟩; have x0 := kkeep k9 y0; have x1 := kkeep k9 y1; have x2 := kkeep k9 y2) | (go_at_call 39; refine (hrm _ _ _ _ _ _ _ _ _ k9 D9).mono ?_; rintro e W6 ⟨s6, p6, l6, c6, q6, k6_, d6, rfl, D6, g6⟩; have k6 := k9.trans g6; have HX := H3c.keep HP.out.2.2.2.2.2.2.2.2.1 ((Kp.refl W4).drew.trans k6); obtain ⟨z0, z1, z2, z3, z4, z5⟩ := id HX))
          all_goals (
            obtain ⟨hF, hq, hDq, hnb, hk, hVb, hXb, hVV, -, hbx⟩ := HP.out
            have g4 := (Kp.refl W4).drew.trans k6
            have hbl : bx < W5.heap.size := cell_lt (kkeep k9 y0)
            have hz := HR.out.2.2.2.1
            have hbq := HR.out.2.2.2.2.1
            have kbs : Kb bx W6 (((W6.setCell ⟨bx, 0, none⟩ (.bool s6)).setCell ⟨bx, 1, none⟩ (.slice p6 l6 c6)).setCell ⟨bx, 2, none⟩ (.slice q6 k6_ d6)) := ((((Kb.refl bx W6).setCell 0 _).setCell 1 _).setCell 2 _)
            replace hF := (hF.kp g4).kb kbs (by omega)
            replace hq := (hq.keep g4).kb kbs (by omega)
            replace hDq := (hDq.kp g4).kb kbs hnb
            replace hk := kbs.kp (hk.trans g4) (by omega)
            have hx := HX.put (.bool s6) (.slice p6 l6 c6) (.slice q6 k6_ d6)
            have hDx := (D6.mono (Nat.zero_le _)).kb kbs (D6.nbLow hbl)
            clear z0 z1 z2 z3 z4 z5 HX g4 hbl hz hbq kbs y0 y1 y2 y3 y4 y5 k6 k9 g6 D6 D9 HP hrm hfy
            generalize (((W6.setCell ⟨bx, 0, none⟩ (.bool s6)).setCell ⟨bx, 1, none⟩ (.slice p6 l6 c6)).setCell ⟨bx, 2, none⟩ (.slice q6 k6_ d6)) = W7 at *
            obtain ⟨u0, u1, u2, u3, u4, u5⟩ := id hq
            obtain ⟨y0, y1, y2, y3, y4, y5⟩ := id hx
            have hra := dyadd_ s5 p5 l5 c5 q5 k5_ d5 s6 p6 l6 c6 q6 k6_ d6 (tsV K (L.take i)) _ (K + K) (K + K + 2058) (by have := HR.out.2.2.2.2.2.1; omega) (by have := HR.out.2.2.2.2.2.1; omega) hVb hXb 0 0 W7 hDq hDx
            have HY : Hid (H3c W7 bq (.bool s5) (.slice p5 l5 c5) (.slice q5 k5_ d5) ∧ Fs W7 bs (tsV K (L.take (i + 1))) (i + 1) K ∧ Kp w W7 ∧ w.heap.size ≤ bs ∧ bs < bq ∧ tsV K (L.take (i + 1)) = tsV K (L.take i) + XV) := ⟨hq, hF, hk, HR.out.2.2.2.1, HR.out.2.2.2.2.1, hVV⟩
            clear hq hx hF hk hDq hDx hVb hXb hVV hnb HR
            go_wp2_with fail
            refine hra.mono ?_
            rintro e W8 ⟨s8, p8, l8, c8, q8, k8_, d8, rfl, D8, g8⟩
            obtain ⟨hq, hF, hk, hz, hbq, hVV⟩ := HY.out
            have hql : bq < W7.heap.size := hq.lt
            replace hq := hq.keep g8
            have kbs : Kb bq W8 (((W8.setCell ⟨bq, 0, none⟩ (.bool s8)).setCell ⟨bq, 1, none⟩ (.slice p8 l8 c8)).setCell ⟨bq, 2, none⟩ (.slice q8 k8_ d8)) := ((((Kb.refl bq W8).setCell 0 _).setCell 1 _).setCell 2 _)
            have HZ : Hid (Fs (((W8.setCell ⟨bq, 0, none⟩ (.bool s8)).setCell ⟨bq, 1, none⟩ (.slice p8 l8 c8)).setCell ⟨bq, 2, none⟩ (.slice q8 k8_ d8)) bs (tsV K (L.take (i + 1))) (i + 1) K ∧ Qs (((W8.setCell ⟨bq, 0, none⟩ (.bool s8)).setCell ⟨bq, 1, none⟩ (.slice p8 l8 c8)).setCell ⟨bq, 2, none⟩ (.slice q8 k8_ d8)) bq bs (tsV K (L.take (i + 1))) (K + K) ∧ Kp w (((W8.setCell ⟨bq, 0, none⟩ (.bool s8)).setCell ⟨bq, 1, none⟩ (.slice p8 l8 c8)).setCell ⟨bq, 2, none⟩ (.slice q8 k8_ d8))) :=
              ⟨(hF.kp g8).kb kbs (by omega), ⟨s8, p8, l8, c8, q8, k8_, d8, hq.put _ _ _, by rw [hVV]; exact (D8.mono (Nat.zero_le _)).kb kbs (D8.nbLow hql), D8.nbLow hql, D8.nbLow (by omega)⟩, kbs.kp (hk.trans g8) (by omega)⟩
            obtain ⟨v0, v1, v2, v3, v4, v5⟩ := hq
            clear hF hk hz hbq hVV hql kbs HY hra g8 D8
            go_wp2
            exact ⟨⟨i + 1, by go_num, j2, HZ.out.1, HZ.out.2.1, HZ.out.2.2⟩, (show N - (i + 1) < N - i from j3)⟩))
    · have hik : i = N := by omega
      have t1 : ¬ ((i : Int) < (N : Int)) := by omega
      rw [hik] at hF hQ1
      obtain ⟨hT, hQ⟩ := HT.out
      obtain ⟨s5, p5, l5, c5, q5, k5_, d5, h3, hDq, -, -⟩ := hQ1
      have hVb := fs_b hF hK hk3
      clear hN ha hok hz hkN hbq hi ci hik
      generalize tsV K (L.take N) = V at *
      have hX := hDq.xp (K + K + 2058) hVb (by omega)
      have hpw : 2 ^ (K + K) = 2 ^ K * 2 ^ K := Nat.pow_add ..
      have hp1 := Nat.two_pow_pos K
      have hp2 : 0 < 7 * 2 ^ K := Nat.mul_pos (by omega) hp1
      have kr : Kp wr wr.drew := (Kp.refl wr).drew
      have kd : Kp wr.drew wr.drew := Kp.refl _
      have kwr : Kp w wr.drew := hk.drew
      have hA1 := ab_g (2 ^ K) hp1 V
      have hA2 := ab_g (7 * 2 ^ K) hp2 V
      have hsg := fun (W : World) (g : Kp wr.drew W) => fsign_ K hK bs V N W (hF.kp (kr.trans g))
      have hrs := fun (W : World) (g : Kp wr.drew W) => dysign_ s5 p5 l5 c5 q5 k5_ d5 V (K + K) (K + K + 2058) (by omega) hVb 0 W (hDq.kp (kr.trans g))
      have hrD := fun (W : World) (g : Kp wr.drew W) => fround_ (-1) (by decide) (by decide) K hK bs V N W (hF.kp (kr.trans g)) (hT.grown (kwr.trans g)) (Fq.Tab.grown hQ (kwr.trans g))
      have hrU := fun (W : World) (g : Kp wr.drew W) => fround_ 1 (by decide) (by decide) K hK bs V N W (hF.kp (kr.trans g)) (hT.grown (kwr.trans g)) (Fq.Tab.grown hQ (kwr.trans g))
      rw [fmaW_g K hK (-1) V] at hrD
      rw [fmaW_g K hK 1 V] at hrU
      have hoD := fun (W : World) (g : Kp wr.drew W) => fover_ (-1) (by decide) (by decide) 7 (by decide) (by decide) K hK bs V N W (hF.kp (kr.trans g)) (Fq.Tab.grown hQ (kwr.trans g))
      have hoU := fun (W : World) (g : Kp wr.drew W) => fover_ 1 (by decide) (by decide) 7 (by decide) (by decide) K hK bs V N W (hF.kp (kr.trans g)) (Fq.Tab.grown hQ (kwr.trans g))
      have hl := len_b V.natAbs 16384 (K + K + 2058) hVb (by omega)
      have hl2 := len_b 7 16384 64 (by omega) (by decide)
      rw [ratW_g K hK (-1) V 7 (by decide) hl hl2] at hoD
      rw [ratW_g K hK 1 V 7 (by decide) hl hl2] at hoU
      generalize g53 (-1) 1 (2 ^ K) V = L1 at *
      generalize g53 1 1 (2 ^ K) V = H1 at *
      generalize g53 (-1) 1 (7 * 2 ^ K) V = L2 at *
      generalize g53 1 1 (7 * 2 ^ K) V = H2 at *
      have hbD := fun (W : World) => bits4_ (pz L1) (self_pz L1 (by rcases hA1 with h | h <;> omega)) W
      have hbU := fun (W : World) => bits4_ (pz H1) (self_pz H1 (by rcases hA1 with h | h <;> omega)) W
      have hcD := fun (W : World) => bits4_ (pz L2) (self_pz L2 (by rcases hA2 with h | h <;> omega)) W
      have hcU := fun (W : World) => bits4_ (pz H2) (self_pz H2 (by rcases hA2 with h | h <;> omega)) W
      have hX2 : XP 0 wr s5 p5 l5 c5 q5 k5_ d5 V (2 ^ K * 2 ^ K) (K + K + 2058) := by rw [← hpw]; exact hX
      have hab1 := fun (W : World) (g : Kp wr.drew W) => about4_ K hK V (2 ^ K) (K + K + 2058) hp1 (by omega) L1 H1 hA1 s5 p5 l5 c5 q5 k5_ d5 0 W (hX2.kp (kr.trans g))
      have hI : ∀ W : World, Calls Tryz.prog 36 #[.int .i64 7] W fun e w' => ∃ (s6 : Bool) (p6 : Option Addr) (l6 c6 : Nat) (q6 : Option Addr) (k6_ d6 : Nat), e = .returned (.agg #[.bool s6, .slice p6 l6 c6, .slice q6 k6_ d6]) ∧ XP W.heap.size w' s6 p6 l6 c6 q6 k6_ d6 ((7 : Nat) : Int) 1 100 ∧ Kp W w' := fun W => intN_ 7 (by decide) (by decide) W
      have hrq : ∀ (W : World) (s6 : Bool) (p6 : Option Addr) (l6 c6 : Nat) (q6 : Option Addr) (k6_ d6 : Nat) (b : Nat), Kp wr.drew W → XP b W s6 p6 l6 c6 q6 k6_ d6 ((7 : Nat) : Int) 1 100 → Calls Tryz.prog 43 #[.agg #[.bool s5, .slice p5 l5 c5, .slice q5 k5_ d5], .agg #[.bool s6, .slice p6 l6 c6, .slice q6 k6_ d6]] W fun e w' => ∃ (s7 : Bool) (p7 : Option Addr) (l7 c7 : Nat) (q7 : Option Addr) (k7_ d7 : Nat), e = .returned (.agg #[.bool s7, .slice p7 l7 c7, .slice q7 k7_ d7]) ∧ XP W.heap.size w' s7 p7 l7 c7 q7 k7_ d7 V (7 * 2 ^ K * 2 ^ K) (2 * (K + K + 2058 + 100) + 3) ∧ Kp W w' := fun W s6 p6 l6 c6 q6 k6_ d6 b g h => by
        have h9 := xquo_ V 7 false (by omega) (2 ^ (K + K)) 1 (K + K + 2058) 100 (by omega) s5 p5 l5 c5 q5 k5_ d5 s6 p6 l6 c6 q6 k6_ d6 0 b W (hX.kp (kr.trans g)) (by have e : rvI false 7 = ((7 : Nat) : Int) := rfl; rw [e]; exact h)
        have e1 : rvI false 1 * V * ((1 : Nat) : Int) = V := by show 1 * V * 1 = V; omega
        have e2 : 2 ^ (K + K) * 7 = 7 * 2 ^ K * 2 ^ K := by rw [hpw, Nat.mul_comm, Nat.mul_assoc]
        rw [e1, e2] at h9
        exact h9
      have hab2 := fun (W : World) (s7 : Bool) (p7 : Option Addr) (l7 c7 : Nat) (q7 : Option Addr) (k7_ d7 : Nat) (b : Nat) (h : XP b W s7 p7 l7 c7 q7 k7_ d7 V (7 * 2 ^ K * 2 ^ K) (2 * (K + K + 2058 + 100) + 3)) => about4_ K hK V (7 * 2 ^ K) (2 * (K + K + 2058 + 100) + 3) hp2 (by omega) L2 H2 hA2 s7 p7 l7 c7 q7 k7_ d7 b W h
      have hlv2 := fun (W : World) (g : Kp wr.drew W) => lives_ W (hT.grown (kwr.trans g)) (Fq.Tab.grown hQ (kwr.trans g))
      obtain ⟨y0, y1, y2, -, -, -⟩ := h3
      have y0 : wr.drew.cell? ⟨bq, 0, none⟩ = some (.bool s5) := y0
      have y1 : wr.drew.cell? ⟨bq, 1, none⟩ = some (.slice p5 l5 c5) := y1
      have y2 : wr.drew.cell? ⟨bq, 2, none⟩ = some (.slice q5 k5_ d5) := y2
      have HW : Hid (Kp w wr.drew) := kwr
      generalize pz L1 = R1 at *
      generalize pz H1 = R2 at *
      generalize pz L2 = R3 at *
      generalize pz H2 = R4 at *
      generalize sgV V = SG at *
      clear hF hk hK hk3 hDq hVb hX hX2 hpw hp1 hp2 kr kwr hA1 hA2 hl hl2 HN HT hT hQ
      go_upto_region 19 with fail
      go_region_held3 (fun w' => w'.cell? ⟨bq, 0, none⟩ = some (.bool s5) ∧ w'.cell? ⟨bq, 1, none⟩ = some (.slice p5 l5 c5) ∧ w'.cell? ⟨bq, 2, none⟩ = some (.slice q5 k5_ d5)) (first | (with_reducible exact ⟨y0, y1, y2⟩) | (exact ⟨kkeep k1 y0, kkeep k1 y1, kkeep k1 y2⟩) | (exact ⟨kkeep k2 y0, kkeep k2 y1, kkeep k2 y2⟩) | (exact ⟨kkeep k3 y0, kkeep k3 y1, kkeep k3 y2⟩) | (exact ⟨kkeep k4 y0, kkeep k4 y1, kkeep k4 y2⟩) | (exact ⟨kkeep k5 y0, kkeep k5 y1, kkeep k5 y2⟩) | (exact ⟨kkeep k6 y0, kkeep k6 y1, kkeep k6 y2⟩) | (exact ⟨kkeep k7 y0, kkeep k7 y1, kkeep k7 y2⟩) | (exact ⟨kkeep k8 y0, kkeep k8 y1, kkeep k8 y2⟩) | (exact ⟨kkeep k9 y0, kkeep k9 y1, kkeep k9 y2⟩) | (exact ⟨kkeep k10 y0, kkeep k10 y1, kkeep k10 y2⟩) | (exact ⟨kkeep k11 y0, kkeep k11 y1, kkeep k11 y2⟩)) (first | (go_at_call 11; refine (hsg _ ?q9).mono ?_; (case q9 => (first | exact kd | exact k1 | exact k2 | exact k3 | exact k4 | exact k5 | exact k6 | exact k7 | exact k8 | exact k9 | exact k10)); rintro e w1 ⟨rfl, g1⟩; have k1 := kd.trans g1; clear hsg) | (go_at_call 41; refine (hrs _ ?q9).mono ?_; (case q9 => (first | exact kd | exact k1 | exact k2 | exact k3 | exact k4 | exact k5 | exact k6 | exact k7 | exact k8 | exact k9 | exact k10)); rintro e w2 ⟨rfl, g2⟩; have k2 := k1.trans g2; clear hrs) | (go_at_call 10; refine (hrD _ ?q9).mono ?_; (case q9 => (first | exact kd | exact k1 | exact k2 | exact k3 | exact k4 | exact k5 | exact k6 | exact k7 | exact k8 | exact k9 | exact k10)); rintro e w3 ⟨rfl, g3⟩; have k3 := k2.trans g3; clear hrD) | (go_at_call 10; refine (hrU _ ?q9).mono ?_; (case q9 => (first | exact kd | exact k1 | exact k2 | exact k3 | exact k4 | exact k5 | exact k6 | exact k7 | exact k8 | exact k9 | exact k10)); rintro e w4 ⟨rfl, g4⟩; have k4 := k3.trans g4; clear hrU) | (go_at_call 9; refine (hbD _).mono ?_; rintro e w' ⟨rfl, hw'⟩; obtain rfl := hw'.symm; clear hw'; clear hbD) | (go_at_call 9; refine (hbU _).mono ?_; rintro e w' ⟨rfl, hw'⟩; obtain rfl := hw'.symm; clear hw'; clear hbU) | (go_at_call 9; refine (hcD _).mono ?_; rintro e w' ⟨rfl, hw'⟩; obtain rfl := hw'.symm; clear hw'; clear hcD) | (go_at_call 9; refine (hcU _).mono ?_; rintro e w' ⟨rfl, hw'⟩; obtain rfl := hw'.symm; clear hw'; clear hcU) | (go_at_call 42; refine (hab1 _ ?q9).mono ?_; (case q9 => (first | exact kd | exact k1 | exact k2 | exact k3 | exact k4 | exact k5 | exact k6 | exact k7 | exact k8 | exact k9 | exact k10)); rintro e w5 ⟨rfl, g5⟩; have k5 := k4.trans g5; clear hab1) | (go_at_call 36; refine (hI _).mono ?_; rintro e w6 ⟨s6, p6, l6, c6, q6, k6_, d6, rfl, X6, g6⟩; have k6 := k5.trans g6) | (go_at_call 43; refine (hrq _ _ _ _ _ _ _ _ _ ?q9 X6).mono ?_; (case q9 => (first | exact kd | exact k1 | exact k2 | exact k3 | exact k4 | exact k5 | exact k6 | exact k7 | exact k8 | exact k9 | exact k10)); rintro e w7 ⟨s7, p7, l7, c7, q7, k7_, d7, rfl, X7, g7⟩; have k7 := k6.trans g7) | (go_at_call 13; refine (hoD _ ?q9).mono ?_; (case q9 => (first | exact kd | exact k1 | exact k2 | exact k3 | exact k4 | exact k5 | exact k6 | exact k7 | exact k8 | exact k9 | exact k10)); rintro e w8 ⟨rfl, g8⟩; have k8 := k7.trans g8; have X8 := X7.kp g8; clear hoD) | (go_at_call 13; refine (hoU _ ?q9).mono ?_; (case q9 => (first | exact kd | exact k1 | exact k2 | exact k3 | exact k4 | exact k5 | exact k6 | exact k7 | exact k8 | exact k9 | exact k10)); rintro e w9 ⟨rfl, g9⟩; have k9 := k8.trans g9; have X9 := X8.kp g9; clear hoU) | (go_at_call 42; refine (hab2 _ _ _ _ _ _ _ _ _ X9).mono ?_; rintro e w10 ⟨rfl, g10⟩; have k10 := k9.trans g10) | (go_at_call 8; refine (hlv2 _ ?q9).mono ?_; (case q9 => (first | exact kd | exact k1 | exact k2 | exact k3 | exact k4 | exact k5 | exact k6 | exact k7 | exact k8 | exact k9 | exact k10)); rintro e w11 ⟨rfl, g11⟩; have k11 := k10.trans g11; clear hlv2))
      all_goals (
        go_wp2
        exact bodyPost_ret (v := .bool true) (by simp [results, Tryz.results6, go_sem]) rfl ⟨rfl, HW.out.trans k11⟩)
end Go.Proofs.YteedfmghgkmofaaGreatDoor
