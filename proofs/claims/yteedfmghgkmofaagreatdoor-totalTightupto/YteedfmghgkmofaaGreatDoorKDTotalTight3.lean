import Derived.Test.YteedfmghgkmofaaGreatDoorKDTotalTight2
import Derived.WalkKit
import Derived.ProofKit
import Derived.RowKit3
import Derived.WalkSpells
import Derived.StillTactics
import Derived.Deep.QuietTactic
import Derived.BigQuiet
import Derived.Below
import Derived.Deep.WholeRow
import Derived.Deep.MidRow
import Derived.Laws.Externs
import Derived.Deep.Cut
import Derived.Deep.RegionWith
import Derived.Deep.RegionHeld3
import Derived.Laws.Bits64
import Derived.Lib.Zigzag
import Derived.Deep.OwnRows
import Derived.Laws.MakeOwn
import Derived.Laws.FloatArith
import Derived.OwnWalk
import Derived.Laws.BitsAllLaws
import Derived.Laws.Slices
import Derived.Laws.Bits64b
import Derived.OrdersHeld
import Derived.Deep.RegionHeld
namespace Go.Proofs.YteedfmghgkmofaaGreatDoor
open Go.RowKit
set_option linter.unusedVariables false
set_option linter.unusedVariables false
/-- the pattern of a place -/
def pz (z : Int) : Nat := Fq.wD (decide (z < 0)) z.natAbs
def g53 (d : Int) (c1 c2 : Nat) (V : Int) : Int := gpl 53 2098 9218868437227405311 9218868437227405312 d c1 c2 V
theorem mdW_pz (s : Bool) (M : Nat) : mdW s M = pz (if s then -(M : Int) else M) := by
  unfold mdW pz Fq.wD
  by_cases z : M = 0
  · rw [if_pos z, z]; cases s <;> simp
  · rw [if_neg z]
    cases s
    · simp <;> omega
    · simp <;> omega
theorem rV_neg (d : Int) (A K : Nat) : rV d 53 A 1 (-(K : Int)) = rU d 53 (A * 1) (2 ^ K) := by
  unfold rV
  rw [show (-(K : Int)).toNat = 0 from by omega, show (- -(K : Int)).toNat = K from by omega, Nat.pow_zero, Nat.one_mul]
theorem fmaW_g (K : Nat) (hK : K = 1074) (d V : Int) : fmaW d V = pz (g53 d 1 (2 ^ K) V) := by
  unfold fmaW g53 gpl
  rw [show (-1074 : Int) = -(K : Int) from by omega]
  by_cases z : V = 0
  · rw [if_pos z, if_pos z]; rfl
  · rw [if_neg z, if_neg z, mdW_pz, rV_neg]
    by_cases n : V < 0
    · rw [if_pos n, decide_eq_true n]; rfl
    · rw [if_neg n, decide_eq_false n]; rfl
set_option linter.unusedVariables false
/-- the number at a place -/
def vZ (z : Int) : Int := Iv (decide (z < 0)) z.natAbs
theorem vZ_pos (z : Int) (h : 0 ≤ z) : vZ z = ((Fq.vV Ieee.double z.natAbs : Nat) : Int) := by
  unfold vZ Iv
  rw [decide_eq_false (show ¬ z < 0 by omega)]; rfl
theorem vV0X : Fq.vV Ieee.double 0 = 0 := by decide
theorem vZ_neg (z : Int) : vZ (-z) = -vZ z := by
  unfold vZ Iv
  rw [Int.natAbs_neg]
  by_cases z0 : z = 0
  · rw [z0]; simp [vV0X]
  · by_cases c : z < 0
    · rw [decide_eq_true c, decide_eq_false (show ¬ -z < 0 by omega)]; simp
    · rw [decide_eq_false c, decide_eq_true (show -z < 0 by omega)]; simp
theorem pz_val (z : Int) : pz z = if z < 0 then 9223372036854775808 + z.natAbs else z.natAbs := by
  unfold pz Fq.wD
  by_cases c : z < 0
  · rw [decide_eq_true c, if_pos c]; simp <;> omega
  · rw [decide_eq_false c, if_neg c]; simp <;> omega
theorem vV_place (E S : Nat) (h1 : S ≤ 2 ^ 53) (h2 : E = 0 ∨ 2 ^ (53 - 1) ≤ S) : Fq.vV Ieee.double (E * 2 ^ (53 - 1) + S) = S * 2 ^ E := by
  have hb : Ieee.double.binade = 4503599627370496 := by decide
  have p1 : (2 : Nat) ^ (53 - 1) = 4503599627370496 := by decide
  have p2 : (2 : Nat) ^ 53 = 9007199254740992 := by decide
  rw [p1] at h2 ⊢
  rw [p2] at h1
  unfold Fq.vV Fq.mM Fq.eE
  rw [hb]
  by_cases c : E * 4503599627370496 + S < 4503599627370496
  · have hE : E = 0 := by omega
    rw [if_pos c, if_pos c, hE]; simp
  · rw [if_neg c, if_neg c]
    by_cases c2 : S = 9007199254740992
    · rw [show (E * 4503599627370496 + S) / 4503599627370496 - 1 = E + 1 from by omega, show (E * 4503599627370496 + S) % 4503599627370496 = 0 from by omega, Nat.pow_succ, c2]
      generalize 2 ^ E = P
      omega
    · rw [show (E * 4503599627370496 + S) / 4503599627370496 - 1 = E from by omega, show 4503599627370496 + (E * 4503599627370496 + S) % 4503599627370496 = S from by omega]
theorem g53_tight (c1 c2 : Nat) (hc : 0 < c2) (V : Int) : TS 9218868437227405312 (Fq.vV Ieee.double) (V * c1) (c2 : Int) (g53 (-1) c1 c2 V) (g53 1 c1 c2 V) (g53 0 c1 c2 V) := gpl_tight 53 2098 9218868437227405311 9218868437227405312 (Fq.vV Ieee.double) vV_place c1 c2 hc (by decide) (by decide) (by decide) (by decide) V
theorem self_pz (x : Int) (hx : -9218868437227405312 ≤ x ∧ x ≤ 9218868437227405312) : (FloatKind.f64.format.order (pz x) (pz x) != some Ordering.eq) = false := by
  unfold pz
  rw [Fq.ordD _ _ _ _ (by omega) (by omega), Fq.cmp_eq rfl]; rfl
theorem ratW_g (K : Nat) (hK : K = 1074) (d V : Int) (N : Nat) (hN : 1 ≤ N) (hl : len32 V.natAbs ≤ 16384) (hl2 : len32 N ≤ 16384) : ratW d (decide (V < 0)) V.natAbs N (-2148) = pz (g53 d 1 (N * 2 ^ K) V) := by
  unfold ratW g53 gpl
  rw [if_neg (by omega), if_neg (by omega)]
  by_cases z : V = 0
  · rw [if_pos (by rw [z]; rfl), if_pos z]; rfl
  · rw [if_neg (by omega), if_neg z, mdW_pz]
    have e : ∀ dd : Int, rV dd 53 V.natAbs N (-2148 + 1074) = rU dd 53 (V.natAbs * 1) (N * 2 ^ K) := fun dd => by
      rw [show (-2148 + 1074 : Int) = -(K : Int) from by omega]
      unfold rV
      rw [show (-(K : Int)).toNat = 0 from by omega, show (- -(K : Int)).toNat = K from by omega, Nat.pow_zero]
    rw [e]
    by_cases n : V < 0
    · rw [if_pos n, decide_eq_true n]; rfl
    · rw [if_neg n, decide_eq_false n]; rfl
/-- L and H lie about V by C, as closely as they can -/
def Ab (V : Int) (C : Nat) (L H : Int) : Prop := (L = H ∧ -9218868437227405312 < L ∧ L < 9218868437227405312 ∧ vZ L * (C : Int) = V) ∨ (H = L + 1 ∧ -9218868437227405312 ≤ L ∧ H ≤ 9218868437227405312 ∧ (-9218868437227405312 < L → vZ L * (C : Int) < V) ∧ (H < 9218868437227405312 → V < vZ H * (C : Int)))
theorem ab_g (C : Nat) (hC : 0 < C) (V : Int) : Ab V C (g53 (-1) 1 C V) (g53 1 1 C V) := by
  have h := g53_tight 1 C hC V vZ vZ_pos vZ_neg
  rw [show V * ((1 : Nat) : Int) = V from Int.mul_one V] at h
  rcases h with ⟨h1, _, h3, h4, h5⟩ | ⟨h1, h2, h3, h4, h5, _⟩
  · exact Or.inl ⟨h1, by omega, by omega, h5⟩
  · exact Or.inr ⟨h1, by omega, by omega, fun h => h4 (by omega), fun h => h5 (by omega)⟩
end Go.Proofs.YteedfmghgkmofaaGreatDoor
namespace Go.Proofs.YteedfmghgkmofaaGreatDoor
open Go.RowKit
theorem cmI_scale (x y k : Int) (hk : 0 < k) : cmI (x * k) (y * k) = cmI x y := by
  unfold cmI
  have e1 : x * k < y * k ↔ x < y := ⟨fun h => Int.lt_of_mul_lt_mul_right h (Int.le_of_lt hk), fun h => Int.mul_lt_mul_of_pos_right h hk⟩
  have e2 : y * k < x * k ↔ y < x := ⟨fun h => Int.lt_of_mul_lt_mul_right h (Int.le_of_lt hk), fun h => Int.mul_lt_mul_of_pos_right h hk⟩
  simp only [e1, e2]
set_option linter.unusedVariables false
theorem frac_ratio (x D a b : Nat) (hD : D ≠ 0) (hF : FracOf x D 0 a b) : a * D = x * b := by
  have hb := hF.1
  by_cases c0 : x = 0
  · rw [hF.2.1.2 c0, c0, Nat.zero_mul, Nat.zero_mul]
  · have hfl : ∀ t : Nat, a * 2 ^ t / b = x * 2 ^ t / D := fun t => by
      have h := hF.2.2.1 (-1) (blen (a * 2 ^ t / b) + blen (x * 2 ^ t / D)) (t : Int) c0
      unfold rV at h
      rw [show ((t : Int)).toNat = t from by omega, show (-(t : Int)).toNat = 0 from by omega, show ((t : Int) + 0).toNat = t from by omega, show (-((t : Int) + 0)).toNat = 0 from by omega, Nat.pow_zero, Nat.mul_one, Nat.mul_one, rU_floor _ _ _ (by omega), rU_floor _ _ _ (by omega)] at h
      exact h
    obtain ⟨t, ht⟩ : ∃ t, b * D < 2 ^ t := ⟨b * D, Nat.lt_two_pow_self⟩
    have h := hfl t
    obtain ⟨f, hf⟩ : ∃ f, f = a * 2 ^ t / b := ⟨_, rfl⟩
    have f1 : f * b ≤ a * 2 ^ t := by rw [hf]; exact Nat.div_mul_le_self _ _
    have f2 : a * 2 ^ t < (f + 1) * b := by rw [hf]; exact Nat.lt_mul_of_div_lt (Nat.lt_succ_self _) (by omega)
    have f3 : f * D ≤ x * 2 ^ t := by rw [hf, h]; exact Nat.div_mul_le_self _ _
    have f4 : x * 2 ^ t < (f + 1) * D := by rw [hf, h]; exact Nat.lt_mul_of_div_lt (Nat.lt_succ_self _) (by omega)
    have g1 := Nat.mul_le_mul_right D f1
    have g2 := Nat.mul_lt_mul_of_pos_right f2 (show 0 < D by omega)
    have g3 := Nat.mul_le_mul_right b f3
    have g4 := Nat.mul_lt_mul_of_pos_right f4 (show 0 < b by omega)
    rw [show f * b * D = f * (b * D) from Nat.mul_assoc _ _ _, show a * 2 ^ t * D = a * D * 2 ^ t from Nat.mul_right_comm _ _ _] at g1
    rw [show (f + 1) * b * D = f * (b * D) + b * D from by rw [Nat.mul_assoc, Nat.add_mul, Nat.one_mul], show a * 2 ^ t * D = a * D * 2 ^ t from Nat.mul_right_comm _ _ _] at g2
    rw [show f * D * b = f * (b * D) from by rw [Nat.mul_assoc, Nat.mul_comm D b], show x * 2 ^ t * b = x * b * 2 ^ t from Nat.mul_right_comm _ _ _] at g3
    rw [show (f + 1) * D * b = f * (b * D) + b * D from by rw [Nat.mul_assoc, Nat.mul_comm D b, Nat.add_mul, Nat.one_mul], show x * 2 ^ t * b = x * b * 2 ^ t from Nat.mul_right_comm _ _ _] at g4
    rcases Nat.lt_trichotomy (a * D) (x * b) with c | c | c
    · exfalso
      have h5 := Nat.mul_le_mul_right (2 ^ t) (show a * D + 1 ≤ x * b from c)
      rw [Nat.add_mul, Nat.one_mul] at h5
      omega
    · exact c
    · exfalso
      have h5 := Nat.mul_le_mul_right (2 ^ t) (show x * b + 1 ≤ a * D from c)
      rw [Nat.add_mul, Nat.one_mul] at h5
      omega
set_option linter.unusedVariables false
/-- a ratio's parts tell V by C -/
def XF (s : Bool) (a b : Nat) (V : Int) (C N : Nat) : Prop := b ≠ 0 ∧ C ≠ 0 ∧ rvI s a * (C : Int) = V * (b : Int) ∧ blen a ≤ N ∧ blen b ≤ N
/-- a ratio that is V by C, with rows of its own from 'base' on, of no more than N bits -/
def XP (base : Nat) (w : World) (s : Bool) (p : Option Addr) (l c : Nat) (q : Option Addr) (k d : Nat) (V : Int) (C N : Nat) : Prop := ∃ a b, Own w base (.slice p l c) (dig a) ∧ Own w base (.slice q k d) (dig b) ∧ XF s a b V C N
theorem XP.kp {base : Nat} {w : World} {s : Bool} {p : Option Addr} {l c : Nat} {q : Option Addr} {k d : Nat} {V : Int} {C N : Nat} {w' : World} (h : XP base w s p l c q k d V C N) (g : Kp w w') : XP base w' s p l c q k d V C N := by
  obtain ⟨a, b, h1, h2, h3⟩ := h
  exact ⟨a, b, h1.kp g, h2.kp g, h3⟩
theorem XP.mono {base : Nat} {w : World} {s : Bool} {p : Option Addr} {l c : Nat} {q : Option Addr} {k d : Nat} {V : Int} {C N : Nat} {base' : Nat} (h : XP base w s p l c q k d V C N) (g : base' ≤ base) : XP base' w s p l c q k d V C N := by
  obtain ⟨a, b, h1, h2, h3⟩ := h
  exact ⟨a, b, h1.mono g, h2.mono g, h3⟩
theorem XP.set {base : Nat} {w : World} {s : Bool} {p : Option Addr} {l c : Nat} {q : Option Addr} {k d : Nat} {V : Int} {C N : Nat} (h : XP base w s p l c q k d V C N) {x : Addr} (hx : x.block < base) (u : Value) : XP base (w.setCell x u) s p l c q k d V C N := by
  obtain ⟨a, b, h1, h2, h3⟩ := h
  exact ⟨a, b, h1.setOther hx u, h2.setOther hx u, h3⟩
theorem rvI_mul (s : Bool) (a b : Nat) : rvI s (a * b) = rvI s a * (b : Int) := by
  unfold rvI; cases s
  · rw [if_neg (by decide), if_neg (by decide), Int.natCast_mul]
  · rw [if_pos rfl, if_pos rfl, Int.natCast_mul, Int.neg_mul]
theorem frac_x (x D a' b' : Nat) (ng neg : Bool) (hD : D ≠ 0) (hF : FracOf x D 0 a' b') (hn : x ≠ 0 → ng = neg) : rvI ng a' * (D : Int) = rvI neg x * (b' : Int) := by
  have h := frac_ratio x D a' b' hD hF
  by_cases z : x = 0
  · have z' := hF.2.1.2 z
    rw [z, z']; unfold rvI; simp
  · rw [hn z, ← rvI_mul, ← rvI_mul, h]
theorem blen_mulX (u v N1 N2 : Nat) (h1 : blen u ≤ N1) (h2 : blen v ≤ N2) : blen (u * v) ≤ N1 + N2 := by
  rw [blen_le_iff, Nat.pow_add]
  exact Nat.mul_lt_mul'' ((blen_le_iff u N1).1 h1) ((blen_le_iff v N2).1 h2)
/-- a quotient: its denominator is a number that is not 0, told without its sign -/
theorem XF.quo (s s' ng : Bool) (a1 a2 b1 b2 a' b' : Nat) (V : Int) (U : Nat) (t : Bool) (C C' N N' M : Nat) (h1 : XF s a1 a2 V C N) (h2 : XF s' b1 b2 (rvI t U) C' N') (hU : U ≠ 0) (hb : b' ≠ 0) (h : rvI ng a' * ((a2 : Int) * (b1 : Int)) = rvI (s ^^ s') (a1 * b2) * (b' : Int)) (m1 : blen a' ≤ M) (m2 : blen b' ≤ M) : XF ng a' b' (rvI t 1 * V * (C' : Int)) (C * U) M := by
  obtain ⟨za, zc, i1, -, -⟩ := h1
  obtain ⟨zb, zc', i2, -, -⟩ := h2
  have hU' : (0 : Int) < (U : Int) := by omega
  have hC' : (0 : Int) < (C' : Int) := by omega
  have hb2 : (0 : Int) < (b2 : Int) := by omega
  have q1 : (0 : Int) < (U : Int) * (b2 : Int) := Int.mul_pos hU' hb2
  have key : s' = t ∧ (b1 : Int) * (C' : Int) = (U : Int) * (b2 : Int) := by
    have q2 : (0 : Int) ≤ (b1 : Int) * (C' : Int) := Int.mul_nonneg (by omega) (by omega)
    unfold rvI at i2
    cases s' <;> cases t <;> simp [Int.neg_mul] at i2 ⊢ <;> omega
  obtain ⟨rfl, i3⟩ := key
  have zb1 : (0 : Int) < (b1 : Int) := by
    rcases Nat.eq_zero_or_pos b1 with z | z
    · rw [z] at i3; simp at i3; omega
    · omega
  refine ⟨hb, Nat.mul_ne_zero zc hU, ?_, m1, m2⟩
  have pn : (a2 : Int) * (b1 : Int) ≠ 0 := by have : (0 : Int) < (a2 : Int) * (b1 : Int) := Int.mul_pos (by omega) (by omega); omega
  refine Int.eq_of_mul_eq_mul_right pn ?_
  refine Int.eq_of_mul_eq_mul_right (show (b2 : Int) ≠ 0 by omega) ?_
  rw [Int.natCast_mul]
  have e0 : rvI (s ^^ s') (a1 * b2) = rvI s' 1 * (rvI s a1 * (b2 : Int)) := by unfold rvI; cases s <;> cases s' <;> simp [Int.neg_mul]
  have e1 : rvI ng a' * ((C : Int) * (U : Int)) * ((a2 : Int) * (b1 : Int)) * (b2 : Int) = rvI ng a' * ((a2 : Int) * (b1 : Int)) * ((C : Int) * ((U : Int) * (b2 : Int))) := by ac_rfl
  rw [e1, h, ← i3, e0]
  have e2 : rvI s' 1 * (rvI s a1 * (b2 : Int)) * (b' : Int) * ((C : Int) * ((b1 : Int) * (C' : Int))) = (rvI s a1 * (C : Int)) * (rvI s' 1 * (b2 : Int) * (b' : Int) * (b1 : Int) * (C' : Int)) := by ac_rfl
  rw [e2, i1]; ac_rfl
end Go.Proofs.YteedfmghgkmofaaGreatDoor
namespace Go.Proofs.YteedfmghgkmofaaGreatDoor
open Go.RowKit
set_option maxRecDepth 20000 in
set_option maxHeartbeats 1000000 in
theorem rquoO_ (sa sb : Bool) (a1 a2 b1 b2 : Nat) (P1 P2 Q1 Q2 : Option Addr) (C1 C2 D1 D2 : Nat) (w : World) (h1 : Arr w P1 (dig a1)) (l1 : (dig a1).length ≤ C1) (h2 : Arr w P2 (dig a2)) (l2 : (dig a2).length ≤ C2) (h3 : Arr w Q1 (dig b1)) (l3 : (dig b1).length ≤ D1) (h4 : Arr w Q2 (dig b2)) (l4 : (dig b2).length ≤ D2) (k1 : len32 a1 ≤ 4000) (k2 : len32 a2 ≤ 4000) (k3 : len32 b1 ≤ 4000) (k4 : len32 b2 ≤ 4000) (z2 : a2 ≠ 0) (z4 : b1 ≠ 0) (X D : Nat) (hX : X = a1 * b2) (hD : D = a2 * b1) (lX : len32 X ≤ 16000) (lD : len32 D ≤ 16000) :
    Calls Tryz.prog 43 #[.agg #[.bool sa, .slice P1 (dig a1).length C1, .slice P2 (dig a2).length C2], .agg #[.bool sb, .slice Q1 (dig b1).length D1, .slice Q2 (dig b2).length D2]] w fun e w' => ∃ (vn vd : Value) (a' b' : Nat) (ng : Bool), e = .returned (.agg #[.bool ng, vn, vd]) ∧ Own w' w.heap.size vn (dig a') ∧ Own w' w.heap.size vd (dig b') ∧ (FracOf X D 0 a' b' ∧ (X ≠ 0 → ng = (sa ^^ sb))) ∧ Kp w w' := by
  have hz : D ≠ 0 := by rw [hD]; exact Nat.mul_ne_zero z2 z4
  obtain ⟨E1, g1⟩ : ∃ E, E = (dig a1).length := ⟨_, rfl⟩
  obtain ⟨E2, g2⟩ : ∃ E, E = (dig a2).length := ⟨_, rfl⟩
  obtain ⟨E3, g3⟩ : ∃ E, E = (dig b1).length := ⟨_, rfl⟩
  obtain ⟨E4, g4⟩ : ∃ E, E = (dig b2).length := ⟨_, rfl⟩
  rw [← g1, ← g2, ← g3, ← g4]
  obtain ⟨B, hB⟩ : ∃ B, B = w.heap.size := ⟨_, rfl⟩
  obtain ⟨wA, hwA⟩ : ∃ wA, wA = w.alloc (.cells #[.bool sa, .slice P1 E1 C1, .slice P2 E2 C2] 43) := ⟨_, rfl⟩
  obtain ⟨wB, hwB⟩ : ∃ wB, wB = wA.alloc (.cells #[.bool sb, .slice Q1 E3 D1, .slice Q2 E4 D2] 43) := ⟨_, rfl⟩
  obtain ⟨w0, hw0⟩ : ∃ w0, w0 = wB.alloc (.cells #[.bool false, .slice none 0 0, .slice none 0 0] 43) := ⟨_, rfl⟩
  have sA : wA.heap.size = B + 1 := by rw [hwA, hB]; simp
  have sB : wB.heap.size = B + 2 := by rw [hwB]; simp [sA]
  have kAB : Kp wA wB := by rw [hwB]; exact (Kp.refl wA).alloc _
  have x0 : wB.cell? ⟨B, 0, none⟩ = some (.bool sa) := kkeep kAB (by rw [hwA, hB]; simp [go_sem])
  have x1 : wB.cell? ⟨B, 1, none⟩ = some (.slice P1 E1 C1) := kkeep kAB (by rw [hwA, hB]; simp [go_sem])
  have x2 : wB.cell? ⟨B, 2, none⟩ = some (.slice P2 E2 C2) := kkeep kAB (by rw [hwA, hB]; simp [go_sem])
  have y0 : wB.cell? ⟨B + 1, 0, none⟩ = some (.bool sb) := by rw [hwB, ← sA]; simp [go_sem]
  have y1 : wB.cell? ⟨B + 1, 1, none⟩ = some (.slice Q1 E3 D1) := by rw [hwB, ← sA]; simp [go_sem]
  have y2 : wB.cell? ⟨B + 1, 2, none⟩ = some (.slice Q2 E4 D2) := by rw [hwB, ← sA]; simp [go_sem]
  have r0 : w0.cell? ⟨B + 2, 0, none⟩ = some (.bool false) := by rw [hw0, ← sB]; simp [go_sem]
  have r1 : w0.cell? ⟨B + 2, 1, none⟩ = some (.slice none 0 0) := by rw [hw0, ← sB]; simp [go_sem]
  have r2 : w0.cell? ⟨B + 2, 2, none⟩ = some (.slice none 0 0) := by rw [hw0, ← sB]; simp [go_sem]
  have f0 : w0.frozen? ⟨B + 2, 0, none⟩ = false := by rw [hw0, ← sB]; simp [go_sem]
  have f1 : w0.frozen? ⟨B + 2, 1, none⟩ = false := by rw [hw0, ← sB]; simp [go_sem]
  have f2 : w0.frozen? ⟨B + 2, 2, none⟩ = false := by rw [hw0, ← sB]; simp [go_sem]
  have kw : Kp w w0 := by rw [hw0, hwB, hwA]; exact (((Kp.refl w).alloc _).alloc _).alloc _
  have kS : Kp wB w0 := by rw [hw0]; exact (Kp.refl wB).alloc _
  have kD : Kp wB w0.drew := kS.drew
  have hge : wB.heap.size ≤ (⟨B + 2, 0, none⟩ : Addr).block := by simp only; omega
  have hlt := cell_lt r0
  have HP1 : Hid (∀ W : World, Kp w0 W → Calls Tryz.prog 73 #[.slice P1 E1 C1, .slice Q2 E4 D2] W fun e w' => ∃ p c, e = .returned (.slice p (dig X).length c) ∧ Arr w' p (dig X) ∧ (dig X).length ≤ c ∧ Kp W w') := by
    show ∀ W : World, Kp w0 W → Calls Tryz.prog 73 #[.slice P1 E1 C1, .slice Q2 E4 D2] W fun e w' => ∃ p c, e = .returned (.slice p (dig X).length c) ∧ Arr w' p (dig X) ∧ (dig X).length ≤ c ∧ Kp W w'
    intro W k
    rw [hX]; exact timesR _ _ a1 b2 W ⟨P1, C1, by rw [g1], h1.grown (kw.trans k), l1⟩ ⟨Q2, D2, by rw [g4], h4.grown (kw.trans k), l4⟩ (by omega) (by omega)
  have HP2 : Hid (∀ W : World, Kp w0 W → Calls Tryz.prog 73 #[.slice P2 E2 C2, .slice Q1 E3 D1] W fun e w' => ∃ p c, e = .returned (.slice p (dig D).length c) ∧ Arr w' p (dig D) ∧ (dig D).length ≤ c ∧ Kp W w') := by
    show ∀ W : World, Kp w0 W → Calls Tryz.prog 73 #[.slice P2 E2 C2, .slice Q1 E3 D1] W fun e w' => ∃ p c, e = .returned (.slice p (dig D).length c) ∧ Arr w' p (dig D) ∧ (dig D).length ≤ c ∧ Kp W w'
    intro W k
    rw [hD]; exact timesR _ _ a2 b1 W ⟨P2, C2, by rw [g2], h2.grown (kw.trans k), l2⟩ ⟨Q1, D1, by rw [g3], h3.grown (kw.trans k), l3⟩ (by omega) (by omega)
  obtain ⟨NX, hNX⟩ : ∃ N, N = (dig X).length := ⟨_, rfl⟩
  obtain ⟨ND, hND⟩ : ∃ N, N = (dig D).length := ⟨_, rfl⟩
  obtain ⟨st, hst⟩ : ∃ st, st = (sa ^^ sb) := ⟨_, rfl⟩
  have hst2 : (sa != sb) = st := by rw [hst]
  have hst3 : (!decide (sa = sb)) = st := by rw [hst]; cases sa <;> cases sb <;> rfl
  have hst4 : (!(sa == sb)) = st := by rw [hst]; cases sa <;> cases sb <;> rfl
  have HFR : Hid (∀ (p : Option Addr) (c : Nat) (q : Option Addr) (d : Nat) (W : World), Kp w0 W → Arr W p (dig X) → (dig X).length ≤ c → Arr W q (dig D) → (dig D).length ≤ d → Calls Tryz.prog 71 #[.bool st, .slice p (dig X).length c, .slice q (dig D).length d, .int .i64 0] W fun e w' => ∃ (vn vd : Value) (a' b' : Nat) (ng : Bool), e = .returned (.agg #[.bool ng, vn, vd]) ∧ Own w' W.heap.size vn (dig a') ∧ Own w' W.heap.size vd (dig b') ∧ (FracOf X D 0 a' b' ∧ (X ≠ 0 → ng = st)) ∧ Kp W w') := by
    show ∀ (p : Option Addr) (c : Nat) (q : Option Addr) (d : Nat) (W : World), Kp w0 W → Arr W p (dig X) → (dig X).length ≤ c → Arr W q (dig D) → (dig D).length ≤ d → Calls Tryz.prog 71 #[.bool st, .slice p (dig X).length c, .slice q (dig D).length d, .int .i64 0] W fun e w' => ∃ (vn vd : Value) (a' b' : Nat) (ng : Bool), e = .returned (.agg #[.bool ng, vn, vd]) ∧ Own w' W.heap.size vn (dig a') ∧ Own w' W.heap.size vd (dig b') ∧ (FracOf X D 0 a' b' ∧ (X ≠ 0 → ng = st)) ∧ Kp W w'
    intro p c q d W kk ar ll ar' ll'
    have g := frac_ st (.slice p (dig X).length c) (.slice q (dig D).length d) (dig X) (dig D) 0 W ⟨p, c, rfl, ar, ll⟩ ⟨q, d, rfl, ar', ll'⟩ (Wd_dig _) (Wd_dig _) (by change len32 _ ≤ _; omega) (by change len32 _ ≤ _; omega) (by rw [val_dig]; exact hz) (by decide)
    rw [val_dig, val_dig] at g
    exact g
  rw [← hNX, ← hND] at HFR
  rw [← hNX] at HP1
  rw [← hND] at HP2
  rw [← hst]
  have HW : Hid (w0 = wB.alloc (.cells #[.bool false, .slice none 0 0, .slice none 0 0] 43) ∧ wB = wA.alloc (.cells #[.bool sb, .slice Q1 E3 D1, .slice Q2 E4 D2] 43) ∧ wA = w.alloc (.cells #[.bool sa, .slice P1 E1 C1, .slice P2 E2 C2] 43) ∧ B = w.heap.size ∧ Kp w w0) := ⟨hw0, hwB, hwA, hB, kw⟩
  clear hNX hND hst hw0 hwB hwA hB sA sB kw kAB h1 l1 h2 l2 h3 l3 h4 l4 k1 k2 k3 k4 z2 z4 hX hD hz lX lD g1 g2 g3 g4
  go_enter Tryz.func43, Tryz.ntmps43
  go_upto_region 1 with fail
  rw [← HW.out.2.2.2.1]
  try rw [← HW.out.2.2.1]
  try rw [← HW.out.2.1]
  try rw [← HW.out.1]
  go_region_held3 (fun w' => w'.cell? ⟨B, 0, none⟩ = some (.bool sa) ∧ w'.cell? ⟨B, 1, none⟩ = some (.slice P1 E1 C1) ∧ w'.cell? ⟨B, 2, none⟩ = some (.slice P2 E2 C2) ∧ w'.cell? ⟨B + 1, 0, none⟩ = some (.bool sb) ∧ w'.cell? ⟨B + 1, 1, none⟩ = some (.slice Q1 E3 D1) ∧ w'.cell? ⟨B + 1, 2, none⟩ = some (.slice Q2 E4 D2)) (refine ⟨kkeep (W := wB) ?_ x0, kkeep (W := wB) ?_ x1, kkeep (W := wB) ?_ x2, kkeep (W := wB) ?_ y0, kkeep (W := wB) ?_ y1, kkeep (W := wB) ?_ y2⟩ <;> ((repeat (first | with_reducible exact kC | with_reducible exact kB | with_reducible exact kA | with_reducible exact kS | with_reducible exact kD | with_reducible exact Kp.refl _ | with_reducible refine Kp.drew ?_ | refine Kp.setCell ?_ hge _)); done)) (first | (go_at_call 71; have hh := ar2; refine (HFR.out pp cc pq cq _ ?q1 ?q2 ll1 ?q3 ll2).mono ?_; (case q1 => ((repeat (first | with_reducible exact kk2 | with_reducible exact kk1 | with_reducible exact Kp.refl _ | with_reducible refine Kp.drew ?_)); done)); (case q2 => exact ar1.grown k12); (case q3 => exact ar2); rintro e v3 ⟨vn, vd, a', b', ng, rfl, o1, o2, ff, k23⟩; have kk3 : Kp w0 v3 := Kp.trans ?q4 k23; (case q4 => ((repeat (first | with_reducible exact kk2 | with_reducible exact kk1 | with_reducible exact Kp.refl _ | with_reducible refine Kp.drew ?_)); done)); have kC : Kp wB v3 := kS.trans kk3; obtain ⟨pn, cn, rfl, an, ln⟩ := o1.arr; obtain ⟨pd, cd, rfl, ad, ld⟩ := o2.arr; have R0 := kkeep kk3 r0; have R1 := kkeep kk3 r1; have R2 := kkeep kk3 r2; have F0 := (kfro kk3 hlt).trans f0; have F1 := (kfro kk3 hlt).trans f1; have F2 := (kfro kk3 hlt).trans f2) | (go_at_call 73; have hh := ar1; refine (HP2.out _ ?q5).mono ?_; (case q5 => ((repeat (first | with_reducible exact kk2 | with_reducible exact kk1 | with_reducible exact Kp.refl _ | with_reducible refine Kp.drew ?_)); done)); rintro e v2 ⟨pq, cq, rfl, ar2, ll2, k12⟩; have kk2 : Kp w0 v2 := Kp.trans ?q7 k12; (case q7 => ((repeat (first | with_reducible exact kk2 | with_reducible exact kk1 | with_reducible exact Kp.refl _ | with_reducible refine Kp.drew ?_)); done)); have kB : Kp wB v2 := kS.trans kk2) | (go_at_call 73; refine (HP1.out _ ?q8).mono ?_; (case q8 => ((repeat (first | with_reducible exact kk2 | with_reducible exact kk1 | with_reducible exact Kp.refl _ | with_reducible refine Kp.drew ?_)); done)); rintro e v1 ⟨pp, cc, rfl, ar1, ll1, k01⟩; have kk1 : Kp w0 v1 := Kp.trans ?q10 k01; (case q10 => ((repeat (first | with_reducible exact kk2 | with_reducible exact kk1 | with_reducible exact Kp.refl _ | with_reducible refine Kp.drew ?_)); done)); have kA : Kp wB v1 := kS.trans kk1))
  have hs1 := Below.size kk2
  obtain ⟨wz, hwz⟩ : ∃ wz, wz = ((v3.setCell ⟨B + 2, 0, none⟩ (.bool ng)).setCell ⟨B + 2, 1, none⟩ (.slice pn (dig a').length cn)).setCell ⟨B + 2, 2, none⟩ (.slice pd (dig b').length cd) := ⟨_, rfl⟩
  have kb : Kb (B + 2) v3 wz := by rw [hwz]; exact (((Kb.refl (B + 2) v3).setCell 0 _).setCell 1 _).setCell 2 _
  have O1 := o1.kb kb (fun g hg => by have := o1.lt g hg; omega)
  have O2 := o2.kb kb (fun g hg => by have := o2.lt g hg; omega)
  have hkw : Kp w wz := kb.kp (HW.out.2.2.2.2.trans kk3) (by rw [HW.out.2.2.2.1]; omega)
  have HO : Hid (Own wz w.heap.size (.slice pn (dig a').length cn) (dig a') ∧ Own wz w.heap.size (.slice pd (dig b').length cd) (dig b') ∧ (FracOf X D 0 a' b' ∧ (X ≠ 0 → ng = st)) ∧ Kp w wz ∧ wz = ((v3.setCell ⟨B + 2, 0, none⟩ (.bool ng)).setCell ⟨B + 2, 1, none⟩ (.slice pn (dig a').length cn)).setCell ⟨B + 2, 2, none⟩ (.slice pd (dig b').length cd)) := ⟨O1.mono (by have e9 := HW.out.2.2.2.1; first | omega | exact Nat.le_trans (show w.heap.size ≤ v1.heap.size by omega) (Nat.le_refl _)), O2.mono (by have e9 := HW.out.2.2.2.1; first | omega | exact Nat.le_trans (show w.heap.size ≤ v1.heap.size by omega) (Nat.le_refl _)), ff, hkw, hwz⟩
  clear hs1 hwz kb O1 O2 hkw o1 o2 ff k23 kk3 kC an ln ad ld kk2 k12 kB ar2 ll2 kk1 k01 kA ar1 ll1 HP1 HP2 HFR kS kD hge
  go_wp2
  obtain ⟨q1, q2, q3, q4, q5⟩ := HO.out
  rw [q5] at q1 q2 q4
  exact bodyPost_ret (v := .agg #[.bool ng, .slice pn (dig a').length cn, .slice pd (dig b').length cd]) (by simp [results, Tryz.results43, go_sem, R0, R1, R2]) rfl ⟨_, _, a', b', ng, rfl, q1, q2, q3, q4⟩
end Go.Proofs.YteedfmghgkmofaaGreatDoor
namespace Go.Proofs.YteedfmghgkmofaaGreatDoor
open Go.RowKit
theorem xquo_ (V : Int) (U : Nat) (t : Bool) (hU : U ≠ 0) (C C' N N' : Nat) (hN : N + N' ≤ 100000) (s : Bool) (p : Option Addr) (l c : Nat) (q : Option Addr) (k d : Nat) (s2 : Bool) (p2 : Option Addr) (l2 c2 : Nat) (q2 : Option Addr) (k2 d2 : Nat) (B1 B2 : Nat) (w : World) (h1 : XP B1 w s p l c q k d V C N) (h2 : XP B2 w s2 p2 l2 c2 q2 k2 d2 (rvI t U) C' N') : Calls Tryz.prog 43 #[.agg #[.bool s, .slice p l c, .slice q k d], .agg #[.bool s2, .slice p2 l2 c2, .slice q2 k2 d2]] w fun e w' => ∃ (s3 : Bool) (p3 : Option Addr) (l3 c3 : Nat) (q3 : Option Addr) (k3 d3 : Nat), e = .returned (.agg #[.bool s3, .slice p3 l3 c3, .slice q3 k3 d3]) ∧ XP w.heap.size w' s3 p3 l3 c3 q3 k3 d3 (rvI t 1 * V * (C' : Int)) (C * U) (2 * (N + N') + 3) ∧ Kp w w' := by
  obtain ⟨a1, a2, u1, u2, u3⟩ := h1
  obtain ⟨b1, b2, v1, v2, v3⟩ := h2
  obtain ⟨P1, C1, e1, x1, y1⟩ := u1.arr
  obtain ⟨P2, C2, e2, x2, y2⟩ := u2.arr
  obtain ⟨Q1, D1, e3, x3, y3⟩ := v1.arr
  obtain ⟨Q2, D2, e4, x4, y4⟩ := v2.arr
  rw [e1, e2, e3, e4]
  obtain ⟨X, hX⟩ : ∃ X, X = a1 * b2 := ⟨_, rfl⟩
  obtain ⟨D, hD⟩ : ∃ D, D = a2 * b1 := ⟨_, rfl⟩
  have ba1 := u3.2.2.2.1
  have ba2 := u3.2.2.2.2
  have bb1 := v3.2.2.2.1
  have bb2 := v3.2.2.2.2
  have bX : blen X ≤ N + N' := by rw [hX]; exact blen_mulX _ _ _ _ ba1 bb2
  have bD : blen D ≤ N + N' := by rw [hD]; exact blen_mulX _ _ _ _ ba2 bb1
  have zb : b1 ≠ 0 := by
    intro z
    obtain ⟨g1, g2, g3, -, -⟩ := v3
    rw [z] at g3
    have q1 : (U : Int) * (b2 : Int) ≠ 0 := by have : (0 : Int) < (U : Int) * (b2 : Int) := Int.mul_pos (by omega) (by omega); omega
    unfold rvI at g3
    cases s2 <;> cases t <;> simp [Int.neg_mul] at g3 <;> omega
  have hzD : D ≠ 0 := by rw [hD]; exact Nat.mul_ne_zero u3.1 zb
  refine (rquoO_ s s2 a1 a2 b1 b2 P1 P2 Q1 Q2 C1 C2 D1 D2 w x1 y1 x2 y2 x3 y3 x4 y4 (dlen a1 4000 (by omega)) (dlen a2 4000 (by omega)) (dlen b1 4000 (by omega)) (dlen b2 4000 (by omega)) u3.1 zb X D hX hD (dlen X 16000 (by omega)) (dlen D 16000 (by omega))).mono ?_
  rintro e w' ⟨vn, vd, a', b', ng, rfl, o1, o2, ⟨hF, hn⟩, g⟩
  obtain ⟨p3, c3, rfl, -, -⟩ := o1.arr
  obtain ⟨q3, d3, rfl, -, -⟩ := o2.arr
  exact ⟨ng, p3, _, c3, q3, _, d3, rfl, ⟨a', b', o1, o2, XF.quo s s2 ng a1 a2 b1 b2 a' b' V U t C C' N N' _ u3 v3 hU hF.1 (by have h := frac_x X D a' b' ng _ hzD hF hn; rw [hX] at h; rw [hD, Int.natCast_mul] at h; exact h) (by have g1 := hF.2.2.2.1; simp at g1; omega) (by have g1 := hF.2.2.2.2; simp at g1; omega)⟩, g⟩
end Go.Proofs.YteedfmghgkmofaaGreatDoor
namespace Go.Proofs.YteedfmghgkmofaaGreatDoor
open Go.RowKit
set_option maxRecDepth 20000 in
set_option maxHeartbeats 1000000 in
theorem intN_ (N : Nat) (hN : 1 ≤ N) (hN2 : N < 9223372036854775808) (w : World) : Calls Tryz.prog 36 #[.int .i64 (N : Int)] w fun e w' => ∃ (s : Bool) (p : Option Addr) (l c : Nat) (q : Option Addr) (k d : Nat), e = .returned (.agg #[.bool s, .slice p l c, .slice q k d]) ∧ XP w.heap.size w' s p l c q k d (N : Int) 1 100 ∧ Kp w w' := by
  obtain ⟨B, hB⟩ : ∃ B, B = w.heap.size := ⟨_, rfl⟩
  obtain ⟨w0, hw0⟩ : ∃ w0, w0 = w.alloc (.cells #[.bool false, .slice none 0 0, .slice none 0 0] 43) := ⟨_, rfl⟩
  have kw : Kp w w0 := by rw [hw0]; exact (Kp.refl w).alloc _
  have r0 : w0.cell? ⟨B, 0, none⟩ = some (.bool false) := by rw [hw0, hB]; simp [go_sem]
  have r1 : w0.cell? ⟨B, 1, none⟩ = some (.slice none 0 0) := by rw [hw0, hB]; simp [go_sem]
  have r2 : w0.cell? ⟨B, 2, none⟩ = some (.slice none 0 0) := by rw [hw0, hB]; simp [go_sem]
  have f0 : w0.frozen? ⟨B, 0, none⟩ = false := by rw [hw0, hB]; simp [go_sem]
  have f1 : w0.frozen? ⟨B, 1, none⟩ = false := by rw [hw0, hB]; simp [go_sem]
  have f2 : w0.frozen? ⟨B, 2, none⟩ = false := by rw [hw0, hB]; simp [go_sem]
  have hlt := cell_lt r0
  have hbl : blen N ≤ 32 * 2 := (blen_le_iff N 64).2 (by omega)
  have j0 : ¬ ((N : Int) < 0) := by omega
  have j1 : IntKind.u64.wrap (N : Int) = (N : Int) := by rw [IntKind.wrap_u64]; omega
  have hs := rsmall_ N (by omega) w0
  have HW : Hid (w0 = w.alloc (.cells #[.bool false, .slice none 0 0, .slice none 0 0] 43) ∧ B = w.heap.size ∧ Kp w w0) := ⟨hw0, hB, kw⟩
  clear hw0 hB kw
  go_enter Tryz.func36, Tryz.ntmps36
  go_wp2_with fail
  rw [← HW.out.2.1]
  try rw [← HW.out.1]
  refine hs.mono ?_; rintro e w1 ⟨v, rfl, ho, k1⟩
  obtain ⟨pv, cv, rfl, hav, hcv⟩ := ho.arr
  obtain ⟨L, hL⟩ : ∃ L, L = (dig N).length := ⟨_, rfl⟩
  rw [← hL]
  obtain ⟨g4, hg4⟩ : ∃ g4, g4 = w1.heap.size := ⟨_, rfl⟩
  obtain ⟨w4, hw4⟩ : ∃ w4, w4 = w1.alloc (.cells #[.int .u32 1] 100) := ⟨_, rfl⟩
  have k4 : Kp w1 w4 := by rw [hw4]; exact (Kp.refl _).alloc _
  have ar4 : Arr w4 (some ⟨g4, 0, none⟩) (dig 1) := by
    have h := (row1 w1 1).all rfl
    rw [← hw4, ← hg4] at h
    rw [dig_one6]
    exact h
  have h := fracX_ false (.slice pv (dig N).length cv) (.slice (some ⟨g4, 0, none⟩) (dig 1).length 1) (dig N) (dig 1) 0 w4 ⟨pv, cv, rfl, hav.grown k4, hcv⟩ ⟨some ⟨g4, 0, none⟩, 1, rfl, ar4, by rw [dig_one6]; decide⟩ (Wd_dig _) (Wd_dig _) (Nat.le_trans (dlen N 2 hbl) (by decide)) (by rw [dig_one6]; decide) (by rw [val_dig]; decide) (by decide)
  rw [val_dig, val_dig] at h
  rw [show (dig 1).length = 1 from by rw [dig_one6]; rfl] at h
  rw [← hL] at h
  have k04 := k1.trans k4
  have HG : Hid (g4 = w1.heap.size ∧ w4 = w1.alloc (.cells #[.int .u32 1] 100)) := ⟨hg4, hw4⟩
  replace r0 := kkeep k04 r0
  replace r1 := kkeep k04 r1
  replace r2 := kkeep k04 r2
  replace f0 := (kfro k04 hlt).trans f0
  replace f1 := (kfro k04 hlt).trans f1
  replace f2 := (kfro k04 hlt).trans f2
  have HK : Hid (Kp w0 w4 ∧ B < w0.heap.size) := ⟨k04, hlt⟩
  have hlt4 := cell_lt r0
  clear hs ho hav hcv hL hg4 hw4 k4 ar4 k1 k04 hlt
  go_wp2_with fail
  rw [← HG.out.1, ← HG.out.2]
  refine h.mono ?_; rintro e w5 ⟨vn, vd, a', b', ng, rfl, o1, o2, ff, k5⟩
  obtain ⟨pn, cn, rfl, an, ln⟩ := o1.arr
  obtain ⟨pd, cd, rfl, ad, ld⟩ := o2.arr
  replace r0 := kkeep k5 r0
  replace r1 := kkeep k5 r1
  replace r2 := kkeep k5 r2
  replace f0 := (kfro k5 hlt4).trans f0
  replace f1 := (kfro k5 hlt4).trans f1
  replace f2 := (kfro k5 hlt4).trans f2
  have z1 : a' = N ∧ b' = 1 := by
    obtain ⟨oa, ob, ka, kb, x, y, g1, g2, g3, g4, g5, g6, g7, g8⟩ := ff.1.2.2 (by omega)
    obtain ⟨r1, r2⟩ := odd_one ob 0 kb g2 g4
    subst r1 r2
    have hy : y = 0 ∧ x = ka := by rcases g7 with h | h <;> constructor <;> omega
    rw [hy.2] at g5
    rw [hy.1] at g6
    exact ⟨by rw [g5, g3], by rw [g6]⟩
  have hp : XP w4.heap.size w5 ng pn (dig a').length cn pd (dig b').length cd (N : Int) 1 100 :=
    ⟨a', b', o1, o2, by omega, by decide, by rw [z1.1, z1.2, ff.2 (by omega)]; unfold rvI; simp, by rw [z1.1]; omega, by rw [z1.2]; decide⟩
  have hq := (((hp.set (x := ⟨B, 0, none⟩) hlt4 (.bool ng)).set (x := ⟨B, 1, none⟩) hlt4 (.slice pn (dig a').length cn)).set (x := ⟨B, 2, none⟩) hlt4 (.slice pd (dig b').length cd)).mono (base' := w.heap.size) (by have h1 := Below.size HW.out.2.2; have h2 := Below.size HK.out.1; omega)
  have hkw : Kp w (((w5.setCell ⟨B, 0, none⟩ (.bool ng)).setCell ⟨B, 1, none⟩ (.slice pn (dig a').length cn)).setCell ⟨B, 2, none⟩ (.slice pd (dig b').length cd)) := by
    have hB := HW.out.2.1
    exact ((((HW.out.2.2.trans HK.out.1).trans k5).setCell (by rw [hB]; exact Nat.le_refl _) _).setCell (by rw [hB]; exact Nat.le_refl _) _).setCell (by rw [hB]; exact Nat.le_refl _) _
  generalize (dig a').length = La at hq hkw ⊢
  generalize (dig b').length = Lb at hq hkw ⊢
  have HO : Hid (_ ∧ _) := ⟨hq, hkw⟩
  clear h hp hq hkw o1 o2 ff z1 hbl hN hN2 k5 an ln ad ld hlt4 HG
  go_wp2
  exact bodyPost_ret (v := .agg #[.bool ng, .slice pn La cn, .slice pd Lb cd]) (by simp [results, Tryz.results36, go_sem, r0, r1, r2]) rfl ⟨ng, pn, La, cn, pd, Lb, cd, rfl, HO.out.1, HO.out.2⟩
end Go.Proofs.YteedfmghgkmofaaGreatDoor
namespace Go.Proofs.YteedfmghgkmofaaGreatDoor
open Go.RowKit
theorem blen_two (j : Nat) : blen (2 ^ j) = j + 1 := blen_uniq _ j (Nat.le_refl _) (by rw [Nat.pow_succ]; have := Nat.two_pow_pos j; omega)
theorem Dy.xp {base : Nat} {w : World} {s1 : Bool} {p1 : Option Addr} {l1 c1 : Nat} {q1 : Option Addr} {k1 d1 : Nat} {V : Int} {E : Nat} (h : Dy base w s1 p1 l1 c1 q1 k1 d1 V E) (N : Nat) (hV : V.natAbs < 2 ^ N) (hE : E + 1 ≤ N) : XP base w s1 p1 l1 c1 q1 k1 d1 V (2 ^ E) N := by
  obtain ⟨a, j, h1, h2, ⟨g1, g2, g3⟩, h4⟩ := h
  have ha : a < 2 ^ N := by
    have : a * 1 ≤ a * 2 ^ (E - j) := Nat.mul_le_mul (Nat.le_refl _) Nat.one_le_two_pow
    omega
  refine ⟨a, 2 ^ j, h1, h2, Nat.ne_of_gt (Nat.two_pow_pos _), Nat.ne_of_gt (Nat.two_pow_pos _), ?_, (blen_le_iff _ _).2 ha, by rw [blen_two]; omega⟩
  have e : ((2 ^ E : Nat) : Int) = ((2 ^ (E - j) : Nat) : Int) * ((2 ^ j : Nat) : Int) := by rw [← Int.natCast_mul, ← Nat.pow_add]; congr 2; omega
  have e2 : ((a : Int)) * ((2 ^ (E - j) : Nat) : Int) = ((V.natAbs : Nat) : Int) := by rw [← Int.natCast_mul, g3]
  rw [e, ← Int.mul_assoc]
  by_cases z : V = 0
  · have : ((a : Int)) * ((2 ^ (E - j) : Nat) : Int) = 0 := by rw [e2, z]; rfl
    have h0 : rvI s1 a * ((2 ^ (E - j) : Nat) : Int) = 0 := by
      unfold rvI
      cases s1
      · simpa using this
      · simp only [if_true, Int.neg_mul, this]; rfl
    rw [h0, z]
  · have hs := h4 z
    congr 1
    unfold rvI
    by_cases c : V < 0
    · rw [hs, decide_eq_true c]
      simp only [if_true, Int.neg_mul, e2]; omega
    · rw [hs, decide_eq_false c]
      simp only [Bool.false_eq_true, if_false, e2]; omega
theorem xcmp_ (V V' : Int) (C C' N N' : Nat) (hN : N ≤ 200000) (hN' : N' ≤ 200000) (s : Bool) (p : Option Addr) (l c : Nat) (q : Option Addr) (k d : Nat) (s2 : Bool) (p2 : Option Addr) (l2 c2 : Nat) (q2 : Option Addr) (k2 d2 : Nat) (B1 B2 : Nat) (w : World) (h1 : XP B1 w s p l c q k d V C N) (h2 : XP B2 w s2 p2 l2 c2 q2 k2 d2 V' C' N') : Calls Tryz.prog 78 #[.agg #[.bool s, .slice p l c, .slice q k d], .agg #[.bool s2, .slice p2 l2 c2, .slice q2 k2 d2]] w fun e w' => e = .returned (.int .i64 (cmI (V * (C' : Int)) (V' * (C : Int)))) ∧ Kp w w' := by
  obtain ⟨a, b, o1, o2, zb, zC, i1, j1, j2⟩ := h1
  obtain ⟨x, y, o3, o4, zy, zC', i2, j3, j4⟩ := h2
  have h := rcmp6_ s p l c q k d s2 p2 l2 c2 q2 k2 d2 a b x y B1 B2 w o1 o2 o3 o4 zb zy (by omega) (by omega) (by omega) (by omega)
  have e : cmI (rvI s a * (y : Int)) (rvI s2 x * (b : Int)) = cmI (V * (C' : Int)) (V' * (C : Int)) := by
    have pk : (0 : Int) < (C : Int) * (C' : Int) := Int.mul_pos (by omega) (by omega)
    have pb : (0 : Int) < (b : Int) * (y : Int) := Int.mul_pos (by omega) (by omega)
    rw [← cmI_scale _ _ _ pk, ← cmI_scale (V * (C' : Int)) (V' * (C : Int)) _ pb]
    have e1 : rvI s a * (y : Int) * ((C : Int) * (C' : Int)) = V * (C' : Int) * ((b : Int) * (y : Int)) := by
      rw [show rvI s a * (y : Int) * ((C : Int) * (C' : Int)) = rvI s a * (C : Int) * ((y : Int) * (C' : Int)) from by simp only [Int.mul_assoc, Int.mul_comm, Int.mul_left_comm], i1]
      simp only [Int.mul_assoc, Int.mul_comm, Int.mul_left_comm]
    have e2 : rvI s2 x * (b : Int) * ((C : Int) * (C' : Int)) = V' * (C : Int) * ((b : Int) * (y : Int)) := by
      rw [show rvI s2 x * (b : Int) * ((C : Int) * (C' : Int)) = rvI s2 x * (C' : Int) * ((b : Int) * (C : Int)) from by simp only [Int.mul_assoc, Int.mul_comm, Int.mul_left_comm], i2]
      simp only [Int.mul_assoc, Int.mul_comm, Int.mul_left_comm]
    rw [e1, e2]
  rw [e] at h
  exact h
end Go.Proofs.YteedfmghgkmofaaGreatDoor
namespace Go.Proofs.YteedfmghgkmofaaGreatDoor
open Go.RowKit
set_option linter.unusedVariables false
set_option linter.unusedSimpArgs false
theorem if_no {c : Bool} {p q : Prop} (h : c = false) (hq : q) : if c = true then p else q := by subst h; exact hq
theorem exL {P : Program} {ρ : Operand → Value} {op : Oper} {t : TypeId} {x : Operand} {w : World} {v : Value} (ho : op.op = .load t x) (p : Value) (hx : ρ x = p) (hr : (Instr.loadAt t p).run P w = .ok v w) : (execOp ρ op).run P w = .ok (.value v) w := by
  unfold execOp
  simp only [ho, hx, Sem.run_bind, Sem.run_pure, Result.andThen_ok, hr]
theorem load43 (w : World) (B0 : Nat) (s : Bool) (p : Option Addr) (l c : Nat) (q : Option Addr) (k d : Nat) (c0 : w.cell? ⟨B0, 0, none⟩ = some (.bool s)) (c1 : w.cell? ⟨B0, 1, none⟩ = some (.slice p l c)) (c2 : w.cell? ⟨B0, 2, none⟩ = some (.slice q k d)) : (Instr.loadAt 43 (.pointer (some ⟨B0, 0, none⟩))).run Tryz.prog w = .ok (.agg #[.bool s, .slice p l c, .slice q k d]) w := by
  simp only [Instr.loadAt, Instr.sureAddr, Sem.run_bind, Sem.run_pure, Result.andThen]
  exact run_loadVar_mid (P := Tryz.prog) w B0 0 43 [.bool s, .slice p l c, .slice q k d] _ (fun j v hv => by
    match j, hv with
    | 0, hv => simp at hv; rw [← hv]; exact c0
    | 1, hv => simp at hv; rw [← hv]; exact c1
    | 2, hv => simp at hv; rw [← hv]; exact c2
    | n + 3, hv => simp at hv) Tryz.underlying43 rfl (by kernel_rfl)
set_option maxRecDepth 20000 in
set_option maxHeartbeats 400000 in
theorem step4_ (L : Int) (h1 : -9218868437227405312 ≤ L) (h2 : L < 9218868437227405312) (w : World) : Calls Tryz.prog 79 #[.int .u64 ((pz L : Nat) : Int)] w fun e w' => e = .returned (.int .u64 ((pz (L + 1) : Nat) : Int)) ∧ w' = w := by
  rw [pz_val, pz_val]
  by_cases c : L = -1
  · subst c
    go_enter Tryz.func79, Tryz.ntmps79
    go_wp2
    exact bodyPost_ret (v := .int .u64 0) (by simp [results, Tryz.results79, go_sem]) rfl ⟨rfl, rfl⟩
  · by_cases n : L < 0
    · rw [if_pos n, if_pos (by omega)]
      obtain ⟨X, hX⟩ : ∃ X : Int, X = ((9223372036854775808 + L.natAbs : Nat) : Int) := ⟨_, rfl⟩
      have e : ((9223372036854775808 + (L + 1).natAbs : Nat) : Int) = X - 1 := by omega
      rw [e, ← hX]
      have t1 : (X == 9223372036854775809) = false := beq_eq_false_iff_ne.2 (by omega)
      have t2 : (X == 9223372036854775808) = false := beq_eq_false_iff_ne.2 (by omega)
      have t3 : 9223372036854775808 < X := by omega
      have t4 : IntKind.u64.wrap (X - 1) = X - 1 := by rw [IntKind.wrap_u64]; omega
      have t5 : ¬ (X = 9223372036854775809) := by omega
      have t6 : ¬ (X = 9223372036854775808) := by omega
      clear hX e h1 h2 c n
      go_enter Tryz.func79, Tryz.ntmps79
      go_wp2
      exact bodyPost_ret (v := .int .u64 (X - 1)) (by simp [results, Tryz.results79, go_sem]) rfl ⟨rfl, rfl⟩
    · rw [if_neg n, if_neg (by omega)]
      obtain ⟨X, hX⟩ : ∃ X : Int, X = ((L.natAbs : Nat) : Int) := ⟨_, rfl⟩
      have e : (((L + 1).natAbs : Nat) : Int) = X + 1 := by omega
      rw [e, ← hX]
      have t1 : (X == 9223372036854775809) = false := beq_eq_false_iff_ne.2 (by omega)
      have t2 : (X == 9223372036854775808) = false := beq_eq_false_iff_ne.2 (by omega)
      have t3 : ¬ (9223372036854775808 < X) := by omega
      have t4 : IntKind.u64.wrap (X + 1) = X + 1 := by rw [IntKind.wrap_u64]; omega
      have t5 : ¬ (X = 9223372036854775809) := by omega
      have t6 : ¬ (X = 9223372036854775808) := by omega
      clear hX e h1 h2 c n
      go_enter Tryz.func79, Tryz.ntmps79
      go_wp2
      exact bodyPost_ret (v := .int .u64 (X + 1)) (by simp [results, Tryz.results79, go_sem]) rfl ⟨rfl, rfl⟩
theorem pz_ne (L : Int) (h1 : -9218868437227405312 ≤ L) (h2 : L ≤ 9218868437227405312) : ((pz L : Nat) : Int) ≠ 9221120237041090561 ∧ ((pz L : Nat) : Int) ≠ 9223372036854775808 ∧ (L < 9218868437227405312 → ((pz L : Nat) : Int) ≠ 9218868437227405312) ∧ (-9218868437227405312 < L → ((pz L : Nat) : Int) ≠ 18442240474082181120) := by
  rw [pz_val]
  by_cases n : L < 0
  · rw [if_pos n]; refine ⟨?_, ?_, ?_, ?_⟩ <;> intros <;> omega
  · rw [if_neg n]; refine ⟨?_, ?_, ?_, ?_⟩ <;> intros <;> omega
theorem pz_fin (L : Int) (h1 : -9218868437227405312 ≤ L) (h2 : L ≤ 9218868437227405312) : decide (pz L % 9223372036854775808 < 9218868437227405312) = decide (-9218868437227405312 < L ∧ L < 9218868437227405312) := by
  rw [pz_val]
  by_cases n : L < 0
  · rw [if_pos n, decide_eq_decide]; omega
  · rw [if_neg n, decide_eq_decide]; omega
theorem pz_lt4 (L : Int) (h1 : -9218868437227405312 ≤ L) (h2 : L ≤ 9218868437227405312) : pz L < 18446744073709551616 := by
  rw [pz_val]
  by_cases n : L < 0
  · rw [if_pos n]; omega
  · rw [if_neg n]; omega
theorem pz_inj (L H : Int) (h1 : -9218868437227405312 ≤ L) (h2 : L ≤ 9218868437227405312) (h3 : -9218868437227405312 ≤ H) (h4 : H ≤ 9218868437227405312) (h : L ≠ H) : ((pz L : Nat) : Int) ≠ ((pz H : Nat) : Int) := by
  rw [pz_val, pz_val]
  by_cases n : L < 0 <;> by_cases m : H < 0 <;> simp only [n, m, if_true, if_false] <;> omega
theorem cm_scale (x V : Int) (C P : Nat) (hP : 0 < P) : cmI (x * ((C * P : Nat) : Int)) (V * (P : Int)) = cmI (x * (C : Int)) V ∧ cmI (V * (P : Int)) (x * ((C * P : Nat) : Int)) = cmI V (x * (C : Int)) := by
  rw [Int.natCast_mul, ← Int.mul_assoc]
  exact ⟨cmI_scale _ _ _ (by omega), cmI_scale _ _ _ (by omega)⟩
theorem cmI_eq9 (x : Int) : cmI x x = 0 := by unfold cmI; rw [if_neg (by omega), if_neg (by omega)]
theorem cmI_lt9 (x y : Int) (h : x < y) : cmI x y = -1 := by unfold cmI; rw [if_pos h]
set_option maxRecDepth 20000 in
set_option maxHeartbeats 2000000 in
theorem aboutE_ (PP : Nat → World → Bool → Option Addr → Nat → Nat → Option Addr → Nat → Nat → Nat → Prop) (X1 X2 : Int) (s : Bool) (p : Option Addr) (l c : Nat) (q : Option Addr) (k d : Nat) (w : World) (t1 : (X1 == 9221120237041090561) = false) (t2 : (X2 == 9221120237041090561) = false) (t3 : (X1 == 9218868437227405312) = false) (t4 : (X2 == 18442240474082181120) = false) (t5 : (X1 == 9223372036854775808) = false) (t6 : (X2 == 9223372036854775808) = false) (e9 : (X1 == X2) = true) (hfL : ∀ W : World, Calls Tryz.prog 63 #[.int .u64 X1] W fun e w' => e = .returned (.bool true) ∧ w' = W) (hbL : ∀ W : World, Calls Tryz.prog 38 #[.int .u64 X1] W fun e w' => ∃ (s2 : Bool) (p2 : Option Addr) (l2 c2 : Nat) (q2 : Option Addr) (k2 d2 : Nat), e = .returned (.agg #[.bool s2, .slice p2 l2 c2, .slice q2 k2 d2]) ∧ PP W.heap.size w' s2 p2 l2 c2 q2 k2 d2 0 ∧ Kp W w') (hcL : ∀ (W : World) (s2 : Bool) (p2 : Option Addr) (l2 c2 : Nat) (q2 : Option Addr) (k2 d2 : Nat) (b2 : Nat), Kp w W → PP b2 W s2 p2 l2 c2 q2 k2 d2 0 → Calls Tryz.prog 78 #[.agg #[.bool s2, .slice p2 l2 c2, .slice q2 k2 d2], .agg #[.bool s, .slice p l c, .slice q k d]] W fun e w' => e = .returned (.int .i64 0) ∧ Kp W w') : Calls Tryz.prog 42 #[.agg #[.bool s, .slice p l c, .slice q k d], .int .u64 X1, .int .u64 X2] w fun e w' => e = .returned (.bool true) ∧ Kp w w' := by
  have kw : Kp w (w.alloc (.cells #[.bool s, .slice p l c, .slice q k d] 43)) := (Kp.refl w).alloc _
  have c0 : (w.alloc (.cells #[.bool s, .slice p l c, .slice q k d] 43)).cell? ⟨w.heap.size, 0, none⟩ = some (.bool s) := by simp [go_sem]
  have c1 : (w.alloc (.cells #[.bool s, .slice p l c, .slice q k d] 43)).cell? ⟨w.heap.size, 1, none⟩ = some (.slice p l c) := by simp [go_sem]
  have c2_ : (w.alloc (.cells #[.bool s, .slice p l c, .slice q k d] 43)).cell? ⟨w.heap.size, 2, none⟩ = some (.slice q k d) := by simp [go_sem]
  go_enter Tryz.func42, Tryz.ntmps42
  go_upto_region 4 with fail
  generalize w.alloc (.cells #[.bool s, .slice p l c, .slice q k d] 43) = W0 at *
  generalize w.heap.size = B0 at c0 c1 c2_ ⊢
  have kd : Kp w W0.drew := kw.drew
  have c0 : W0.drew.cell? ⟨B0, 0, none⟩ = some (.bool s) := c0
  have c1 : W0.drew.cell? ⟨B0, 1, none⟩ = some (.slice p l c) := c1
  have c2_ : W0.drew.cell? ⟨B0, 2, none⟩ = some (.slice q k d) := c2_
  go_region_held3 (fun w' => w'.cell? ⟨B0, 0, none⟩ = some (.bool s) ∧ w'.cell? ⟨B0, 1, none⟩ = some (.slice p l c) ∧ w'.cell? ⟨B0, 2, none⟩ = some (.slice q k d)) (first | (with_reducible exact ⟨c0, c1, c2_⟩) | (exact ⟨kkeep j3 c0, kkeep j3 c1, kkeep j3 c2_⟩) | (exact ⟨kkeep j4 c0, kkeep j4 c1, kkeep j4 c2_⟩) | (exact ⟨kkeep j5 c0, kkeep j5 c1, kkeep j5 c2_⟩) | (exact ⟨kkeep j6 c0, kkeep j6 c1, kkeep j6 c2_⟩)) (first | (go_at_call_of 63 (Value.int IntKind.u64 X1); refine (hfL _).mono ?_; rintro e w' ⟨rfl, hw'⟩; obtain rfl := hw'.symm; clear hw') | (go_at_call_of 38 (Value.int IntKind.u64 X1); refine (hbL _).mono ?_; rintro e W3 ⟨s2, p2, l2, c2, q2, k2, d2, rfl, D2, g3⟩; have j3 : Kp W0.drew W3 := g3; have k3 := kd.trans g3; have hcL9 := hcL W3 s2 p2 l2 c2 q2 k2 d2 _ k3 D2) | (go_at_call_of 78 (Value.agg #[Value.bool s2, Value.slice p2 l2 c2, Value.slice q2 k2 d2]); refine hcL9.mono ?_; rintro e W4 ⟨rfl, g4⟩; have j4 := j3.trans g4; have k4 := k3.trans g4))
  all_goals (
    go_wp2
    exact bodyPost_ret (v := .bool true) (by simp [results, Tryz.results42, go_sem]) rfl ⟨rfl, k4⟩)
set_option maxRecDepth 20000 in
set_option maxHeartbeats 2000000 in
theorem aboutFF_ (PP : Nat → World → Bool → Option Addr → Nat → Nat → Option Addr → Nat → Nat → Nat → Prop) (X1 X2 : Int) (s : Bool) (p : Option Addr) (l c : Nat) (q : Option Addr) (k d : Nat) (w : World) (t1 : (X1 == 9221120237041090561) = false) (t2 : (X2 == 9221120237041090561) = false) (t3 : (X1 == 9218868437227405312) = false) (t4 : (X2 == 18442240474082181120) = false) (t5 : (X1 == 9223372036854775808) = false) (t6 : (X2 == 9223372036854775808) = false) (e9 : (X1 == X2) = false) (hst : ∀ W : World, Calls Tryz.prog 79 #[.int .u64 X1] W fun e w' => e = .returned (.int .u64 X2) ∧ w' = W) (hfL : ∀ W : World, Calls Tryz.prog 63 #[.int .u64 X1] W fun e w' => e = .returned (.bool true) ∧ w' = W) (hfH : ∀ W : World, Calls Tryz.prog 63 #[.int .u64 X2] W fun e w' => e = .returned (.bool true) ∧ w' = W) (hbL : ∀ W : World, Calls Tryz.prog 38 #[.int .u64 X1] W fun e w' => ∃ (s2 : Bool) (p2 : Option Addr) (l2 c2 : Nat) (q2 : Option Addr) (k2 d2 : Nat), e = .returned (.agg #[.bool s2, .slice p2 l2 c2, .slice q2 k2 d2]) ∧ PP W.heap.size w' s2 p2 l2 c2 q2 k2 d2 0 ∧ Kp W w') (hcL : ∀ (W : World) (s2 : Bool) (p2 : Option Addr) (l2 c2 : Nat) (q2 : Option Addr) (k2 d2 : Nat) (b2 : Nat), Kp w W → PP b2 W s2 p2 l2 c2 q2 k2 d2 0 → Calls Tryz.prog 78 #[.agg #[.bool s2, .slice p2 l2 c2, .slice q2 k2 d2], .agg #[.bool s, .slice p l c, .slice q k d]] W fun e w' => e = .returned (.int .i64 (-1)) ∧ Kp W w') (hbH : ∀ W : World, Calls Tryz.prog 38 #[.int .u64 X2] W fun e w' => ∃ (s2 : Bool) (p2 : Option Addr) (l2 c2 : Nat) (q2 : Option Addr) (k2 d2 : Nat), e = .returned (.agg #[.bool s2, .slice p2 l2 c2, .slice q2 k2 d2]) ∧ PP W.heap.size w' s2 p2 l2 c2 q2 k2 d2 1 ∧ Kp W w') (hcH : ∀ (W : World) (s2 : Bool) (p2 : Option Addr) (l2 c2 : Nat) (q2 : Option Addr) (k2 d2 : Nat) (b2 : Nat), Kp w W → PP b2 W s2 p2 l2 c2 q2 k2 d2 1 → Calls Tryz.prog 78 #[.agg #[.bool s, .slice p l c, .slice q k d], .agg #[.bool s2, .slice p2 l2 c2, .slice q2 k2 d2]] W fun e w' => e = .returned (.int .i64 (-1)) ∧ Kp W w') : Calls Tryz.prog 42 #[.agg #[.bool s, .slice p l c, .slice q k d], .int .u64 X1, .int .u64 X2] w fun e w' => e = .returned (.bool true) ∧ Kp w w' := by
  have kw : Kp w (w.alloc (.cells #[.bool s, .slice p l c, .slice q k d] 43)) := (Kp.refl w).alloc _
  have c0 : (w.alloc (.cells #[.bool s, .slice p l c, .slice q k d] 43)).cell? ⟨w.heap.size, 0, none⟩ = some (.bool s) := by simp [go_sem]
  have c1 : (w.alloc (.cells #[.bool s, .slice p l c, .slice q k d] 43)).cell? ⟨w.heap.size, 1, none⟩ = some (.slice p l c) := by simp [go_sem]
  have c2_ : (w.alloc (.cells #[.bool s, .slice p l c, .slice q k d] 43)).cell? ⟨w.heap.size, 2, none⟩ = some (.slice q k d) := by simp [go_sem]
  go_enter Tryz.func42, Tryz.ntmps42
  go_upto_region 7 with (first | (go_at_call 79; refine (hst _).mono ?_; rintro e w' ⟨rfl, hw'⟩; obtain rfl := hw'.symm; clear hw'))
  generalize w.alloc (.cells #[.bool s, .slice p l c, .slice q k d] 43) = W0 at *
  generalize w.heap.size = B0 at c0 c1 c2_ ⊢
  have kd : Kp w W0.drew := kw.drew
  have c0 : W0.drew.cell? ⟨B0, 0, none⟩ = some (.bool s) := c0
  have c1 : W0.drew.cell? ⟨B0, 1, none⟩ = some (.slice p l c) := c1
  have c2_ : W0.drew.cell? ⟨B0, 2, none⟩ = some (.slice q k d) := c2_
  go_region_held3 (fun w' => w'.cell? ⟨B0, 0, none⟩ = some (.bool s) ∧ w'.cell? ⟨B0, 1, none⟩ = some (.slice p l c) ∧ w'.cell? ⟨B0, 2, none⟩ = some (.slice q k d)) (first | (with_reducible exact ⟨c0, c1, c2_⟩) | (exact ⟨kkeep j3 c0, kkeep j3 c1, kkeep j3 c2_⟩) | (exact ⟨kkeep j4 c0, kkeep j4 c1, kkeep j4 c2_⟩) | (exact ⟨kkeep j5 c0, kkeep j5 c1, kkeep j5 c2_⟩) | (exact ⟨kkeep j6 c0, kkeep j6 c1, kkeep j6 c2_⟩)) (first | (go_at_call_of 63 (Value.int IntKind.u64 X1); refine (hfL _).mono ?_; rintro e w' ⟨rfl, hw'⟩; obtain rfl := hw'.symm; clear hw') | (go_at_call_of 38 (Value.int IntKind.u64 X1); refine (hbL _).mono ?_; rintro e W3 ⟨s2, p2, l2, c2, q2, k2, d2, rfl, D2, g3⟩; have j3 : Kp W0.drew W3 := g3; have k3 := kd.trans g3; have hcL9 := hcL W3 s2 p2 l2 c2 q2 k2 d2 _ k3 D2) | (go_at_call_of 78 (Value.agg #[Value.bool s2, Value.slice p2 l2 c2, Value.slice q2 k2 d2]); refine hcL9.mono ?_; rintro e W4 ⟨rfl, g4⟩; have j4 := j3.trans g4; have k4 := k3.trans g4) | (go_at_call_of 63 (Value.int IntKind.u64 X2); refine (hfH _).mono ?_; rintro e w' ⟨rfl, hw'⟩; obtain rfl := hw'.symm; clear hw') | (go_at_call_of 38 (Value.int IntKind.u64 X2); refine (hbH _).mono ?_; rintro e W5 ⟨s3, p3, l3, c3, q3, k3, d3, rfl, D3, g5⟩; have j5 := j4.trans g5; have k5 := k4.trans g5; have hcH9 := hcH W5 s3 p3 l3 c3 q3 k3 d3 _ k5 D3) | (go_at_call_of 78 (Value.agg #[Value.bool s, Value.slice p l c, Value.slice q k d]); refine hcH9.mono ?_; rintro e W6 ⟨rfl, g6⟩; have j6 := j5.trans g6; have k6 := k5.trans g6))
  all_goals (
    go_wp2
    exact bodyPost_ret (v := .bool true) (by simp [results, Tryz.results42, go_sem]) rfl ⟨rfl, k6⟩)
set_option maxRecDepth 20000 in
set_option maxHeartbeats 2000000 in
theorem aboutFI_ (PP : Nat → World → Bool → Option Addr → Nat → Nat → Option Addr → Nat → Nat → Nat → Prop) (X1 X2 : Int) (s : Bool) (p : Option Addr) (l c : Nat) (q : Option Addr) (k d : Nat) (w : World) (t1 : (X1 == 9221120237041090561) = false) (t2 : (X2 == 9221120237041090561) = false) (t3 : (X1 == 9218868437227405312) = false) (t4 : (X2 == 18442240474082181120) = false) (t5 : (X1 == 9223372036854775808) = false) (t6 : (X2 == 9223372036854775808) = false) (e9 : (X1 == X2) = false) (hst : ∀ W : World, Calls Tryz.prog 79 #[.int .u64 X1] W fun e w' => e = .returned (.int .u64 X2) ∧ w' = W) (hfL : ∀ W : World, Calls Tryz.prog 63 #[.int .u64 X1] W fun e w' => e = .returned (.bool true) ∧ w' = W) (hfH : ∀ W : World, Calls Tryz.prog 63 #[.int .u64 X2] W fun e w' => e = .returned (.bool false) ∧ w' = W) (hbL : ∀ W : World, Calls Tryz.prog 38 #[.int .u64 X1] W fun e w' => ∃ (s2 : Bool) (p2 : Option Addr) (l2 c2 : Nat) (q2 : Option Addr) (k2 d2 : Nat), e = .returned (.agg #[.bool s2, .slice p2 l2 c2, .slice q2 k2 d2]) ∧ PP W.heap.size w' s2 p2 l2 c2 q2 k2 d2 0 ∧ Kp W w') (hcL : ∀ (W : World) (s2 : Bool) (p2 : Option Addr) (l2 c2 : Nat) (q2 : Option Addr) (k2 d2 : Nat) (b2 : Nat), Kp w W → PP b2 W s2 p2 l2 c2 q2 k2 d2 0 → Calls Tryz.prog 78 #[.agg #[.bool s2, .slice p2 l2 c2, .slice q2 k2 d2], .agg #[.bool s, .slice p l c, .slice q k d]] W fun e w' => e = .returned (.int .i64 (-1)) ∧ Kp W w') : Calls Tryz.prog 42 #[.agg #[.bool s, .slice p l c, .slice q k d], .int .u64 X1, .int .u64 X2] w fun e w' => e = .returned (.bool true) ∧ Kp w w' := by
  have kw : Kp w (w.alloc (.cells #[.bool s, .slice p l c, .slice q k d] 43)) := (Kp.refl w).alloc _
  have c0 : (w.alloc (.cells #[.bool s, .slice p l c, .slice q k d] 43)).cell? ⟨w.heap.size, 0, none⟩ = some (.bool s) := by simp [go_sem]
  have c1 : (w.alloc (.cells #[.bool s, .slice p l c, .slice q k d] 43)).cell? ⟨w.heap.size, 1, none⟩ = some (.slice p l c) := by simp [go_sem]
  have c2_ : (w.alloc (.cells #[.bool s, .slice p l c, .slice q k d] 43)).cell? ⟨w.heap.size, 2, none⟩ = some (.slice q k d) := by simp [go_sem]
  go_enter Tryz.func42, Tryz.ntmps42
  go_upto_region 7 with (first | (go_at_call 79; refine (hst _).mono ?_; rintro e w' ⟨rfl, hw'⟩; obtain rfl := hw'.symm; clear hw'))
  generalize w.alloc (.cells #[.bool s, .slice p l c, .slice q k d] 43) = W0 at *
  generalize w.heap.size = B0 at c0 c1 c2_ ⊢
  have kd : Kp w W0.drew := kw.drew
  have jd : Kp W0.drew W0.drew := Kp.refl _
  have c0 : W0.drew.cell? ⟨B0, 0, none⟩ = some (.bool s) := c0
  have c1 : W0.drew.cell? ⟨B0, 1, none⟩ = some (.slice p l c) := c1
  have c2_ : W0.drew.cell? ⟨B0, 2, none⟩ = some (.slice q k d) := c2_
  refine wp_region_held_drew (S := (fun w' : World => w'.cell? ⟨B0, 0, none⟩ = some (.bool s) ∧ w'.cell? ⟨B0, 1, none⟩ = some (.slice p l c) ∧ w'.cell? ⟨B0, 2, none⟩ = some (.slice q k d))) (by kernel_rfl) ⟨c0, c1, c2_⟩ (fun _ => ?_)
  refine wpAnyH_take (i := 0) (v := .int .u64 X1) rfl (by kernel_rfl) (by kernel_rfl) (by kernel_rfl) (fun _ _ _ h => h) (Or.inl ⟨by rfl, fun w _hS => rfl⟩) ⟨kkeep jd c0, kkeep jd c1, kkeep jd c2_⟩ ?_
  try simp only [Act.put, List.getElem_toArray, List.getElem_cons_zero, List.getElem_cons_succ, List.setIfInBounds_toArray, List.set_cons_zero, List.set_cons_succ]
  refine wpAnyH_ready (rs := [1]) (by kernel_rfl) (by simp) ?_
  refine AllReadyH.cons rfl (fun K hK => ?_) AllReadyH.nil
  rw [if_pos (by rfl)]
  go_simp
  refine (hfL _).mono ?_
  rintro e w' ⟨rfl, hw'⟩; obtain rfl := hw'.symm; clear hw'
  go_wp2_with fail
  refine hK.out _ _ ⟨kkeep jd c0, kkeep jd c1, kkeep jd c2_⟩ (fun _ => ?_)
  clear hK K
  try simp only [Act.put, List.getElem_toArray, List.getElem_cons_zero, List.getElem_cons_succ, List.setIfInBounds_toArray, List.set_cons_zero, List.set_cons_succ]
  refine wpAnyH_take (i := 2) (v := .bool false) rfl (by kernel_rfl) (by kernel_rfl) (by kernel_rfl) (fun _ _ _ h => h) (Or.inl ⟨by rfl, fun w _hS => rfl⟩) ⟨kkeep jd c0, kkeep jd c1, kkeep jd c2_⟩ ?_
  try simp only [Act.put, List.getElem_toArray, List.getElem_cons_zero, List.getElem_cons_succ, List.setIfInBounds_toArray, List.set_cons_zero, List.set_cons_succ]
  refine wpAnyH_take (i := 3) (v := .bool false) rfl (by kernel_rfl) (by kernel_rfl) (by kernel_rfl) (fun _ _ _ h => h) (Or.inl ⟨by rfl, fun w _hS => rfl⟩) ⟨kkeep jd c0, kkeep jd c1, kkeep jd c2_⟩ ?_
  try simp only [Act.put, List.getElem_toArray, List.getElem_cons_zero, List.getElem_cons_succ, List.setIfInBounds_toArray, List.set_cons_zero, List.set_cons_succ]
  refine wpAnyH_take (i := 4) (v := .int .u64 X1) rfl (by kernel_rfl) (by kernel_rfl) (by kernel_rfl) (fun _ _ _ h => h) (Or.inl ⟨by rfl, fun w _hS => rfl⟩) ⟨kkeep jd c0, kkeep jd c1, kkeep jd c2_⟩ ?_
  try simp only [Act.put, List.getElem_toArray, List.getElem_cons_zero, List.getElem_cons_succ, List.setIfInBounds_toArray, List.set_cons_zero, List.set_cons_succ]
  refine wpAnyH_take (i := 6) (v := .agg #[.bool s, .slice p l c, .slice q k d]) rfl (by kernel_rfl) (by kernel_rfl) (by kernel_rfl) (fun _ _ _ h => h) (Or.inl ⟨by rfl, fun w _hS => exL rfl _ rfl (load43 w B0 s p l c q k d _hS.1 _hS.2.1 _hS.2.2)⟩) ⟨kkeep jd c0, kkeep jd c1, kkeep jd c2_⟩ ?_
  try simp only [Act.put, List.getElem_toArray, List.getElem_cons_zero, List.getElem_cons_succ, List.setIfInBounds_toArray, List.set_cons_zero, List.set_cons_succ]
  refine wpAnyH_ready (rs := [5]) (by kernel_rfl) (by simp) ?_
  refine AllReadyH.cons rfl (fun K hK => ?_) AllReadyH.nil
  rw [if_pos (by rfl)]
  go_simp
  refine (hbL _).mono ?_
  rintro e W3 ⟨s2, p2, l2, c2, q2, k2, d2, rfl, D2, g3⟩
  have j3 := jd.trans g3
  have k3 := kd.trans g3
  have hcL9 := hcL W3 s2 p2 l2 c2 q2 k2 d2 _ k3 D2
  go_wp2_with fail
  refine hK.out _ _ ⟨kkeep j3 c0, kkeep j3 c1, kkeep j3 c2_⟩ (fun _ => ?_)
  clear hK K
  try simp only [Act.put, List.getElem_toArray, List.getElem_cons_zero, List.getElem_cons_succ, List.setIfInBounds_toArray, List.set_cons_zero, List.set_cons_succ]
  refine wpAnyH_ready (rs := [7]) (by kernel_rfl) (by simp) ?_
  refine AllReadyH.cons rfl (fun K hK => ?_) AllReadyH.nil
  rw [if_pos (by rfl)]
  go_simp
  refine hcL9.mono ?_
  rintro e W4 ⟨rfl, g4⟩
  have j4 := j3.trans g4
  have k4 := k3.trans g4
  go_wp2_with fail
  refine hK.out _ _ ⟨kkeep j4 c0, kkeep j4 c1, kkeep j4 c2_⟩ (fun _ => ?_)
  clear hK K
  try simp only [Act.put, List.getElem_toArray, List.getElem_cons_zero, List.getElem_cons_succ, List.setIfInBounds_toArray, List.set_cons_zero, List.set_cons_succ]
  refine wpAnyH_take (i := 8) (v := .bool true) rfl (by kernel_rfl) (by kernel_rfl) (by kernel_rfl) (fun _ _ _ h => h) (Or.inl ⟨by rfl, fun w _hS => rfl⟩) ⟨kkeep j4 c0, kkeep j4 c1, kkeep j4 c2_⟩ ?_
  try simp only [Act.put, List.getElem_toArray, List.getElem_cons_zero, List.getElem_cons_succ, List.setIfInBounds_toArray, List.set_cons_zero, List.set_cons_succ]
  refine wpAnyH_take (i := 9) (v := .bool true) rfl (by kernel_rfl) (by kernel_rfl) (by kernel_rfl) (fun _ _ _ h => h) (Or.inl ⟨by rfl, fun w _hS => rfl⟩) ⟨kkeep j4 c0, kkeep j4 c1, kkeep j4 c2_⟩ ?_
  try simp only [Act.put, List.getElem_toArray, List.getElem_cons_zero, List.getElem_cons_succ, List.setIfInBounds_toArray, List.set_cons_zero, List.set_cons_succ]
  refine wpAnyH_take (i := 10) (v := .bool true) rfl (by kernel_rfl) (by kernel_rfl) (by kernel_rfl) (fun _ _ _ h => h) (Or.inl ⟨by rfl, fun w _hS => rfl⟩) ⟨kkeep j4 c0, kkeep j4 c1, kkeep j4 c2_⟩ ?_
  try simp only [Act.put, List.getElem_toArray, List.getElem_cons_zero, List.getElem_cons_succ, List.setIfInBounds_toArray, List.set_cons_zero, List.set_cons_succ]
  refine wpAnyH_take (i := 11) (v := .int .u64 X2) rfl (by kernel_rfl) (by kernel_rfl) (by kernel_rfl) (fun _ _ _ h => h) (Or.inl ⟨by rfl, fun w _hS => rfl⟩) ⟨kkeep j4 c0, kkeep j4 c1, kkeep j4 c2_⟩ ?_
  try simp only [Act.put, List.getElem_toArray, List.getElem_cons_zero, List.getElem_cons_succ, List.setIfInBounds_toArray, List.set_cons_zero, List.set_cons_succ]
  refine wpAnyH_ready (rs := [12]) (by kernel_rfl) (by simp) ?_
  refine AllReadyH.cons rfl (fun K hK => ?_) AllReadyH.nil
  rw [if_pos (by rfl)]
  go_simp
  refine (hfH _).mono ?_
  rintro e w' ⟨rfl, hw'⟩; obtain rfl := hw'.symm; clear hw'
  go_wp2_with fail
  refine hK.out _ _ ⟨kkeep j4 c0, kkeep j4 c1, kkeep j4 c2_⟩ (fun _ => ?_)
  clear hK K
  try simp only [Act.put, List.getElem_toArray, List.getElem_cons_zero, List.getElem_cons_succ, List.setIfInBounds_toArray, List.set_cons_zero, List.set_cons_succ]
  refine wpAnyH_take (i := 13) (v := .bool true) rfl (by kernel_rfl) (by kernel_rfl) (by kernel_rfl) (fun _ _ _ h => h) (Or.inl ⟨by rfl, fun w _hS => rfl⟩) ⟨kkeep j4 c0, kkeep j4 c1, kkeep j4 c2_⟩ ?_
  try simp only [Act.put, List.getElem_toArray, List.getElem_cons_zero, List.getElem_cons_succ, List.setIfInBounds_toArray, List.set_cons_zero, List.set_cons_succ]
  refine wpAnyH_take (i := 14) (v := .bool true) rfl (by kernel_rfl) (by kernel_rfl) (by kernel_rfl) (fun _ _ _ h => h) (Or.inl ⟨by rfl, fun w _hS => rfl⟩) ⟨kkeep j4 c0, kkeep j4 c1, kkeep j4 c2_⟩ ?_
  try simp only [Act.put, List.getElem_toArray, List.getElem_cons_zero, List.getElem_cons_succ, List.setIfInBounds_toArray, List.set_cons_zero, List.set_cons_succ]
  refine wpAnyH_take (i := 15) (v := undef) rfl (by kernel_rfl) (by kernel_rfl) (by kernel_rfl) (fun _ _ _ h => h) (Or.inr ⟨by rfl, rfl⟩) ⟨kkeep j4 c0, kkeep j4 c1, kkeep j4 c2_⟩ ?_
  try simp only [Act.put, List.getElem_toArray, List.getElem_cons_zero, List.getElem_cons_succ, List.setIfInBounds_toArray, List.set_cons_zero, List.set_cons_succ]
  refine wpAnyH_take (i := 16) (v := undef) rfl (by kernel_rfl) (by kernel_rfl) (by kernel_rfl) (fun _ _ _ h => h) (Or.inr ⟨by rfl, rfl⟩) ⟨kkeep j4 c0, kkeep j4 c1, kkeep j4 c2_⟩ ?_
  try simp only [Act.put, List.getElem_toArray, List.getElem_cons_zero, List.getElem_cons_succ, List.setIfInBounds_toArray, List.set_cons_zero, List.set_cons_succ]
  refine wpAnyH_ready (rs := [17]) (by kernel_rfl) (by simp) ?_
  refine AllReadyH.cons rfl (fun K hK => ?_) AllReadyH.nil
  refine if_no (by rfl) ?_
  refine hK.out _ _ ⟨kkeep j4 c0, kkeep j4 c1, kkeep j4 c2_⟩ (fun _ => ?_)
  clear hK K
  try simp only [Act.put, List.getElem_toArray, List.getElem_cons_zero, List.getElem_cons_succ, List.setIfInBounds_toArray, List.set_cons_zero, List.set_cons_succ]
  refine wpAnyH_ready (rs := [18]) (by kernel_rfl) (by simp) ?_
  refine AllReadyH.cons rfl (fun K hK => ?_) AllReadyH.nil
  refine if_no (by rfl) ?_
  refine hK.out _ _ ⟨kkeep j4 c0, kkeep j4 c1, kkeep j4 c2_⟩ (fun _ => ?_)
  clear hK K
  try simp only [Act.put, List.getElem_toArray, List.getElem_cons_zero, List.getElem_cons_succ, List.setIfInBounds_toArray, List.set_cons_zero, List.set_cons_succ]
  refine wpAnyH_take (i := 19) (v := undef) rfl (by kernel_rfl) (by kernel_rfl) (by kernel_rfl) (fun _ _ _ h => h) (Or.inr ⟨by rfl, rfl⟩) ⟨kkeep j4 c0, kkeep j4 c1, kkeep j4 c2_⟩ ?_
  try simp only [Act.put, List.getElem_toArray, List.getElem_cons_zero, List.getElem_cons_succ, List.setIfInBounds_toArray, List.set_cons_zero, List.set_cons_succ]
  refine wpAnyH_take (i := 20) (v := .bool true) rfl (by kernel_rfl) (by kernel_rfl) (by kernel_rfl) (fun _ _ _ h => h) (Or.inl ⟨by rfl, fun w _hS => rfl⟩) ⟨kkeep j4 c0, kkeep j4 c1, kkeep j4 c2_⟩ ?_
  try simp only [Act.put, List.getElem_toArray, List.getElem_cons_zero, List.getElem_cons_succ, List.setIfInBounds_toArray, List.set_cons_zero, List.set_cons_succ]
  refine wpAnyH_take (i := 21) (v := .bool true) rfl (by kernel_rfl) (by kernel_rfl) (by kernel_rfl) (fun _ _ _ h => h) (Or.inl ⟨by rfl, fun w _hS => rfl⟩) ⟨kkeep j4 c0, kkeep j4 c1, kkeep j4 c2_⟩ ?_
  try simp only [Act.put, List.getElem_toArray, List.getElem_cons_zero, List.getElem_cons_succ, List.setIfInBounds_toArray, List.set_cons_zero, List.set_cons_succ]
  refine wpAnyH_take (i := 22) (v := .bool true) rfl (by kernel_rfl) (by kernel_rfl) (by kernel_rfl) (fun _ _ _ h => h) (Or.inl ⟨by rfl, fun w _hS => rfl⟩) ⟨kkeep j4 c0, kkeep j4 c1, kkeep j4 c2_⟩ ?_
  try simp only [Act.put, List.getElem_toArray, List.getElem_cons_zero, List.getElem_cons_succ, List.setIfInBounds_toArray, List.set_cons_zero, List.set_cons_succ]
  refine wpAnyH_done (by kernel_rfl) ?_ _
  go_wp2
  exact bodyPost_ret (v := .bool true) (by simp [results, Tryz.results42, go_sem]) rfl ⟨rfl, k4⟩
set_option maxRecDepth 20000 in
set_option maxHeartbeats 2000000 in
theorem aboutIF_ (PP : Nat → World → Bool → Option Addr → Nat → Nat → Option Addr → Nat → Nat → Nat → Prop) (X1 X2 : Int) (s : Bool) (p : Option Addr) (l c : Nat) (q : Option Addr) (k d : Nat) (w : World) (t1 : (X1 == 9221120237041090561) = false) (t2 : (X2 == 9221120237041090561) = false) (t3 : (X1 == 9218868437227405312) = false) (t4 : (X2 == 18442240474082181120) = false) (t5 : (X1 == 9223372036854775808) = false) (t6 : (X2 == 9223372036854775808) = false) (e9 : (X1 == X2) = false) (hst : ∀ W : World, Calls Tryz.prog 79 #[.int .u64 X1] W fun e w' => e = .returned (.int .u64 X2) ∧ w' = W) (hfL : ∀ W : World, Calls Tryz.prog 63 #[.int .u64 X1] W fun e w' => e = .returned (.bool false) ∧ w' = W) (hfH : ∀ W : World, Calls Tryz.prog 63 #[.int .u64 X2] W fun e w' => e = .returned (.bool true) ∧ w' = W) (hbH : ∀ W : World, Calls Tryz.prog 38 #[.int .u64 X2] W fun e w' => ∃ (s2 : Bool) (p2 : Option Addr) (l2 c2 : Nat) (q2 : Option Addr) (k2 d2 : Nat), e = .returned (.agg #[.bool s2, .slice p2 l2 c2, .slice q2 k2 d2]) ∧ PP W.heap.size w' s2 p2 l2 c2 q2 k2 d2 1 ∧ Kp W w') (hcH : ∀ (W : World) (s2 : Bool) (p2 : Option Addr) (l2 c2 : Nat) (q2 : Option Addr) (k2 d2 : Nat) (b2 : Nat), Kp w W → PP b2 W s2 p2 l2 c2 q2 k2 d2 1 → Calls Tryz.prog 78 #[.agg #[.bool s, .slice p l c, .slice q k d], .agg #[.bool s2, .slice p2 l2 c2, .slice q2 k2 d2]] W fun e w' => e = .returned (.int .i64 (-1)) ∧ Kp W w') : Calls Tryz.prog 42 #[.agg #[.bool s, .slice p l c, .slice q k d], .int .u64 X1, .int .u64 X2] w fun e w' => e = .returned (.bool true) ∧ Kp w w' := by
  have kw : Kp w (w.alloc (.cells #[.bool s, .slice p l c, .slice q k d] 43)) := (Kp.refl w).alloc _
  have c0 : (w.alloc (.cells #[.bool s, .slice p l c, .slice q k d] 43)).cell? ⟨w.heap.size, 0, none⟩ = some (.bool s) := by simp [go_sem]
  have c1 : (w.alloc (.cells #[.bool s, .slice p l c, .slice q k d] 43)).cell? ⟨w.heap.size, 1, none⟩ = some (.slice p l c) := by simp [go_sem]
  have c2_ : (w.alloc (.cells #[.bool s, .slice p l c, .slice q k d] 43)).cell? ⟨w.heap.size, 2, none⟩ = some (.slice q k d) := by simp [go_sem]
  go_enter Tryz.func42, Tryz.ntmps42
  go_upto_region 7 with (first | (go_at_call 79; refine (hst _).mono ?_; rintro e w' ⟨rfl, hw'⟩; obtain rfl := hw'.symm; clear hw'))
  generalize w.alloc (.cells #[.bool s, .slice p l c, .slice q k d] 43) = W0 at *
  generalize w.heap.size = B0 at c0 c1 c2_ ⊢
  have kd : Kp w W0.drew := kw.drew
  have jd : Kp W0.drew W0.drew := Kp.refl _
  have c0 : W0.drew.cell? ⟨B0, 0, none⟩ = some (.bool s) := c0
  have c1 : W0.drew.cell? ⟨B0, 1, none⟩ = some (.slice p l c) := c1
  have c2_ : W0.drew.cell? ⟨B0, 2, none⟩ = some (.slice q k d) := c2_
  refine wp_region_held_drew (S := (fun w' : World => w'.cell? ⟨B0, 0, none⟩ = some (.bool s) ∧ w'.cell? ⟨B0, 1, none⟩ = some (.slice p l c) ∧ w'.cell? ⟨B0, 2, none⟩ = some (.slice q k d))) (by kernel_rfl) ⟨c0, c1, c2_⟩ (fun _ => ?_)
  refine wpAnyH_take (i := 0) (v := .int .u64 X1) rfl (by kernel_rfl) (by kernel_rfl) (by kernel_rfl) (fun _ _ _ h => h) (Or.inl ⟨by rfl, fun w _hS => rfl⟩) ⟨kkeep jd c0, kkeep jd c1, kkeep jd c2_⟩ ?_
  try simp only [Act.put, List.getElem_toArray, List.getElem_cons_zero, List.getElem_cons_succ, List.setIfInBounds_toArray, List.set_cons_zero, List.set_cons_succ]
  refine wpAnyH_ready (rs := [1]) (by kernel_rfl) (by simp) ?_
  refine AllReadyH.cons rfl (fun K hK => ?_) AllReadyH.nil
  rw [if_pos (by rfl)]
  go_simp
  refine (hfL _).mono ?_
  rintro e w' ⟨rfl, hw'⟩; obtain rfl := hw'.symm; clear hw'
  go_wp2_with fail
  refine hK.out _ _ ⟨kkeep jd c0, kkeep jd c1, kkeep jd c2_⟩ (fun _ => ?_)
  clear hK K
  try simp only [Act.put, List.getElem_toArray, List.getElem_cons_zero, List.getElem_cons_succ, List.setIfInBounds_toArray, List.set_cons_zero, List.set_cons_succ]
  refine wpAnyH_take (i := 2) (v := .bool true) rfl (by kernel_rfl) (by kernel_rfl) (by kernel_rfl) (fun _ _ _ h => h) (Or.inl ⟨by rfl, fun w _hS => rfl⟩) ⟨kkeep jd c0, kkeep jd c1, kkeep jd c2_⟩ ?_
  try simp only [Act.put, List.getElem_toArray, List.getElem_cons_zero, List.getElem_cons_succ, List.setIfInBounds_toArray, List.set_cons_zero, List.set_cons_succ]
  refine wpAnyH_take (i := 3) (v := .bool true) rfl (by kernel_rfl) (by kernel_rfl) (by kernel_rfl) (fun _ _ _ h => h) (Or.inl ⟨by rfl, fun w _hS => rfl⟩) ⟨kkeep jd c0, kkeep jd c1, kkeep jd c2_⟩ ?_
  try simp only [Act.put, List.getElem_toArray, List.getElem_cons_zero, List.getElem_cons_succ, List.setIfInBounds_toArray, List.set_cons_zero, List.set_cons_succ]
  refine wpAnyH_take (i := 4) (v := undef) rfl (by kernel_rfl) (by kernel_rfl) (by kernel_rfl) (fun _ _ _ h => h) (Or.inr ⟨by rfl, rfl⟩) ⟨kkeep jd c0, kkeep jd c1, kkeep jd c2_⟩ ?_
  try simp only [Act.put, List.getElem_toArray, List.getElem_cons_zero, List.getElem_cons_succ, List.setIfInBounds_toArray, List.set_cons_zero, List.set_cons_succ]
  refine wpAnyH_take (i := 6) (v := undef) rfl (by kernel_rfl) (by kernel_rfl) (by kernel_rfl) (fun _ _ _ h => h) (Or.inr ⟨by rfl, rfl⟩) ⟨kkeep jd c0, kkeep jd c1, kkeep jd c2_⟩ ?_
  try simp only [Act.put, List.getElem_toArray, List.getElem_cons_zero, List.getElem_cons_succ, List.setIfInBounds_toArray, List.set_cons_zero, List.set_cons_succ]
  refine wpAnyH_ready (rs := [5]) (by kernel_rfl) (by simp) ?_
  refine AllReadyH.cons rfl (fun K hK => ?_) AllReadyH.nil
  refine if_no (by rfl) ?_
  refine hK.out _ _ ⟨kkeep jd c0, kkeep jd c1, kkeep jd c2_⟩ (fun _ => ?_)
  clear hK K
  try simp only [Act.put, List.getElem_toArray, List.getElem_cons_zero, List.getElem_cons_succ, List.setIfInBounds_toArray, List.set_cons_zero, List.set_cons_succ]
  refine wpAnyH_ready (rs := [7]) (by kernel_rfl) (by simp) ?_
  refine AllReadyH.cons rfl (fun K hK => ?_) AllReadyH.nil
  refine if_no (by rfl) ?_
  refine hK.out _ _ ⟨kkeep jd c0, kkeep jd c1, kkeep jd c2_⟩ (fun _ => ?_)
  clear hK K
  try simp only [Act.put, List.getElem_toArray, List.getElem_cons_zero, List.getElem_cons_succ, List.setIfInBounds_toArray, List.set_cons_zero, List.set_cons_succ]
  refine wpAnyH_take (i := 8) (v := undef) rfl (by kernel_rfl) (by kernel_rfl) (by kernel_rfl) (fun _ _ _ h => h) (Or.inr ⟨by rfl, rfl⟩) ⟨kkeep jd c0, kkeep jd c1, kkeep jd c2_⟩ ?_
  try simp only [Act.put, List.getElem_toArray, List.getElem_cons_zero, List.getElem_cons_succ, List.setIfInBounds_toArray, List.set_cons_zero, List.set_cons_succ]
  refine wpAnyH_take (i := 9) (v := .bool true) rfl (by kernel_rfl) (by kernel_rfl) (by kernel_rfl) (fun _ _ _ h => h) (Or.inl ⟨by rfl, fun w _hS => rfl⟩) ⟨kkeep jd c0, kkeep jd c1, kkeep jd c2_⟩ ?_
  try simp only [Act.put, List.getElem_toArray, List.getElem_cons_zero, List.getElem_cons_succ, List.setIfInBounds_toArray, List.set_cons_zero, List.set_cons_succ]
  refine wpAnyH_take (i := 10) (v := .bool true) rfl (by kernel_rfl) (by kernel_rfl) (by kernel_rfl) (fun _ _ _ h => h) (Or.inl ⟨by rfl, fun w _hS => rfl⟩) ⟨kkeep jd c0, kkeep jd c1, kkeep jd c2_⟩ ?_
  try simp only [Act.put, List.getElem_toArray, List.getElem_cons_zero, List.getElem_cons_succ, List.setIfInBounds_toArray, List.set_cons_zero, List.set_cons_succ]
  refine wpAnyH_take (i := 11) (v := .int .u64 X2) rfl (by kernel_rfl) (by kernel_rfl) (by kernel_rfl) (fun _ _ _ h => h) (Or.inl ⟨by rfl, fun w _hS => rfl⟩) ⟨kkeep jd c0, kkeep jd c1, kkeep jd c2_⟩ ?_
  try simp only [Act.put, List.getElem_toArray, List.getElem_cons_zero, List.getElem_cons_succ, List.setIfInBounds_toArray, List.set_cons_zero, List.set_cons_succ]
  refine wpAnyH_ready (rs := [12]) (by kernel_rfl) (by simp) ?_
  refine AllReadyH.cons rfl (fun K hK => ?_) AllReadyH.nil
  rw [if_pos (by rfl)]
  go_simp
  refine (hfH _).mono ?_
  rintro e w' ⟨rfl, hw'⟩; obtain rfl := hw'.symm; clear hw'
  go_wp2_with fail
  refine hK.out _ _ ⟨kkeep jd c0, kkeep jd c1, kkeep jd c2_⟩ (fun _ => ?_)
  clear hK K
  try simp only [Act.put, List.getElem_toArray, List.getElem_cons_zero, List.getElem_cons_succ, List.setIfInBounds_toArray, List.set_cons_zero, List.set_cons_succ]
  refine wpAnyH_take (i := 13) (v := .bool false) rfl (by kernel_rfl) (by kernel_rfl) (by kernel_rfl) (fun _ _ _ h => h) (Or.inl ⟨by rfl, fun w _hS => rfl⟩) ⟨kkeep jd c0, kkeep jd c1, kkeep jd c2_⟩ ?_
  try simp only [Act.put, List.getElem_toArray, List.getElem_cons_zero, List.getElem_cons_succ, List.setIfInBounds_toArray, List.set_cons_zero, List.set_cons_succ]
  refine wpAnyH_take (i := 14) (v := .bool false) rfl (by kernel_rfl) (by kernel_rfl) (by kernel_rfl) (fun _ _ _ h => h) (Or.inl ⟨by rfl, fun w _hS => rfl⟩) ⟨kkeep jd c0, kkeep jd c1, kkeep jd c2_⟩ ?_
  try simp only [Act.put, List.getElem_toArray, List.getElem_cons_zero, List.getElem_cons_succ, List.setIfInBounds_toArray, List.set_cons_zero, List.set_cons_succ]
  refine wpAnyH_take (i := 15) (v := .agg #[.bool s, .slice p l c, .slice q k d]) rfl (by kernel_rfl) (by kernel_rfl) (by kernel_rfl) (fun _ _ _ h => h) (Or.inl ⟨by rfl, fun w _hS => exL rfl _ rfl (load43 w B0 s p l c q k d _hS.1 _hS.2.1 _hS.2.2)⟩) ⟨kkeep jd c0, kkeep jd c1, kkeep jd c2_⟩ ?_
  try simp only [Act.put, List.getElem_toArray, List.getElem_cons_zero, List.getElem_cons_succ, List.setIfInBounds_toArray, List.set_cons_zero, List.set_cons_succ]
  refine wpAnyH_take (i := 16) (v := .int .u64 X2) rfl (by kernel_rfl) (by kernel_rfl) (by kernel_rfl) (fun _ _ _ h => h) (Or.inl ⟨by rfl, fun w _hS => rfl⟩) ⟨kkeep jd c0, kkeep jd c1, kkeep jd c2_⟩ ?_
  try simp only [Act.put, List.getElem_toArray, List.getElem_cons_zero, List.getElem_cons_succ, List.setIfInBounds_toArray, List.set_cons_zero, List.set_cons_succ]
  refine wpAnyH_ready (rs := [17]) (by kernel_rfl) (by simp) ?_
  refine AllReadyH.cons rfl (fun K hK => ?_) AllReadyH.nil
  rw [if_pos (by rfl)]
  go_simp
  refine (hbH _).mono ?_
  rintro e W5 ⟨s2, p2, l2, c2, q2, k2, d2, rfl, D3, g5⟩
  have j5 := jd.trans g5
  have k5 := kd.trans g5
  have hcH9 := hcH W5 s2 p2 l2 c2 q2 k2 d2 _ k5 D3
  go_wp2_with fail
  refine hK.out _ _ ⟨kkeep j5 c0, kkeep j5 c1, kkeep j5 c2_⟩ (fun _ => ?_)
  clear hK K
  try simp only [Act.put, List.getElem_toArray, List.getElem_cons_zero, List.getElem_cons_succ, List.setIfInBounds_toArray, List.set_cons_zero, List.set_cons_succ]
  refine wpAnyH_ready (rs := [18]) (by kernel_rfl) (by simp) ?_
  refine AllReadyH.cons rfl (fun K hK => ?_) AllReadyH.nil
  rw [if_pos (by rfl)]
  go_simp
  refine hcH9.mono ?_
  rintro e W6 ⟨rfl, g6⟩
  have j6 := j5.trans g6
  have k6 := k5.trans g6
  go_wp2_with fail
  refine hK.out _ _ ⟨kkeep j6 c0, kkeep j6 c1, kkeep j6 c2_⟩ (fun _ => ?_)
  clear hK K
  try simp only [Act.put, List.getElem_toArray, List.getElem_cons_zero, List.getElem_cons_succ, List.setIfInBounds_toArray, List.set_cons_zero, List.set_cons_succ]
  refine wpAnyH_take (i := 19) (v := .bool true) rfl (by kernel_rfl) (by kernel_rfl) (by kernel_rfl) (fun _ _ _ h => h) (Or.inl ⟨by rfl, fun w _hS => rfl⟩) ⟨kkeep j6 c0, kkeep j6 c1, kkeep j6 c2_⟩ ?_
  try simp only [Act.put, List.getElem_toArray, List.getElem_cons_zero, List.getElem_cons_succ, List.setIfInBounds_toArray, List.set_cons_zero, List.set_cons_succ]
  refine wpAnyH_take (i := 20) (v := .bool true) rfl (by kernel_rfl) (by kernel_rfl) (by kernel_rfl) (fun _ _ _ h => h) (Or.inl ⟨by rfl, fun w _hS => rfl⟩) ⟨kkeep j6 c0, kkeep j6 c1, kkeep j6 c2_⟩ ?_
  try simp only [Act.put, List.getElem_toArray, List.getElem_cons_zero, List.getElem_cons_succ, List.setIfInBounds_toArray, List.set_cons_zero, List.set_cons_succ]
  refine wpAnyH_take (i := 21) (v := .bool true) rfl (by kernel_rfl) (by kernel_rfl) (by kernel_rfl) (fun _ _ _ h => h) (Or.inl ⟨by rfl, fun w _hS => rfl⟩) ⟨kkeep j6 c0, kkeep j6 c1, kkeep j6 c2_⟩ ?_
  try simp only [Act.put, List.getElem_toArray, List.getElem_cons_zero, List.getElem_cons_succ, List.setIfInBounds_toArray, List.set_cons_zero, List.set_cons_succ]
  refine wpAnyH_take (i := 22) (v := .bool true) rfl (by kernel_rfl) (by kernel_rfl) (by kernel_rfl) (fun _ _ _ h => h) (Or.inl ⟨by rfl, fun w _hS => rfl⟩) ⟨kkeep j6 c0, kkeep j6 c1, kkeep j6 c2_⟩ ?_
  try simp only [Act.put, List.getElem_toArray, List.getElem_cons_zero, List.getElem_cons_succ, List.setIfInBounds_toArray, List.set_cons_zero, List.set_cons_succ]
  refine wpAnyH_done (by kernel_rfl) ?_ _
  go_wp2
  exact bodyPost_ret (v := .bool true) (by simp [results, Tryz.results42, go_sem]) rfl ⟨rfl, k6⟩
end Go.Proofs.YteedfmghgkmofaaGreatDoor
namespace Go.Proofs.YteedfmghgkmofaaGreatDoor
open Go.RowKit
/-- a pattern, as one of a number -/
def nmP (X : Nat) : Nat := if X % 9223372036854775808 < 9218868437227405312 then X else X &&& 9227875636482146303
theorem nmP_fin (X : Nat) : nmP X % 9223372036854775808 < 9218868437227405312 := by
  unfold nmP
  by_cases c : X % 9223372036854775808 < 9218868437227405312
  · rw [if_pos c]; exact c
  · rw [if_neg c]
    have e : (X &&& 9227875636482146303) % 2 ^ 63 = X &&& 4503599627370495 := by
      rw [← Nat.and_two_pow_sub_one_eq_mod, Nat.and_assoc]; rfl
    have h : X &&& 4503599627370495 ≤ 4503599627370495 := Nat.and_le_right
    rw [show (2 : Nat) ^ 63 = 9223372036854775808 from by decide] at e
    omega
theorem nmP_lt (X : Nat) (h : X < 18446744073709551616) : nmP X < 18446744073709551616 := by
  unfold nmP
  by_cases c : X % 9223372036854775808 < 9218868437227405312
  · rw [if_pos c]; exact h
  · rw [if_neg c]
    have : X &&& 9227875636482146303 ≤ X := Nat.and_le_left
    omega
set_option maxRecDepth 20000 in
set_option maxHeartbeats 400000 in
theorem number4_ (X : Nat) (hX : X < 18446744073709551616) (w : World) : Calls Tryz.prog 37 #[.int .u64 (X : Int)] w fun e w' => e = .returned (.int .u64 ((nmP X : Nat) : Int)) ∧ w' = w := by
  have hf := fin4_ X hX
  unfold nmP
  by_cases c : X % 9223372036854775808 < 9218868437227405312
  · rw [if_pos c]
    rw [decide_eq_true c] at hf
    clear c hX
    go_enter Tryz.func37, Tryz.ntmps37
    go_wp2_with (first | (go_at_call 63; refine (hf _).mono ?_; rintro e w' ⟨rfl, hw'⟩; obtain rfl := hw'.symm; clear hw'))
    exact bodyPost_ret (v := .int .u64 (X : Int)) (by simp [results, Tryz.results37, go_sem]) rfl ⟨rfl, rfl⟩
  · rw [if_neg c]
    rw [decide_eq_false c] at hf
    have h1 := u64_andNot_nat X 9218868437227405312 hX (by decide)
    rw [show 18446744073709551615 - 9218868437227405312 = 9227875636482146303 from rfl, show (((9218868437227405312 : Nat) : Int)) = 9218868437227405312 from rfl] at h1
    generalize X &&& 9227875636482146303 = Z at *
    clear c hX
    go_enter Tryz.func37, Tryz.ntmps37
    go_wp2_with (first | (go_at_call 63; refine (hf _).mono ?_; rintro e w' ⟨rfl, hw'⟩; obtain rfl := hw'.symm; clear hw'))
    exact bodyPost_ret (v := .int .u64 (Z : Int)) (by simp [results, Tryz.results37, go_sem]) rfl ⟨rfl, rfl⟩
theorem tkS_fin (X Y : Nat) (pr : Bool) (hX : X % 9223372036854775808 < 9218868437227405312) (hY : Y % 9223372036854775808 < 9218868437227405312) : tkS X Y pr = 0 := by
  unfold tkS
  cases pr
  · simp only [Bool.false_eq_true, if_false]; unfold xS tS; rw [if_neg (by omega), if_neg (by omega)]
  · simp only [if_true]; unfold yS; rw [if_pos ⟨hX, hY⟩]
end Go.Proofs.YteedfmghgkmofaaGreatDoor
namespace Go.Proofs.YteedfmghgkmofaaGreatDoor
open Go.RowKit
/-- what the terms, as numbers, add -/
def tnV (K : Nat) (t : Tm) : Int := tkV K (nmP t.1) (nmP t.2.1) t.2.2
def tsV (K : Nat) : List Tm → Int
  | [] => 0
  | t :: L => tnV K t + tsV K L
theorem tsV_take (K : Nat) (L : List Tm) : ∀ i, i < L.length → tsV K (L.take (i + 1)) = tsV K (L.take i) + tnV K (L.getD i (0, 0, false)) := by
  induction L with
  | nil => intro i h; simp at h
  | cons x xs ih =>
    intro i h
    cases i with
    | zero => simp [tsV]
    | succ i =>
      have e := ih i (by simpa using h)
      simp only [List.take_succ_cons, tsV, List.getD_cons_succ] at e ⊢
      rw [e]; omega
theorem ftake4_ (X Y : Nat) (pr : Bool) (K : Nat) (hK : K = 1074) (hX : X < 18446744073709551616) (hY : Y < 18446744073709551616) (fX : X % 9223372036854775808 < 9218868437227405312) (fY : Y % 9223372036854775808 < 9218868437227405312) (b : Nat) (V : Int) (k : Nat) (hk : k < 4611686018427387904) (w : World) (h : Fs w b V k K) : Calls Tryz.prog 34 #[.pointer (some ⟨b, 0, none⟩), .agg #[.int .u64 (X : Int), .int .u64 (Y : Int), .bool pr]] w fun e w' => (∃ v, e = .returned v) ∧ Fs w' b (V + tkV K X Y pr) (k + 1) K ∧ Kb b w w' := by
  obtain ⟨ws, h1, h2, h3, h4⟩ := h
  refine (take4_ X Y pr K hK hX hY b V k 0 hk w ⟨ws, h1, h2⟩).mono ?_
  rintro e w' ⟨hv, ⟨ws', q1, q2⟩, q3⟩
  rw [tkS_fin X Y pr fX fY] at q2
  refine ⟨hv, ⟨ws', q1, q2, by omega, Fs.grow k V _ K h4 (tkV_le K hK X Y pr)⟩, q3⟩
end Go.Proofs.YteedfmghgkmofaaGreatDoor
namespace Go.Proofs.YteedfmghgkmofaaGreatDoor
open Go.RowKit
set_option linter.unusedVariables false
set_option maxRecDepth 20000 in
set_option maxHeartbeats 1000000 in
theorem about4_ (K : Nat) (hK : K = 1074) (V : Int) (C N : Nat) (hC : 0 < C) (hN : N ≤ 200000) (L H : Int) (hA : Ab V C L H) (s : Bool) (p : Option Addr) (l c : Nat) (q : Option Addr) (k d : Nat) (B : Nat) (w : World) (hq : XP B w s p l c q k d V (C * 2 ^ K) N) : Calls Tryz.prog 42 #[.agg #[.bool s, .slice p l c, .slice q k d], .int .u64 ((pz L : Nat) : Int), .int .u64 ((pz H : Nat) : Int)] w fun e w' => e = .returned (.bool true) ∧ Kp w w' := by
  have hP := Nat.two_pow_pos K
  have hbd : -9218868437227405312 ≤ L ∧ L ≤ 9218868437227405312 ∧ -9218868437227405312 ≤ H ∧ H ≤ 9218868437227405312 ∧ L < 9218868437227405312 ∧ -9218868437227405312 < H := by rcases hA with h | h <;> omega
  obtain ⟨b1, b2, b3, b4, b5, b6⟩ := hbd
  have nL := pz_ne L b1 b2
  have nH := pz_ne H b3 b4
  have cL : ∀ (x : Int), -9218868437227405312 < L → L < 9218868437227405312 → cmI (vZ L * (C : Int)) V = x → ∀ (W : World) (s2 : Bool) (p2 : Option Addr) (l2 c2 : Nat) (q2 : Option Addr) (k2 d2 : Nat) (b2 : Nat), Kp w W → Dy b2 W s2 p2 l2 c2 q2 k2 d2 (vZ L) K → Calls Tryz.prog 78 #[.agg #[.bool s2, .slice p2 l2 c2, .slice q2 k2 d2], .agg #[.bool s, .slice p l c, .slice q k d]] W fun e w' => e = .returned (.int .i64 x) ∧ Kp W w' := by
    intro x h1 h2 hx W s2 p2 l2 c2 q2 k2 d2 bb g D
    have hl : (vZ L).natAbs < 2 ^ (K + 1024) := iv_lt (decide (L < 0)) L.natAbs K hK (by omega)
    have h := xcmp_ (vZ L) V (2 ^ K) (C * 2 ^ K) (K + 1024) N (by omega) hN s2 p2 l2 c2 q2 k2 d2 s p l c q k d bb B W (D.xp (K + 1024) hl (by omega)) (hq.kp g)
    rw [(cm_scale (vZ L) V C (2 ^ K) hP).1, hx] at h
    exact h
  have cH : ∀ (x : Int), -9218868437227405312 < H → H < 9218868437227405312 → cmI V (vZ H * (C : Int)) = x → ∀ (W : World) (s2 : Bool) (p2 : Option Addr) (l2 c2 : Nat) (q2 : Option Addr) (k2 d2 : Nat) (b2 : Nat), Kp w W → Dy b2 W s2 p2 l2 c2 q2 k2 d2 (vZ H) K → Calls Tryz.prog 78 #[.agg #[.bool s, .slice p l c, .slice q k d], .agg #[.bool s2, .slice p2 l2 c2, .slice q2 k2 d2]] W fun e w' => e = .returned (.int .i64 x) ∧ Kp W w' := by
    intro x h1 h2 hx W s2 p2 l2 c2 q2 k2 d2 bb g D
    have hl : (vZ H).natAbs < 2 ^ (K + 1024) := iv_lt (decide (H < 0)) H.natAbs K hK (by omega)
    have h := xcmp_ V (vZ H) (C * 2 ^ K) (2 ^ K) N (K + 1024) hN (by omega) s p l c q k d s2 p2 l2 c2 q2 k2 d2 B bb W (hq.kp g) (D.xp (K + 1024) hl (by omega))
    rw [(cm_scale (vZ H) V C (2 ^ K) hP).2, hx] at h
    exact h
  rcases hA with ⟨e1, e2, e3, e4⟩ | ⟨e1, e2, e3, e4, e5⟩
  · subst e1
    exact aboutE_ (fun b W s2 p2 l2 c2 q2 k2 d2 i => Dy b W s2 p2 l2 c2 q2 k2 d2 (if i = 0 then vZ L else vZ L) K) _ _ s p l c q k d w (beq_eq_false_iff_ne.2 nL.1) (beq_eq_false_iff_ne.2 nH.1) (beq_eq_false_iff_ne.2 (nL.2.2.1 (by omega))) (beq_eq_false_iff_ne.2 (nH.2.2.2 (by omega))) (beq_eq_false_iff_ne.2 nL.2.1) (beq_eq_false_iff_ne.2 nH.2.1) (beq_self_eq_true _) (fun W => by have h := fin4_ (pz L) (pz_lt4 L (by omega) (by omega)) W; rw [pz_fin L (by omega) (by omega), decide_eq_true ⟨by omega, by omega⟩] at h; exact h) (fun W => (dyfrom_ (decide (L < 0)) L.natAbs K hK (by omega) W).mono (by rintro e w' ⟨s2, p2, l2, c2, q2, k2, d2, rfl, D, g⟩; exact ⟨s2, p2, l2, c2, q2, k2, d2, rfl, D, g⟩)) (fun W s2 p2 l2 c2 q2 k2 d2 bb g D => cL 0 e2 e3 (by rw [e4]; exact cmI_eq9 V) W s2 p2 l2 c2 q2 k2 d2 bb g D)
  · have hne := pz_inj L H b1 b2 b3 b4 (by omega)
    have hst : ∀ W : World, Calls Tryz.prog 79 #[.int .u64 ((pz L : Nat) : Int)] W fun e w' => e = .returned (.int .u64 ((pz H : Nat) : Int)) ∧ w' = W := fun W => by rw [e1]; exact step4_ L b1 b5 W
    by_cases c1 : -9218868437227405312 < L
    · by_cases cc2 : H < 9218868437227405312
      · exact aboutFF_ (fun b W s2 p2 l2 c2 q2 k2 d2 i => Dy b W s2 p2 l2 c2 q2 k2 d2 (if i = 0 then vZ L else vZ H) K) _ _ s p l c q k d w (beq_eq_false_iff_ne.2 nL.1) (beq_eq_false_iff_ne.2 nH.1) (beq_eq_false_iff_ne.2 (nL.2.2.1 (by omega))) (beq_eq_false_iff_ne.2 (nH.2.2.2 (by omega))) (beq_eq_false_iff_ne.2 nL.2.1) (beq_eq_false_iff_ne.2 nH.2.1) (beq_eq_false_iff_ne.2 hne) hst (fun W => by have h := fin4_ (pz L) (pz_lt4 L (by omega) (by omega)) W; rw [pz_fin L (by omega) (by omega), decide_eq_true ⟨c1, b5⟩] at h; exact h) (fun W => by have h := fin4_ (pz H) (pz_lt4 H (by omega) (by omega)) W; rw [pz_fin H (by omega) (by omega), decide_eq_true ⟨b6, cc2⟩] at h; exact h) (fun W => (dyfrom_ (decide (L < 0)) L.natAbs K hK (by omega) W).mono (by rintro e w' ⟨s2, p2, l2, c2, q2, k2, d2, rfl, D, g⟩; exact ⟨s2, p2, l2, c2, q2, k2, d2, rfl, D, g⟩)) (fun W s2 p2 l2 c2 q2 k2 d2 bb g D => cL (-1) c1 b5 (cmI_lt9 _ _ (e4 c1)) W s2 p2 l2 c2 q2 k2 d2 bb g D) (fun W => (dyfrom_ (decide (H < 0)) H.natAbs K hK (by omega) W).mono (by rintro e w' ⟨s2, p2, l2, c2, q2, k2, d2, rfl, D, g⟩; exact ⟨s2, p2, l2, c2, q2, k2, d2, rfl, D, g⟩)) (fun W s2 p2 l2 c2 q2 k2 d2 bb g D => cH (-1) b6 cc2 (cmI_lt9 _ _ (e5 cc2)) W s2 p2 l2 c2 q2 k2 d2 bb g D)
      · exact aboutFI_ (fun b W s2 p2 l2 c2 q2 k2 d2 i => Dy b W s2 p2 l2 c2 q2 k2 d2 (if i = 0 then vZ L else vZ H) K) _ _ s p l c q k d w (beq_eq_false_iff_ne.2 nL.1) (beq_eq_false_iff_ne.2 nH.1) (beq_eq_false_iff_ne.2 (nL.2.2.1 (by omega))) (beq_eq_false_iff_ne.2 (nH.2.2.2 (by omega))) (beq_eq_false_iff_ne.2 nL.2.1) (beq_eq_false_iff_ne.2 nH.2.1) (beq_eq_false_iff_ne.2 hne) hst (fun W => by have h := fin4_ (pz L) (pz_lt4 L (by omega) (by omega)) W; rw [pz_fin L (by omega) (by omega), decide_eq_true ⟨c1, b5⟩] at h; exact h) (fun W => by have h := fin4_ (pz H) (pz_lt4 H (by omega) (by omega)) W; rw [pz_fin H (by omega) (by omega), decide_eq_false (by omega)] at h; exact h) (fun W => (dyfrom_ (decide (L < 0)) L.natAbs K hK (by omega) W).mono (by rintro e w' ⟨s2, p2, l2, c2, q2, k2, d2, rfl, D, g⟩; exact ⟨s2, p2, l2, c2, q2, k2, d2, rfl, D, g⟩)) (fun W s2 p2 l2 c2 q2 k2 d2 bb g D => cL (-1) c1 b5 (cmI_lt9 _ _ (e4 c1)) W s2 p2 l2 c2 q2 k2 d2 bb g D)
    · have cc2 : H < 9218868437227405312 := by omega
      exact aboutIF_ (fun b W s2 p2 l2 c2 q2 k2 d2 i => Dy b W s2 p2 l2 c2 q2 k2 d2 (if i = 0 then vZ L else vZ H) K) _ _ s p l c q k d w (beq_eq_false_iff_ne.2 nL.1) (beq_eq_false_iff_ne.2 nH.1) (beq_eq_false_iff_ne.2 (nL.2.2.1 (by omega))) (beq_eq_false_iff_ne.2 (nH.2.2.2 (by omega))) (beq_eq_false_iff_ne.2 nL.2.1) (beq_eq_false_iff_ne.2 nH.2.1) (beq_eq_false_iff_ne.2 hne) hst (fun W => by have h := fin4_ (pz L) (pz_lt4 L (by omega) (by omega)) W; rw [pz_fin L (by omega) (by omega), decide_eq_false (by omega)] at h; exact h) (fun W => by have h := fin4_ (pz H) (pz_lt4 H (by omega) (by omega)) W; rw [pz_fin H (by omega) (by omega), decide_eq_true ⟨b6, cc2⟩] at h; exact h) (fun W => (dyfrom_ (decide (H < 0)) H.natAbs K hK (by omega) W).mono (by rintro e w' ⟨s2, p2, l2, c2, q2, k2, d2, rfl, D, g⟩; exact ⟨s2, p2, l2, c2, q2, k2, d2, rfl, D, g⟩)) (fun W s2 p2 l2 c2 q2 k2 d2 bb g D => cH (-1) b6 cc2 (cmI_lt9 _ _ (e5 cc2)) W s2 p2 l2 c2 q2 k2 d2 bb g D)
end Go.Proofs.YteedfmghgkmofaaGreatDoor
namespace Go.Proofs.YteedfmghgkmofaaGreatDoor
open Go.RowKit
set_option linter.unusedVariables false
def H3c (w : World) (b : Nat) (v0 v1 v2 : Value) : Prop := w.cell? ⟨b, 0, none⟩ = some v0 ∧ w.cell? ⟨b, 1, none⟩ = some v1 ∧ w.cell? ⟨b, 2, none⟩ = some v2 ∧ w.frozen? ⟨b, 0, none⟩ = false ∧ w.frozen? ⟨b, 1, none⟩ = false ∧ w.frozen? ⟨b, 2, none⟩ = false
theorem H3c.keep {W w : World} {b : Nat} {v0 v1 v2 : Value} (h : H3c W b v0 v1 v2) (g : Kp W w) : H3c w b v0 v1 v2 := by
  obtain ⟨h0, h1, h2, h3, h4, h5⟩ := h
  exact ⟨kkeep g h0, kkeep g h1, kkeep g h2, (kfro g (cell_lt h0)).trans h3, (kfro g (cell_lt h0)).trans h4, (kfro g (cell_lt h0)).trans h5⟩
theorem H3c.new (w : World) (v0 v1 v2 : Value) (t : TypeId) : H3c (w.alloc (.cells #[v0, v1, v2] t)) w.heap.size v0 v1 v2 := by
  unfold H3c; simp [go_sem]
theorem H3c.lt {w : World} {b : Nat} {v0 v1 v2 : Value} (h : H3c w b v0 v1 v2) : b < w.heap.size := cell_lt h.1
set_option maxRecDepth 20000 in
set_option maxHeartbeats 1000000 in
theorem H3c.put {w : World} {b : Nat} {v0 v1 v2 : Value} (h : H3c w b v0 v1 v2) (u0 u1 u2 : Value) : H3c ((((w.setCell ⟨b, 0, none⟩ u0).setCell ⟨b, 1, none⟩ u1).setCell ⟨b, 2, none⟩ u2)) b u0 u1 u2 := by
  obtain ⟨h0, h1, h2, h3, h4, h5⟩ := h
  unfold H3c; simp [go_sem, h0, h1, h2, h3, h4, h5]
theorem xV_fin (n : Bool) (m K : Nat) (hm : m < 9218868437227405312) : xV (Fq.wD n m) K = tV n m K := by
  obtain ⟨p1, p2⟩ := wD_parts n m (by omega)
  unfold xV; rw [p1, p2, if_pos hm]
theorem yV_fin (n n' : Bool) (m m' : Nat) (hm : m < 9218868437227405312) (hm' : m' < 9218868437227405312) : yV (Fq.wD n m) (Fq.wD n' m') = Iv n m * Iv n' m' := by
  obtain ⟨p1, p2⟩ := wD_parts n m (by omega)
  obtain ⟨p3, p4⟩ := wD_parts n' m' (by omega)
  unfold yV; rw [p1, p2, p3, p4, if_pos ⟨hm, hm'⟩]
theorem own_ne (p : Option Addr) (l c b : Nat) (h : ∀ a, p = some a → a.block ≠ b) : ∀ g, (Value.slice p l c).ownBlock = some g → g ≠ b := by
  intro g hg
  cases p with
  | none => simp [Value.ownBlock] at hg
  | some a => simp [Value.ownBlock] at hg; rw [← hg]; exact h a rfl
theorem Dy.kb {base : Nat} {w w' : World} {s1 : Bool} {p1 : Option Addr} {l1 c1 : Nat} {q1 : Option Addr} {k1 d1 : Nat} {V : Int} {E : Nat} {g : Nat} (h : Dy base w s1 p1 l1 c1 q1 k1 d1 V E) (k : Kb g w w') (hn : NB p1 q1 g) : Dy base w' s1 p1 l1 c1 q1 k1 d1 V E := by
  obtain ⟨a, j, h1, h2, h3⟩ := h
  exact ⟨a, j, h1.kb k (own_ne _ _ _ _ hn.1), h2.kb k (own_ne _ _ _ _ hn.2), h3⟩
theorem H3c.kb {g : Nat} {w w' : World} {b : Nat} {v0 v1 v2 : Value} (h : H3c w b v0 v1 v2) (k : Kb g w w') (hne : b ≠ g) : H3c w' b v0 v1 v2 := by
  have hl := cell_lt h.1
  have hb := k.2.2.2.2 b hl hne
  obtain ⟨h0, h1, h2, h3, h4, h5⟩ := h
  refine ⟨k.arr hne h0, k.arr hne h1, k.arr hne h2, ?_, ?_, ?_⟩
  · rw [← h3]; unfold World.frozen?; simp only [hb]
  · rw [← h4]; unfold World.frozen?; simp only [hb]
  · rw [← h5]; unfold World.frozen?; simp only [hb]
/-- the exact sum: three cells at b that hold V of 2^-E; its rows lie neither there nor at bs -/
def Qs (w : World) (b bs : Nat) (V : Int) (E : Nat) : Prop := ∃ (s1 : Bool) (p1 : Option Addr) (l1 c1 : Nat) (q1 : Option Addr) (k1 d1 : Nat), H3c w b (.bool s1) (.slice p1 l1 c1) (.slice q1 k1 d1) ∧ Dy 0 w s1 p1 l1 c1 q1 k1 d1 V E ∧ NB p1 q1 b ∧ NB p1 q1 bs
theorem Qs.kp {w w' : World} {b bs : Nat} {V : Int} {E : Nat} (h : Qs w b bs V E) (g : Kp w w') : Qs w' b bs V E := by
  obtain ⟨s1, p1, l1, c1, q1, k1, d1, h1, h2, h3⟩ := h
  exact ⟨s1, p1, l1, c1, q1, k1, d1, h1.keep g, h2.kp g, h3⟩
theorem Qs.kb {w w' : World} {b bs : Nat} {V : Int} {E : Nat} (h : Qs w b bs V E) (g : Kb bs w w') (hne : b ≠ bs) : Qs w' b bs V E := by
  obtain ⟨s1, p1, l1, c1, q1, k1, d1, h1, h2, h3, h4⟩ := h
  exact ⟨s1, p1, l1, c1, q1, k1, d1, h1.kb g hne, h2.kb g h4, h3, h4⟩
theorem tb_b (K k : Nat) (V : Int) (hK : K = 1074) (hk : k ≤ 1000) (h : V.natAbs ≤ k * tb K) : V.natAbs < 2 ^ (K + K + 2058) := by
  have e : 2 ^ (K + K + 2058) = 1024 * tb K := by
    unfold tb
    rw [show K + K + 2058 = 10 + (2 * K + 2048) from by omega, Nat.pow_add]
  rw [e]
  have h1 : k * tb K ≤ 1000 * tb K := Nat.mul_le_mul hk (Nat.le_refl _)
  have h2 : 0 < tb K := Nat.two_pow_pos _
  omega
theorem fs_b {w : World} {b : Nat} {V : Int} {k K : Nat} (h : Fs w b V k K) (hK : K = 1074) (hk : k ≤ 1000) : V.natAbs < 2 ^ (K + K + 2058) := by
  obtain ⟨ws, -, -, -, h4⟩ := h
  exact tb_b K k V hK hk h4
theorem tk_b (K : Nat) (hK : K = 1074) (X Y : Nat) (pr : Bool) : (tkV K X Y pr).natAbs < 2 ^ (K + K + 2058) := tb_b K 1 _ hK (by decide) (by have := tkV_le K hK X Y pr; omega)
theorem dysign_ (s1 : Bool) (p1 : Option Addr) (l1 c1 : Nat) (q1 : Option Addr) (k1 d1 : Nat) (V : Int) (E B : Nat) (hB : B ≤ 60000) (hV : V.natAbs < 2 ^ B) (b1 : Nat) (w : World) (h : Dy b1 w s1 p1 l1 c1 q1 k1 d1 V E) : Calls Tryz.prog 41 #[.agg #[.bool s1, .slice p1 l1 c1, .slice q1 k1 d1]] w fun e w' => e = .returned (.int .i64 (sgV V)) ∧ Kp w w' := by
  obtain ⟨a, j, h1, h2, ⟨g1, g2, g3⟩, h4⟩ := h
  have ha : a ≤ V.natAbs := by
    have : a * 1 ≤ a * 2 ^ (E - j) := Nat.mul_le_mul (Nat.le_refl _) Nat.one_le_two_pow
    omega
  have hr := rsign_ s1 (.slice p1 l1 c1) (.slice q1 k1 d1) a w h1.ls (by have := (blen_le_iff a B).2 (by omega); omega)
  have e : (if a = 0 then (0 : Int) else if s1 = true then -1 else 1) = sgV V := by
    unfold sgV
    by_cases z : V = 0
    · have : a = 0 := by
        have hp := Nat.two_pow_pos (E - j)
        rw [z] at g3
        rcases Nat.mul_eq_zero.1 (g3.trans (by rfl)) with h | h <;> omega
      rw [if_pos this, if_neg (by omega), if_pos z]
    · have : a ≠ 0 := by
        rintro rfl
        rw [Nat.zero_mul] at g3; omega
      rw [if_neg this, h4 z]
      by_cases n : V < 0
      · rw [if_pos n]; simp [n]
      · rw [if_neg n, if_neg z]; simp [n]
  rw [e] at hr
  exact hr
end Go.Proofs.YteedfmghgkmofaaGreatDoor
