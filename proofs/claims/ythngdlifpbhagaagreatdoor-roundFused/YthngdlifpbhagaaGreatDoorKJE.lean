import Derived.Test.YthngdlifpbhagaaGreatDoorProg
import Derived.Test.YthngdlifpbhagaaGreatDoorKXA0
import Derived.Test.YthngdlifpbhagaaGreatDoorKXM
import Derived.Test.YthngdlifpbhagaaGreatDoorKXY
import Derived.Test.YthngdlifpbhagaaGreatDoorKXQF
import Derived.Test.YthngdlifpbhagaaGreatDoorKQA
import Derived.Test.YthngdlifpbhagaaGreatDoorKQP
import Derived.Test.YthngdlifpbhagaaGreatDoorKXQU
import Derived.Test.YthngdlifpbhagaaGreatDoorKQB
import Derived.Test.YthngdlifpbhagaaGreatDoorKQBT
import Derived.Test.YthngdlifpbhagaaGreatDoorKQJd
import Derived.Test.YthngdlifpbhagaaGreatDoorKHB
import Derived.Test.YthngdlifpbhagaaGreatDoorKLX
import Derived.Test.YthngdlifpbhagaaGreatDoorKMR7Q
import Derived.Test.YthngdlifpbhagaaGreatDoorKXG1
import Derived.Test.YthngdlifpbhagaaGreatDoorKXH2Q
import Derived.Test.YthngdlifpbhagaaGreatDoorKXMR
import Derived.Test.YthngdlifpbhagaaGreatDoorKXNM
import Derived.Test.YthngdlifpbhagaaGreatDoorKXT
import Derived.Test.YthngdlifpbhagaaGreatDoorKXRT
import Derived.Test.YthngdlifpbhagaaGreatDoorKXRL
import Derived.Test.YthngdlifpbhagaaGreatDoorKXCO
import Derived.Test.YthngdlifpbhagaaGreatDoorKLN
import Derived.Test.YthngdlifpbhagaaGreatDoorKXRN
import Derived.Test.YthngdlifpbhagaaGreatDoorKW4
import Derived.Test.YthngdlifpbhagaaGreatDoorKBY
import Derived.Test.YthngdlifpbhagaaGreatDoorKXBW
import Derived.Test.YthngdlifpbhagaaGreatDoorKXTZ
import Derived.Test.YthngdlifpbhagaaGreatDoorKXMQ
import Derived.Test.YthngdlifpbhagaaGreatDoorKXMS
import Derived.Test.YthngdlifpbhagaaGreatDoorKXO3
import Derived.Test.YthngdlifpbhagaaGreatDoorKXO
import Derived.Test.YthngdlifpbhagaaGreatDoorKXG4
import Derived.Test.YthngdlifpbhagaaGreatDoorKXU6
import Derived.Test.YthngdlifpbhagaaGreatDoorKXS6
import Derived.Test.YthngdlifpbhagaaGreatDoorKXS8
import Derived.Test.YthngdlifpbhagaaGreatDoorKXS2
import Derived.Test.YthngdlifpbhagaaGreatDoorKXU1
import Derived.Test.YthngdlifpbhagaaGreatDoorKXZA
import Derived.WalkKit
import Derived.ProofKit
import Derived.RowKit3
import Derived.WalkSpells
import Derived.StillTactics
import Derived.Deep.QuietTactic
import Derived.BigQuiet
import Derived.Below
import Derived.Deep.OwnRows
import Derived.OwnWalk
import Derived.Laws.BitsAllLaws
import Derived.Laws.Slices
import Derived.Laws.Bits64b
import Derived.Laws.FloatArith
namespace Go.Proofs.YthngdlifpbhagaaGreatDoor
open Go.RowKit
theorem frac_ratio (x D a b : Nat) (hD : D ≠ 0) (hF : FracOf x D 0 a b) : a * D = x * b := by
  have hb := hF.1
  by_cases c0 : x = 0
  · rw [hF.2.1.2 c0, c0, Nat.zero_mul, Nat.zero_mul]
  · have hfl : ∀ t : Nat, a * 2 ^ t / b = x * 2 ^ t / D := fun t => by
      have h := hF.2.2.1 (-1) (blen (a * 2 ^ t / b) + blen (x * 2 ^ t / D)) (t : Int) c0
      unfold rV at h
      rw [show ((t : Int)).toNat = t from by omega, show (-(t : Int)).toNat = 0 from by omega, show ((t : Int) + 0).toNat = t from by omega, show (-((t : Int) + 0)).toNat = 0 from by omega, Nat.pow_zero, Nat.mul_one, Nat.mul_one, rU_floor _ _ _ (by omega), rU_floor _ _ _ (by omega)] at h
      exact h
    obtain ⟨t, ht⟩ : ∃ t, b * D < 2 ^ t := ⟨b * D, Nat.lt_two_pow_self⟩
    have h := hfl t
    obtain ⟨f, hf⟩ : ∃ f, f = a * 2 ^ t / b := ⟨_, rfl⟩
    have f1 : f * b ≤ a * 2 ^ t := by rw [hf]; exact Nat.div_mul_le_self _ _
    have f2 : a * 2 ^ t < (f + 1) * b := by rw [hf]; exact Nat.lt_mul_of_div_lt (Nat.lt_succ_self _) (by omega)
    have f3 : f * D ≤ x * 2 ^ t := by rw [hf, h]; exact Nat.div_mul_le_self _ _
    have f4 : x * 2 ^ t < (f + 1) * D := by rw [hf, h]; exact Nat.lt_mul_of_div_lt (Nat.lt_succ_self _) (by omega)
    have g1 := Nat.mul_le_mul_right D f1
    have g2 := Nat.mul_lt_mul_of_pos_right f2 (show 0 < D by omega)
    have g3 := Nat.mul_le_mul_right b f3
    have g4 := Nat.mul_lt_mul_of_pos_right f4 (show 0 < b by omega)
    rw [show f * b * D = f * (b * D) from Nat.mul_assoc _ _ _, show a * 2 ^ t * D = a * D * 2 ^ t from Nat.mul_right_comm _ _ _] at g1
    rw [show (f + 1) * b * D = f * (b * D) + b * D from by rw [Nat.mul_assoc, Nat.add_mul, Nat.one_mul], show a * 2 ^ t * D = a * D * 2 ^ t from Nat.mul_right_comm _ _ _] at g2
    rw [show f * D * b = f * (b * D) from by rw [Nat.mul_assoc, Nat.mul_comm D b], show x * 2 ^ t * b = x * b * 2 ^ t from Nat.mul_right_comm _ _ _] at g3
    rw [show (f + 1) * D * b = f * (b * D) + b * D from by rw [Nat.mul_assoc, Nat.mul_comm D b, Nat.add_mul, Nat.one_mul], show x * 2 ^ t * b = x * b * 2 ^ t from Nat.mul_right_comm _ _ _] at g4
    rcases Nat.lt_trichotomy (a * D) (x * b) with c | c | c
    · exfalso
      have h5 := Nat.mul_le_mul_right (2 ^ t) (show a * D + 1 ≤ x * b from c)
      rw [Nat.add_mul, Nat.one_mul] at h5
      omega
    · exact c
    · exfalso
      have h5 := Nat.mul_le_mul_right (2 ^ t) (show x * b + 1 ≤ a * D from c)
      rw [Nat.add_mul, Nat.one_mul] at h5
      omega
theorem ref_fma (d V : Int) (x D a b J : Nat) (neg : Bool) (hJ : J = 2148) (hD : D ≠ 0) (hF : FracOf x D 0 a b) (hx : x * 2 ^ J = V.natAbs * D) (ng : Bool) (hng : x ≠ 0 → ng = neg) (hneg : V ≠ 0 → neg = decide (V < 0)) : refW 53 1074 2098 9218868437227405311 0 d ng a b = fmaW d V := by
  obtain ⟨K, hK⟩ : ∃ K : Nat, K = 1074 := ⟨_, rfl⟩
  rw [ref_mul d ng neg x D a b V.natAbs K hK hD hF hng (by rw [show K + K = J from by omega]; exact hx)]
  exact mul_fma d V neg _ rfl hneg
set_option maxRecDepth 20000 in
set_option maxHeartbeats 400000 in
theorem raddW_ (d : Int) (P Q : Nat) (Xi Yi : Int) (K : Nat) (hK : K = 2148) (sa sb : Bool) (a1 a2 b1 b2 : Nat) (P1 P2 Q1 Q2 : Option Addr) (C1 C2 D1 D2 : Nat) (w : World) (h1 : Arr w P1 (dig a1)) (l1 : (dig a1).length ≤ C1) (h2 : Arr w P2 (dig a2)) (l2 : (dig a2).length ≤ C2) (h3 : Arr w Q1 (dig b1)) (l3 : (dig b1).length ≤ D1) (h4 : Arr w Q2 (dig b2)) (l4 : (dig b2).length ≤ D2) (ha : a2 ≠ 0 ∧ a1 * 2 ^ K = P * a2 ∧ Xi = (if sa then -((P : Nat) : Int) else ((P : Nat) : Int)) ∧ blen a1 ≤ 6100 ∧ blen a2 ≤ 6100) (hb : b2 ≠ 0 ∧ b1 * 2 ^ K = Q * b2 ∧ Yi = (if sb then -((Q : Nat) : Int) else ((Q : Nat) : Int)) ∧ blen b1 ≤ 6100 ∧ blen b2 ≤ 6100) :
    Calls Tryz.prog 27 #[.agg #[.bool sa, .slice P1 (dig a1).length C1, .slice P2 (dig a2).length C2], .agg #[.bool sb, .slice Q1 (dig b1).length D1, .slice Q2 (dig b2).length D2]] w fun e w' => ∃ (vn vd : Value) (a' b' : Nat) (ng : Bool), e = .returned (.agg #[.bool ng, vn, vd]) ∧ Ls w' vn (dig a') ∧ Ls w' vd (dig b') ∧ (refW 53 1074 2098 9218868437227405311 0 d ng a' b' = fmaW d (Xi + Yi) ∧ b' ≠ 0 ∧ blen a' ≤ 4194304 ∧ blen b' ≤ 4194304) ∧ Kp w w' := by
  obtain ⟨za, ea, ia, ba1, ba2⟩ := ha
  obtain ⟨zb, eb, ib, bb1, bb2⟩ := hb
  obtain ⟨X, hX⟩ : ∃ X, X = a1 * b2 := ⟨_, rfl⟩
  obtain ⟨Y, hY⟩ : ∃ Y, Y = b1 * a2 := ⟨_, rfl⟩
  obtain ⟨D, hD⟩ : ∃ D, D = a2 * b2 := ⟨_, rfl⟩
  obtain ⟨va, hva⟩ : ∃ va, va = P := ⟨_, rfl⟩
  obtain ⟨vb, hvb⟩ : ∃ vb, vb = Q := ⟨_, rfl⟩
  rw [← hva] at ea ia
  rw [← hvb] at eb ib
  have hzD : D ≠ 0 := by rw [hD]; exact Nat.mul_ne_zero za zb
  have eX : X * 2 ^ K = va * D := by rw [hX, hD, Nat.mul_right_comm, ea, Nat.mul_assoc]
  have eY : Y * 2 ^ K = vb * D := by rw [hY, hD, Nat.mul_right_comm, eb, Nat.mul_assoc, Nat.mul_comm b2 a2]
  have bl : ∀ u v : Nat, blen u ≤ 6100 → blen v ≤ 6100 → blen (u * v) ≤ 12200 := fun u v h1 h2 => by
    obtain ⟨T5, hT5⟩ : ∃ T5 : Nat, T5 = 6100 := ⟨_, rfl⟩
    have g : blen (u * v) ≤ T5 + T5 := by
      rw [blen_le_iff, Nat.pow_add]
      exact Nat.mul_lt_mul'' ((blen_le_iff u T5).1 (by omega)) ((blen_le_iff v T5).1 (by omega))
    omega
  have bX : blen X ≤ 12200 := by rw [hX]; exact bl _ _ ba1 bb2
  have bY : blen Y ≤ 12200 := by rw [hY]; exact bl _ _ bb1 ba2
  have bD : blen D ≤ 12200 := by rw [hD]; exact bl _ _ ba2 bb2
  obtain ⟨T9, hT9⟩ : ∃ T9 : Nat, T9 = 12200 := ⟨_, rfl⟩
  have bS : ∀ c, c ≤ X + Y → blen c ≤ T9 + 1 := fun c hc => by
    have g1 := (blen_le_iff X T9).1 (by omega)
    have g2 := (blen_le_iff Y T9).1 (by omega)
    rw [blen_le_iff, Nat.pow_succ]; omega
  have lX : len32 X ≤ 16000 := dlen X 16000 (by omega)
  have lY : len32 Y ≤ 16000 := dlen Y 16000 (by omega)
  have lD : len32 D ≤ 16000 := dlen D 16000 (by omega)
  have lS : len32 (X + Y) ≤ 16000 := dlen (X + Y) 16000 (by have := bS (X + Y) (Nat.le_refl _); omega)
  have k1 : len32 a1 ≤ 4000 := dlen a1 4000 (by omega)
  have k2 : len32 a2 ≤ 4000 := dlen a2 4000 (by omega)
  have k3 : len32 b1 ≤ 4000 := dlen b1 4000 (by omega)
  have k4 : len32 b2 ≤ 4000 := dlen b2 4000 (by omega)
  have fin : ∀ (x : Nat) (neg : Bool) (a' b' : Nat) (ng : Bool), x ≤ X + Y → x * 2 ^ K = (Xi + Yi).natAbs * D → (Xi + Yi ≠ 0 → neg = decide (Xi + Yi < 0)) → (FracOf x D 0 a' b' ∧ (x ≠ 0 → ng = neg)) → (refW 53 1074 2098 9218868437227405311 0 d ng a' b' = fmaW d (Xi + Yi) ∧ b' ≠ 0 ∧ blen a' ≤ 4194304 ∧ blen b' ≤ 4194304) := fun x neg a' b' ng hx hv hn hF => by
    refine ⟨ref_fma d _ x D a' b' K neg hK hzD hF.1 hv ng hF.2 hn, hF.1.1, ?_, ?_⟩
    · have g1 := hF.1.2.2.2.1; have g2 := bS x hx; simp at g1; omega
    · have g1 := hF.1.2.2.2.2; simp at g1; omega
  by_cases c1 : sa = sb
  · refine (raddEq_ sa sb a1 a2 b1 b2 P1 P2 Q1 Q2 C1 C2 D1 D2 w h1 l1 h2 l2 h3 l3 h4 l4 k1 k2 k3 k4 za zb X Y D hX hY hD lX lY lD lS c1).mono ?_
    rintro e w' ⟨vn, vd, a', b', ng, he, q1, q2, q3, q4⟩
    refine ⟨vn, vd, a', b', ng, he, q1, q2, fin (X + Y) sa a' b' ng (Nat.le_refl _) ?_ ?_ q3, q4⟩
    · have : (Xi + Yi).natAbs = va + vb := by rw [ia, ib, ← c1]; cases sa <;> simp <;> omega
      rw [this, Nat.add_mul, Nat.add_mul, eX, eY]
    · intro hne
      rw [ia, ib, ← c1] at hne ⊢
      cases sa <;> simp at hne ⊢ <;> omega
  · have hcmp : Y ≤ X ↔ vb ≤ va := by
      have hp := Nat.two_pow_pos K
      constructor
      · intro h
        have g := Nat.mul_le_mul_right (2 ^ K) h
        rw [eX, eY] at g
        exact Nat.le_of_mul_le_mul_right g (by omega)
      · intro h
        have g := Nat.mul_le_mul_right D h
        rw [← eX, ← eY] at g
        exact Nat.le_of_mul_le_mul_right g hp
    by_cases c2 : Y ≤ X
    · have hv := hcmp.1 c2
      refine (raddGe_ sa sb a1 a2 b1 b2 P1 P2 Q1 Q2 C1 C2 D1 D2 w h1 l1 h2 l2 h3 l3 h4 l4 k1 k2 k3 k4 za zb X Y D hX hY hD lX lY lD lS c1 c2).mono ?_
      rintro e w' ⟨vn, vd, a', b', ng, he, q1, q2, q3, q4⟩
      refine ⟨vn, vd, a', b', ng, he, q1, q2, fin (X - Y) sa a' b' ng (by omega) ?_ ?_ q3, q4⟩
      · have : (Xi + Yi).natAbs = va - vb := by rw [ia, ib]; cases sa <;> cases sb <;> simp at c1 ⊢ <;> omega
        rw [this, Nat.sub_mul, Nat.sub_mul, eX, eY]
      · intro hne
        rw [ia, ib] at hne ⊢
        cases sa <;> cases sb <;> simp at c1 hne ⊢ <;> omega
    · have hv : va < vb := by
        rcases Nat.lt_or_ge va vb with h | h
        · exact h
        · exact absurd (hcmp.2 h) c2
      refine (raddLt_ sa sb a1 a2 b1 b2 P1 P2 Q1 Q2 C1 C2 D1 D2 w h1 l1 h2 l2 h3 l3 h4 l4 k1 k2 k3 k4 za zb X Y D hX hY hD lX lY lD lS c1 (by omega)).mono ?_
      rintro e w' ⟨vn, vd, a', b', ng, he, q1, q2, q3, q4⟩
      refine ⟨vn, vd, a', b', ng, he, q1, q2, fin (Y - X) sb a' b' ng (by omega) ?_ ?_ q3, q4⟩
      · have : (Xi + Yi).natAbs = vb - va := by rw [ia, ib]; cases sa <;> cases sb <;> simp at c1 ⊢ <;> omega
        rw [this, Nat.sub_mul, Nat.sub_mul, eX, eY]
      · intro hne
        rw [ia, ib] at hne ⊢
        cases sa <;> cases sb <;> simp at c1 hne ⊢ <;> omega
set_option maxRecDepth 20000 in
set_option maxHeartbeats 400000 in
theorem rmulX_ (n n' : Bool) (m m' : Nat) (K : Nat) (sa sb : Bool) (a1 a2 b1 b2 : Nat) (P1 P2 Q1 Q2 : Option Addr) (C1 C2 D1 D2 : Nat) (w : World) (h1 : Arr w P1 (dig a1)) (l1 : (dig a1).length ≤ C1) (h2 : Arr w P2 (dig a2)) (l2 : (dig a2).length ≤ C2) (h3 : Arr w Q1 (dig b1)) (l3 : (dig b1).length ≤ D1) (h4 : Arr w Q2 (dig b2)) (l4 : (dig b2).length ≤ D2) (ha : (a2 ≠ 0 ∧ a1 * 2 ^ K = Fq.vV Ieee.double m * a2 ∧ Iv n m = (if sa then -((Fq.vV Ieee.double m : Nat) : Int) else ((Fq.vV Ieee.double m : Nat) : Int)) ∧ blen a1 ≤ 1500 ∧ blen a2 ≤ 1500)) (hb : (b2 ≠ 0 ∧ b1 * 2 ^ K = Fq.vV Ieee.double m' * b2 ∧ Iv n' m' = (if sb then -((Fq.vV Ieee.double m' : Nat) : Int) else ((Fq.vV Ieee.double m' : Nat) : Int)) ∧ blen b1 ≤ 1500 ∧ blen b2 ≤ 1500)) :
    Calls Tryz.prog 28 #[.agg #[.bool sa, .slice P1 (dig a1).length C1, .slice P2 (dig a2).length C2], .agg #[.bool sb, .slice Q1 (dig b1).length D1, .slice Q2 (dig b2).length D2]] w fun e w' => ∃ (vn vd : Value) (a' b' : Nat) (ng : Bool), e = .returned (.agg #[.bool ng, vn, vd]) ∧ Ls w' vn (dig a') ∧ Ls w' vd (dig b') ∧ (b' ≠ 0 ∧ a' * 2 ^ (K + K) = Fq.vV Ieee.double m * Fq.vV Ieee.double m' * b' ∧ Iv n m * Iv n' m' = (if ng then -((Fq.vV Ieee.double m * Fq.vV Ieee.double m' : Nat) : Int) else ((Fq.vV Ieee.double m * Fq.vV Ieee.double m' : Nat) : Int)) ∧ blen a' ≤ 6100 ∧ blen b' ≤ 6100) ∧ Kp w w' := by
  obtain ⟨za, ea, ia, ba1, ba2⟩ := ha
  obtain ⟨zb, eb, ib, bb1, bb2⟩ := hb
  obtain ⟨X, hX⟩ : ∃ X, X = a1 * b1 := ⟨_, rfl⟩
  obtain ⟨D, hD⟩ : ∃ D, D = a2 * b2 := ⟨_, rfl⟩
  have hzD : D ≠ 0 := by rw [hD]; exact Nat.mul_ne_zero za zb
  have bX : blen X ≤ 3000 := by rw [hX]; exact blen_mul9 _ _ ba1 bb1
  have bD : blen D ≤ 3000 := by rw [hD]; exact blen_mul9 _ _ ba2 bb2
  have eX : X * 2 ^ (K + K) = Fq.vV Ieee.double m * Fq.vV Ieee.double m' * D := by
    have h : X * 2 ^ (K + K) = a1 * 2 ^ K * (b1 * 2 ^ K) := by rw [hX, Nat.pow_add]; simp only [Nat.mul_assoc, Nat.mul_left_comm]
    rw [h, ea, eb, hD]; simp only [Nat.mul_assoc, Nat.mul_left_comm]
  have hsg : X ≠ 0 → (sa ^^ sb) = (n ^^ n') := fun hx => by
    have q1 : Fq.vV Ieee.double m ≠ 0 := fun h0 => by
      rw [h0, Nat.zero_mul] at ea
      rcases Nat.mul_eq_zero.1 ea with h | h
      · exact hx (by rw [hX, h, Nat.zero_mul])
      · have := Nat.two_pow_pos K; omega
    have q2 : Fq.vV Ieee.double m' ≠ 0 := fun h0 => by
      rw [h0, Nat.zero_mul] at eb
      rcases Nat.mul_eq_zero.1 eb with h | h
      · exact hx (by rw [hX, h, Nat.mul_zero])
      · have := Nat.two_pow_pos K; omega
    rw [sgn_iv n sa m ia q1, sgn_iv n' sb m' ib q2]
  refine (rmul9_ sa sb a1 a2 b1 b2 P1 P2 Q1 Q2 C1 C2 D1 D2 w h1 l1 h2 l2 h3 l3 h4 l4 (dlen a1 4000 (by omega)) (dlen a2 4000 (by omega)) (dlen b1 4000 (by omega)) (dlen b2 4000 (by omega)) za zb X D hX hD (dlen X 16000 (by omega)) (dlen D 16000 (by omega))).mono ?_
  rintro e w' ⟨vn, vd, a', b', ng, he, q1, q2, ⟨q3, q5⟩, q4⟩
  refine ⟨vn, vd, a', b', ng, he, q1, q2, ⟨q3.1, ?_, ?_, ?_, ?_⟩, q4⟩
  · have g := frac_ratio X D a' b' hzD q3
    refine Nat.eq_of_mul_eq_mul_right (show 0 < D by omega) ?_
    rw [Nat.mul_right_comm, g, Nat.mul_right_comm, eX]
    exact Nat.mul_right_comm _ _ _
  · by_cases c : X = 0
    · have h0 : Fq.vV Ieee.double m * Fq.vV Ieee.double m' = 0 := by
        rw [c, Nat.zero_mul] at eX
        rcases Nat.mul_eq_zero.1 eX.symm with h | h
        · exact h
        · exact absurd h hzD
      have h1 : (Iv n m * Iv n' m').natAbs = 0 := by rw [Int.natAbs_mul, iv_abs, iv_abs, h0]
      rw [h0]
      have h2 : Iv n m * Iv n' m' = 0 := by omega
      rw [h2]; cases ng <;> rfl
    · rw [(q5 c).trans (hsg c)]
      unfold Iv
      rw [Int.natCast_mul]
      cases n <;> cases n' <;> simp [Int.neg_mul, Int.mul_neg]
  · have g1 := q3.2.2.2.1; simp at g1; omega
  · have g1 := q3.2.2.2.2; simp at g1; omega
set_option maxRecDepth 20000 in
set_option maxHeartbeats 1000000 in
theorem rfmaF_ (d : Int) (n n' nz : Bool) (m m' mz : Nat) (hm : m < 9218868437227405312) (hm' : m' < 9218868437227405312) (hmz : mz < 9218868437227405312) (K : Nat) (hK : K = 1074) (w : World) :
    Calls Tryz.prog 8 #[.int .i64 d, .int .u64 ((Fq.wD n m : Nat) : Int), .int .u64 ((Fq.wD n' m' : Nat) : Int), .int .u64 ((Fq.wD nz mz : Nat) : Int)] w fun e w' => e = .returned (.int .u64 ((fmaW d (Iv n m * Iv n' m' + Iv nz mz * ((2 ^ K : Nat) : Int)) : Nat) : Int)) ∧ Kp w w' := by
  have i1 := fun w => isnan_ n m (by omega) w
  have i2 := fun w => isnan_ n' m' (by omega) w
  have i3 := fun w => isnan_ nz mz (by omega) w
  have j1 := fun w => isinf_ n m (by omega) w
  have j2 := fun w => isinf_ n' m' (by omega) w
  have j3 := fun w => isinf_ nz mz (by omega) w
  rw [decide_eq_false (by omega)] at i1 i2 i3 j1 j2 j3
  have b1 := fromV_ n m hm K hK w
  have b2 := fun w1 => fromV_ n' m' hm' K hK w1
  have b3 := fun w1 => fromV_ nz mz hmz K hK w1
  have rm9 := fun sa sb a1 a2 b1 b2 P1 P2 Q1 Q2 C1 C2 D1 D2 w => rmulX_ n n' m m' K sa sb a1 a2 b1 b2 P1 P2 Q1 Q2 C1 C2 D1 D2 w
  have ra9 := fun sa sb a1 a2 b1 b2 P1 P2 Q1 Q2 C1 C2 D1 D2 w => raddW_ d (Fq.vV Ieee.double m * Fq.vV Ieee.double m') (Fq.vV Ieee.double mz * 2 ^ K) (Iv n m * Iv n' m') (Iv nz mz * ((2 ^ K : Nat) : Int)) (K + K) (by omega) sa sb a1 a2 b1 b2 P1 P2 Q1 Q2 C1 C2 D1 D2 w
  obtain ⟨R, hR⟩ : ∃ R, R = fmaW d (Iv n m * Iv n' m' + Iv nz mz * ((2 ^ K : Nat) : Int)) := ⟨_, rfl⟩
  obtain ⟨X, hX⟩ : ∃ X, X = Fq.wD n m := ⟨_, rfl⟩
  obtain ⟨Y, hY⟩ : ∃ Y, Y = Fq.wD n' m' := ⟨_, rfl⟩
  obtain ⟨Z, hZ⟩ : ∃ Z, Z = Fq.wD nz mz := ⟨_, rfl⟩
  rw [← hX] at i1 j1 b1
  rw [← hY] at i2 j2 b2
  rw [← hZ] at i3 j3 b3
  rw [← hR] at ra9
  rw [← hX, ← hY, ← hZ, ← hR]
  have HM : Hid (∀ sa sb a1 a2 b1 b2 P1 P2 Q1 Q2 C1 C2 D1 D2 w, _) := rm9
  have HA : Hid (∀ sa sb a1 a2 b1 b2 P1 P2 Q1 Q2 C1 C2 D1 D2 w, _) := ra9
  clear rm9 ra9 hX hY hZ hR hK hm hm' hmz
  go_enter Tryz.func8, Tryz.ntmps8
  go_wp2_with fail
  refine (i1 w).mono ?_; rintro e w' ⟨rfl, hw'⟩; obtain rfl := hw'.symm; clear hw'
  go_wp2_with fail
  refine (i2 w).mono ?_; rintro e w' ⟨rfl, hw'⟩; obtain rfl := hw'.symm; clear hw'
  go_wp2_with fail
  refine (i3 w).mono ?_; rintro e w' ⟨rfl, hw'⟩; obtain rfl := hw'.symm; clear hw'
  go_wp2_with fail
  refine (j1 w).mono ?_; rintro e w' ⟨rfl, hw'⟩; obtain rfl := hw'.symm; clear hw'
  go_wp2_with fail
  refine (j2 w).mono ?_; rintro e w' ⟨rfl, hw'⟩; obtain rfl := hw'.symm; clear hw'
  go_wp2_with fail
  refine (j3 w).mono ?_; rintro e w' ⟨rfl, hw'⟩; obtain rfl := hw'.symm; clear hw'
  clear i1 i2 i3 j1 j2 j3
  go_wp2_with fail
  refine b1.mono ?_; rintro e w1 ⟨p1, p2, c1, c2, a1, a2, sa, rfl, u1, u2, u3, u4, fa, k1⟩
  have b4 := b2 w1
  clear b1 b2
  obtain ⟨E1, g1⟩ : ∃ E, E = (dig a1).length := ⟨_, rfl⟩
  obtain ⟨E2, g2⟩ : ∃ E, E = (dig a2).length := ⟨_, rfl⟩
  rw [← g1, ← g2]
  have G1 : Hid (E1 = (dig a1).length ∧ E2 = (dig a2).length ∧ _) := ⟨g1, g2, fa⟩
  clear g1 g2 fa
  go_wp2_with fail
  refine b4.mono ?_; rintro e w2 ⟨q1, q2, d1, d2, e1, e2, sb, rfl, v1, v2, v3, v4, fb, k2⟩
  have hr := HM.out sa sb a1 a2 e1 e2 p1 p2 q1 q2 c1 c2 d1 d2 w2 (u1.grown k2) u2 (u3.grown k2) u4 v1 v2 v3 v4 G1.out.2.2 fb
  rw [← G1.out.1, ← G1.out.2.1] at hr
  obtain ⟨E3, g3⟩ : ∃ E, E = (dig e1).length := ⟨_, rfl⟩
  obtain ⟨E4, g4⟩ : ∃ E, E = (dig e2).length := ⟨_, rfl⟩
  rw [← g3, ← g4] at hr ⊢
  have k02 := k1.trans k2
  clear b4 u1 u2 u3 u4 v1 v2 v3 v4 fb k1 k2 g3 g4 G1 HM
  go_wp2_with fail
  refine hr.mono ?_; rintro e w3 ⟨vn, vd, m1, m2, sm, rfl, ⟨x1, y1, rfl, lv1, lw1⟩, ⟨x2, y2, rfl, lv2, lw2⟩, fm, k3⟩
  have k03 := k02.trans k3
  have b5 := b3 w3
  clear hr k02 k3 b3
  obtain ⟨E1, g1⟩ : ∃ E, E = (dig m1).length := ⟨_, rfl⟩
  obtain ⟨E2, g2⟩ : ∃ E, E = (dig m2).length := ⟨_, rfl⟩
  rw [← g1, ← g2]
  have G1 : Hid (E1 = (dig m1).length ∧ E2 = (dig m2).length ∧ _) := ⟨g1, g2, fm⟩
  clear g1 g2 fm
  go_wp2_with fail
  refine b5.mono ?_; rintro e w4 ⟨q1, q2, d1, d2, e1, e2, sz, rfl, v1, v2, v3, v4, fz, k4⟩
  have hr := HA.out sm sz m1 m2 e1 e2 x1 x2 q1 q2 y1 y2 d1 d2 w4 (lv1.grown k4) lw1 (lv2.grown k4) lw2 v1 v2 v3 v4 G1.out.2.2 ⟨fz.1, by rw [Nat.pow_add, ← Nat.mul_assoc, fz.2.1, Nat.mul_right_comm], by rw [fz.2.2.1, Int.natCast_mul]; cases sz <;> simp [Int.neg_mul], Nat.le_trans fz.2.2.2.1 (by decide), Nat.le_trans fz.2.2.2.2 (by decide)⟩
  rw [← G1.out.1, ← G1.out.2.1] at hr
  obtain ⟨E3, g3⟩ : ∃ E, E = (dig e1).length := ⟨_, rfl⟩
  obtain ⟨E4, g4⟩ : ∃ E, E = (dig e2).length := ⟨_, rfl⟩
  rw [← g3, ← g4] at hr ⊢
  have k04 := k03.trans k4
  clear b5 lv1 lw1 lv2 lw2 v1 v2 v3 v4 fz k03 k4 g3 g4 G1 HA
  go_wp2_with fail
  refine hr.mono ?_; rintro e w5 ⟨vn, vd, a', b', ng, rfl, lv1, lv2, ⟨hw1, hw2, hw3, hw4⟩, k5⟩
  have hb := rbits_ d ng vn vd a' b' w5 lv1 lv2 hw2 hw3 hw4
  rw [hw1] at hb
  have k05 := k04.trans k5
  clear hr lv1 lv2 hw1 hw2 hw3 hw4 k04 k5
  go_wp2_with fail
  refine hb.mono ?_; rintro e w6 ⟨rfl, k6⟩
  have k06 := k05.trans k6
  clear hb k05 k6
  go_wp2
  exact bodyPost_ret (v := .int .u64 (R : Int)) (by simp [results, Tryz.results8, go_sem]) rfl ⟨rfl, k06⟩
set_option maxRecDepth 20000 in
set_option maxHeartbeats 1000000 in
theorem rfmaN_ (d : Int) (n n' nz : Bool) (m m' mz : Nat) (hm : m < 9223372036854775808) (hm' : m' < 9223372036854775808) (hmz : mz < 9223372036854775808) (hb : 9218868437227405312 < m ∨ 9218868437227405312 < m' ∨ 9218868437227405312 < mz) (w : World) :
    Calls Tryz.prog 8 #[.int .i64 d, .int .u64 ((Fq.wD n m : Nat) : Int), .int .u64 ((Fq.wD n' m' : Nat) : Int), .int .u64 ((Fq.wD nz mz : Nat) : Int)] w fun e w' => e = .returned (.int .u64 9221120237041090561) ∧ Kp w w' := by
  have i1 := fun w => isnan_ n m hm w
  have i2 := fun w => isnan_ n' m' hm' w
  have i3 := fun w => isnan_ nz mz hmz w
  have j1 := fun w => isinf_ n m hm w
  have j2 := fun w => isinf_ n' m' hm' w
  have j3 := fun w => isinf_ nz mz hmz w
  obtain ⟨X, hX⟩ : ∃ X, X = Fq.wD n m := ⟨_, rfl⟩
  obtain ⟨Y, hY⟩ : ∃ Y, Y = Fq.wD n' m' := ⟨_, rfl⟩
  obtain ⟨Z, hZ⟩ : ∃ Z, Z = Fq.wD nz mz := ⟨_, rfl⟩
  rw [← hX] at i1 j1
  rw [← hY] at i2 j2
  rw [← hZ] at i3 j3
  rw [← hX, ← hY, ← hZ]
  clear j1 j2 j3
  by_cases c1 : 9218868437227405312 < m
  · rw [decide_eq_true c1] at i1
    clear hX hY hZ i2 i3 c1 hb hm hm' hmz
    go_enter Tryz.func8, Tryz.ntmps8
    go_wp2_with fail
    refine (i1 w).mono ?_; rintro e w' ⟨rfl, hw'⟩; obtain rfl := hw'.symm; clear hw'
    go_wp2
    exact bodyPost_ret (v := .int .u64 9221120237041090561) (by simp [results, Tryz.results8, go_sem]) rfl ⟨rfl, Kp.refl _⟩
  · rw [decide_eq_false c1] at i1
    by_cases c2 : 9218868437227405312 < m'
    · rw [decide_eq_true c2] at i2
      clear hX hY hZ i3 c1 c2 hb hm hm' hmz
      go_enter Tryz.func8, Tryz.ntmps8
      go_wp2_with fail
      refine (i1 w).mono ?_; rintro e w' ⟨rfl, hw'⟩; obtain rfl := hw'.symm; clear hw'
      go_wp2_with fail
      refine (i2 w).mono ?_; rintro e w' ⟨rfl, hw'⟩; obtain rfl := hw'.symm; clear hw'
      go_wp2
      exact bodyPost_ret (v := .int .u64 9221120237041090561) (by simp [results, Tryz.results8, go_sem]) rfl ⟨rfl, Kp.refl _⟩
    · rw [decide_eq_false c2] at i2
      rw [decide_eq_true (by omega)] at i3
      clear hX hY hZ c1 c2 hb hm hm' hmz
      go_enter Tryz.func8, Tryz.ntmps8
      go_wp2_with fail
      refine (i1 w).mono ?_; rintro e w' ⟨rfl, hw'⟩; obtain rfl := hw'.symm; clear hw'
      go_wp2_with fail
      refine (i2 w).mono ?_; rintro e w' ⟨rfl, hw'⟩; obtain rfl := hw'.symm; clear hw'
      go_wp2_with fail
      refine (i3 w).mono ?_; rintro e w' ⟨rfl, hw'⟩; obtain rfl := hw'.symm; clear hw'
      go_wp2
      exact bodyPost_ret (v := .int .u64 9221120237041090561) (by simp [results, Tryz.results8, go_sem]) rfl ⟨rfl, Kp.refl _⟩
set_option maxRecDepth 20000 in
set_option maxHeartbeats 1000000 in
theorem rfmaZ_ (d : Int) (n n' nz : Bool) (m m' mz : Nat) (hm : m < 9223372036854775808) (hm' : m' < 9223372036854775808) (hmz : mz < 9223372036854775808) (h1 : m < 9218868437227405312) (h2 : m' < 9218868437227405312) (h3 : mz = 9218868437227405312) (w : World) :
    Calls Tryz.prog 8 #[.int .i64 d, .int .u64 ((Fq.wD n m : Nat) : Int), .int .u64 ((Fq.wD n' m' : Nat) : Int), .int .u64 ((Fq.wD nz mz : Nat) : Int)] w fun e w' => e = .returned (.int .u64 ((Fq.wD nz mz : Nat) : Int)) ∧ Kp w w' := by
  have k1 : ∀ w : World, Calls Tryz.prog 23 #[.int .u64 0] w fun e w' => e = .returned (.bool false) ∧ w' = w := fun w => isinf_ false 0 (by decide) w
  have k2 : ∀ w : World, Calls Tryz.prog 22 #[.int .u64 0] w fun e w' => e = .returned (.bool false) ∧ w' = w := fun w => isnan_ false 0 (by decide) w
  have i1 := fun w => isnan_ n m hm w
  have i2 := fun w => isnan_ n' m' hm' w
  have i3 := fun w => isnan_ nz mz hmz w
  have j1 := fun w => isinf_ n m hm w
  have j2 := fun w => isinf_ n' m' hm' w
  have j3 := fun w => isinf_ nz mz hmz w
  obtain ⟨X, hX⟩ : ∃ X, X = Fq.wD n m := ⟨_, rfl⟩
  obtain ⟨Y, hY⟩ : ∃ Y, Y = Fq.wD n' m' := ⟨_, rfl⟩
  obtain ⟨Z, hZ⟩ : ∃ Z, Z = Fq.wD nz mz := ⟨_, rfl⟩
  rw [decide_eq_false (by omega)] at i1 i2 i3 j1 j2
  rw [decide_eq_true h3] at j3
  rw [← hX] at i1 j1
  rw [← hY] at i2 j2
  rw [← hZ] at i3 j3
  rw [← hX, ← hY, ← hZ]
  clear hX hY hZ hm hm' hmz h1 h2 h3
  go_enter Tryz.func8, Tryz.ntmps8
  go_wp2_with fail
  refine (i1 w).mono ?_; rintro e w' ⟨rfl, hw'⟩; obtain rfl := hw'.symm; clear hw'
  go_wp2_with fail
  refine (i2 w).mono ?_; rintro e w' ⟨rfl, hw'⟩; obtain rfl := hw'.symm; clear hw'
  go_wp2_with fail
  refine (i3 w).mono ?_; rintro e w' ⟨rfl, hw'⟩; obtain rfl := hw'.symm; clear hw'
  go_wp2_with fail
  refine (j1 w).mono ?_; rintro e w' ⟨rfl, hw'⟩; obtain rfl := hw'.symm; clear hw'
  go_wp2_with fail
  refine (j2 w).mono ?_; rintro e w' ⟨rfl, hw'⟩; obtain rfl := hw'.symm; clear hw'
  go_wp2_with fail
  refine (j3 w).mono ?_; rintro e w' ⟨rfl, hw'⟩; obtain rfl := hw'.symm; clear hw'
  go_wp2_with fail
  refine (j1 w).mono ?_; rintro e w' ⟨rfl, hw'⟩; obtain rfl := hw'.symm; clear hw'
  go_wp2_with fail
  refine (j2 w).mono ?_; rintro e w' ⟨rfl, hw'⟩; obtain rfl := hw'.symm; clear hw'
  go_wp2_with fail
  refine (k1 w).mono ?_; rintro e w' ⟨rfl, hw'⟩; obtain rfl := hw'.symm; clear hw'
  go_wp2_with fail
  refine (k2 w).mono ?_; rintro e w' ⟨rfl, hw'⟩; obtain rfl := hw'.symm; clear hw'
  go_wp2
  exact bodyPost_ret (v := .int .u64 (Z : Int)) (by simp [results, Tryz.results8, go_sem]) rfl ⟨rfl, Kp.refl _⟩
set_option maxRecDepth 20000 in
set_option maxHeartbeats 1000000 in
theorem rfmaI_ (d : Int) (n n' nz : Bool) (m m' mz : Nat) (hm : m < 9223372036854775808) (hm' : m' < 9223372036854775808) (hmz : mz < 9223372036854775808) (h1 : m ≤ 9218868437227405312) (h2 : m' ≤ 9218868437227405312) (h3 : mz ≤ 9218868437227405312) (hi : ¬ (m < 9218868437227405312 ∧ m' < 9218868437227405312)) (pn : Bool) (pm R : Nat) (hpm : 9218868437227405312 ≤ pm) (hpm2 : pm < 9223372036854775808) (w : World) (hp : Calls Tryz.prog 24 #[.int .i64 d, .int .u64 ((Fq.wD n m : Nat) : Int), .int .u64 ((Fq.wD n' m' : Nat) : Int)] w fun e w' => e = .returned (.int .u64 ((Fq.wD pn pm : Nat) : Int)) ∧ Kp w w') (ha : ∀ w : World, Calls Tryz.prog 25 #[.int .i64 d, .int .u64 ((Fq.wD pn pm : Nat) : Int), .int .u64 ((Fq.wD nz mz : Nat) : Int)] w fun e w' => e = .returned (.int .u64 (R : Int)) ∧ Kp w w') :
    Calls Tryz.prog 8 #[.int .i64 d, .int .u64 ((Fq.wD n m : Nat) : Int), .int .u64 ((Fq.wD n' m' : Nat) : Int), .int .u64 ((Fq.wD nz mz : Nat) : Int)] w fun e w' => e = .returned (.int .u64 (R : Int)) ∧ Kp w w' := by
  have i1 := fun w => isnan_ n m hm w
  have i2 := fun w => isnan_ n' m' hm' w
  have i3 := fun w => isnan_ nz mz hmz w
  have j1 := fun w => isinf_ n m hm w
  have j2 := fun w => isinf_ n' m' hm' w
  have j3 := fun w => isinf_ nz mz hmz w
  obtain ⟨X, hX⟩ : ∃ X, X = Fq.wD n m := ⟨_, rfl⟩
  obtain ⟨Y, hY⟩ : ∃ Y, Y = Fq.wD n' m' := ⟨_, rfl⟩
  obtain ⟨Z, hZ⟩ : ∃ Z, Z = Fq.wD nz mz := ⟨_, rfl⟩
  have l1 := fun w => isinf_ pn pm hpm2 w
  have l2 := fun w => isnan_ pn pm hpm2 w
  obtain ⟨P, hP⟩ : ∃ P, P = Fq.wD pn pm := ⟨_, rfl⟩
  rw [decide_eq_false (by omega)] at i1 i2 i3
  rw [← hX] at i1 j1
  rw [← hY] at i2 j2
  rw [← hZ] at i3 j3
  rw [← hX, ← hY, ← hZ]
  rw [← hX, ← hY, ← hP] at hp
  rw [← hP, ← hZ] at ha
  rw [← hP] at l1 l2
  have HA : Hid (∀ w : World, Calls Tryz.prog 25 #[.int .i64 d, .int .u64 ((P : Nat) : Int), .int .u64 ((Z : Nat) : Int)] w fun e w' => e = .returned (.int .u64 (R : Int)) ∧ Kp w w') := ha
  clear hX hY hZ hP hm hm' hmz hpm2 ha j3 h3
  by_cases c1 : m = 9218868437227405312
  · rw [decide_eq_true c1] at j1
    clear c1 hi h1 h2 j2
    by_cases c2 : pm = 9218868437227405312
    · rw [decide_eq_true c2] at l1
      clear c2 l2 hpm
      go_enter Tryz.func8, Tryz.ntmps8
      go_wp2_with fail
      refine (i1 w).mono ?_; rintro e w' ⟨rfl, hw'⟩; obtain rfl := hw'.symm; clear hw'
      go_wp2_with fail
      refine (i2 w).mono ?_; rintro e w' ⟨rfl, hw'⟩; obtain rfl := hw'.symm; clear hw'
      go_wp2_with fail
      refine (i3 w).mono ?_; rintro e w' ⟨rfl, hw'⟩; obtain rfl := hw'.symm; clear hw'
      go_wp2_with fail
      refine (j1 w).mono ?_; rintro e w' ⟨rfl, hw'⟩; obtain rfl := hw'.symm; clear hw'
      go_wp2_with fail
      refine (j1 w).mono ?_; rintro e w' ⟨rfl, hw'⟩; obtain rfl := hw'.symm; clear hw'
      go_wp2_with fail
      refine hp.mono ?_; rintro e w1 ⟨rfl, k1⟩; clear hp
      have ha := HA.out w1
      clear HA
      go_wp2_with fail
      refine (l1 w1).mono ?_; rintro e w' ⟨rfl, hw'⟩; obtain rfl := hw'.symm; clear hw'
      go_wp2_with fail
      refine ha.mono ?_; rintro e w2 ⟨rfl, k2⟩; clear ha
      have kk := k1.trans k2
      clear k1 k2
      go_wp2
      exact bodyPost_ret (v := .int .u64 (R : Int)) (by simp [results, Tryz.results8, go_sem]) rfl ⟨rfl, kk⟩
    · rw [decide_eq_false c2] at l1
      rw [decide_eq_true (by omega)] at l2
      clear c2 hpm
      go_enter Tryz.func8, Tryz.ntmps8
      go_wp2_with fail
      refine (i1 w).mono ?_; rintro e w' ⟨rfl, hw'⟩; obtain rfl := hw'.symm; clear hw'
      go_wp2_with fail
      refine (i2 w).mono ?_; rintro e w' ⟨rfl, hw'⟩; obtain rfl := hw'.symm; clear hw'
      go_wp2_with fail
      refine (i3 w).mono ?_; rintro e w' ⟨rfl, hw'⟩; obtain rfl := hw'.symm; clear hw'
      go_wp2_with fail
      refine (j1 w).mono ?_; rintro e w' ⟨rfl, hw'⟩; obtain rfl := hw'.symm; clear hw'
      go_wp2_with fail
      refine (j1 w).mono ?_; rintro e w' ⟨rfl, hw'⟩; obtain rfl := hw'.symm; clear hw'
      go_wp2_with fail
      refine hp.mono ?_; rintro e w1 ⟨rfl, k1⟩; clear hp
      have ha := HA.out w1
      clear HA
      go_wp2_with fail
      refine (l1 w1).mono ?_; rintro e w' ⟨rfl, hw'⟩; obtain rfl := hw'.symm; clear hw'
      go_wp2_with fail
      refine (l2 w1).mono ?_; rintro e w' ⟨rfl, hw'⟩; obtain rfl := hw'.symm; clear hw'
      go_wp2_with fail
      refine ha.mono ?_; rintro e w2 ⟨rfl, k2⟩; clear ha
      have kk := k1.trans k2
      clear k1 k2
      go_wp2
      exact bodyPost_ret (v := .int .u64 (R : Int)) (by simp [results, Tryz.results8, go_sem]) rfl ⟨rfl, kk⟩
  · rw [decide_eq_false c1] at j1
    rw [decide_eq_true (by omega)] at j2
    clear c1 hi h1 h2
    by_cases c2 : pm = 9218868437227405312
    · rw [decide_eq_true c2] at l1
      clear c2 l2 hpm
      go_enter Tryz.func8, Tryz.ntmps8
      go_wp2_with fail
      refine (i1 w).mono ?_; rintro e w' ⟨rfl, hw'⟩; obtain rfl := hw'.symm; clear hw'
      go_wp2_with fail
      refine (i2 w).mono ?_; rintro e w' ⟨rfl, hw'⟩; obtain rfl := hw'.symm; clear hw'
      go_wp2_with fail
      refine (i3 w).mono ?_; rintro e w' ⟨rfl, hw'⟩; obtain rfl := hw'.symm; clear hw'
      go_wp2_with fail
      refine (j1 w).mono ?_; rintro e w' ⟨rfl, hw'⟩; obtain rfl := hw'.symm; clear hw'
      go_wp2_with fail
      refine (j2 w).mono ?_; rintro e w' ⟨rfl, hw'⟩; obtain rfl := hw'.symm; clear hw'
      go_wp2_with fail
      refine (j1 w).mono ?_; rintro e w' ⟨rfl, hw'⟩; obtain rfl := hw'.symm; clear hw'
      go_wp2_with fail
      refine (j2 w).mono ?_; rintro e w' ⟨rfl, hw'⟩; obtain rfl := hw'.symm; clear hw'
      go_wp2_with fail
      refine hp.mono ?_; rintro e w1 ⟨rfl, k1⟩; clear hp
      have ha := HA.out w1
      clear HA
      go_wp2_with fail
      refine (l1 w1).mono ?_; rintro e w' ⟨rfl, hw'⟩; obtain rfl := hw'.symm; clear hw'
      go_wp2_with fail
      refine ha.mono ?_; rintro e w2 ⟨rfl, k2⟩; clear ha
      have kk := k1.trans k2
      clear k1 k2
      go_wp2
      exact bodyPost_ret (v := .int .u64 (R : Int)) (by simp [results, Tryz.results8, go_sem]) rfl ⟨rfl, kk⟩
    · rw [decide_eq_false c2] at l1
      rw [decide_eq_true (by omega)] at l2
      clear c2 hpm
      go_enter Tryz.func8, Tryz.ntmps8
      go_wp2_with fail
      refine (i1 w).mono ?_; rintro e w' ⟨rfl, hw'⟩; obtain rfl := hw'.symm; clear hw'
      go_wp2_with fail
      refine (i2 w).mono ?_; rintro e w' ⟨rfl, hw'⟩; obtain rfl := hw'.symm; clear hw'
      go_wp2_with fail
      refine (i3 w).mono ?_; rintro e w' ⟨rfl, hw'⟩; obtain rfl := hw'.symm; clear hw'
      go_wp2_with fail
      refine (j1 w).mono ?_; rintro e w' ⟨rfl, hw'⟩; obtain rfl := hw'.symm; clear hw'
      go_wp2_with fail
      refine (j2 w).mono ?_; rintro e w' ⟨rfl, hw'⟩; obtain rfl := hw'.symm; clear hw'
      go_wp2_with fail
      refine (j1 w).mono ?_; rintro e w' ⟨rfl, hw'⟩; obtain rfl := hw'.symm; clear hw'
      go_wp2_with fail
      refine (j2 w).mono ?_; rintro e w' ⟨rfl, hw'⟩; obtain rfl := hw'.symm; clear hw'
      go_wp2_with fail
      refine hp.mono ?_; rintro e w1 ⟨rfl, k1⟩; clear hp
      have ha := HA.out w1
      clear HA
      go_wp2_with fail
      refine (l1 w1).mono ?_; rintro e w' ⟨rfl, hw'⟩; obtain rfl := hw'.symm; clear hw'
      go_wp2_with fail
      refine (l2 w1).mono ?_; rintro e w' ⟨rfl, hw'⟩; obtain rfl := hw'.symm; clear hw'
      go_wp2_with fail
      refine ha.mono ?_; rintro e w2 ⟨rfl, k2⟩; clear ha
      have kk := k1.trans k2
      clear k1 k2
      go_wp2
      exact bodyPost_ret (v := .int .u64 (R : Int)) (by simp [results, Tryz.results8, go_sem]) rfl ⟨rfl, kk⟩
end Go.Proofs.YthngdlifpbhagaaGreatDoor
