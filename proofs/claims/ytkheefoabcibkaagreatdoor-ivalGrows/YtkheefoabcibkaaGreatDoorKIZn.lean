import Derived.Test.YtkheefoabcibkaaGreatDoorKIYy
namespace Go.Proofs.YtkheefoabcibkaaGreatDoor
open Go.RowKit

set_option linter.unusedVariables false
theorem g53_anti (d : Int) (c1 c2 c2' : Nat) (hc : 0 < c2) (h : c2 ≤ c2') (V : Int) (hV : 0 ≤ V) : g53 d c1 c2' V ≤ g53 d c1 c2 V := by
  unfold g53 gpl
  by_cases z : V = 0
  · rw [if_pos z, if_pos z]; omega
  rw [if_neg z, if_neg z, if_neg (show ¬ V < 0 by omega), if_neg (show ¬ V < 0 by omega)]
  have h1 := rU_mono (dirN false d) 53 (V.natAbs * c1) c2' (V.natAbs * c1) c2 (by omega) hc (by decide) (Nat.mul_le_mul_left _ h)
  have h2 := (finG_mono 53 2098 9218868437227405311 9218868437227405312 (dirN false d) _ _ (by decide) (by decide) (by decide) (by decide) h1).1
  omega
theorem g53_nn (d : Int) (c1 c2 : Nat) (V : Int) (hV : 0 ≤ V) : 0 ≤ g53 d c1 c2 V := by
  unfold g53 gpl
  by_cases z : V = 0
  · rw [if_pos z]; omega
  rw [if_neg z, if_neg (show ¬ V < 0 by omega)]; omega
theorem diZ_zero (K : Nat) (d y : Int) : diZ K d 0 y = 0 := by
  unfold diZ oD
  have e : ∀ s : Bool, Iv s (0 : Int).natAbs = 0 := fun s => by
    have h := vV0X
    unfold Iv
    rw [show (0 : Int).natAbs = 0 from rfl, h]
    cases s <;> rfl
  rw [e]
  repeat' split
  all_goals first | rfl | (exfalso; omega) | skip
  all_goals (unfold g53 gpl; simp)
theorem diZ_m (K : Nat) (d x y : Int) : diZ K (-d) (-x) y = -(diZ K d x y) := by
  by_cases c : x = 0
  · rw [c, show (-0 : Int) = 0 from rfl, diZ_zero, diZ_zero]; rfl
  · exact diZ_mir K d x y c
theorem diZ_m1 (K : Nat) (x y : Int) : diZ K (-1) (-x) y = -(diZ K 1 x y) := diZ_m K 1 x y
theorem diZ_neg (K : Nat) (d x y : Int) (hy : y ≠ 0) : diZ K d (-x) y = diZ K d x (-y) := by
  by_cases c : x = 0
  · rw [c, show (-0 : Int) = 0 from rfl, diZ_zero, diZ_zero]
  unfold diZ oD
  rw [sN_neg x c, sN_neg y hy, Int.natAbs_neg, Int.natAbs_neg, if_neg (show ¬ y.natAbs = 0 by omega), if_neg (show ¬ y.natAbs = 0 by omega), show ((!(sN x)) ^^ sN y) = (sN x ^^ (!(sN y))) from by cases sN x <;> cases sN y <;> rfl]
theorem diZ_fin (K : Nat) (d x y : Int) (hx : -9218868437227405312 < x ∧ x < 9218868437227405312) (hy : 0 < y ∧ y < 9218868437227405312) : diZ K d x y = g53 d (2 ^ K) (Fq.vV Ieee.double y.natAbs) (vZ x) := by
  unfold diZ oD
  rw [if_neg (by omega), if_neg (by omega), if_neg (by omega), if_neg (by omega)]
  rw [show (sN x ^^ sN y) = sN x from by
    have e : sN y = false := decide_eq_false (by omega)
    rw [e]; cases sN x <;> rfl, vZ_sn]; rfl
theorem diZ_inf (K : Nat) (d x : Int) (hx : -9218868437227405312 < x ∧ x < 9218868437227405312) : diZ K d x 9218868437227405312 = 0 := by
  unfold diZ oD
  rw [if_neg (by omega), if_neg (by omega), if_neg (by omega), if_pos (by omega)]; rfl
theorem diZ_hi (K : Nat) (d y : Int) (hy : 0 < y ∧ y < 9218868437227405312) : diZ K d 9218868437227405312 y = 9218868437227405312 := by
  unfold diZ oD
  rw [if_neg (by omega), if_neg (by omega), if_pos (by omega)]
  unfold sN
  rw [decide_eq_false (by omega), decide_eq_false (by omega)]; rfl
theorem diZ_lo (K : Nat) (d y : Int) (hy : 0 < y ∧ y < 9218868437227405312) : diZ K d (-9218868437227405312) y = -9218868437227405312 := by
  unfold diZ oD
  rw [if_neg (by omega), if_neg (by omega), if_pos (by omega)]
  unfold sN
  rw [decide_eq_true (by omega), decide_eq_false (by omega)]; rfl
theorem vV_pos9 (y : Int) (hy : 0 < y) : 0 < Fq.vV Ieee.double y.natAbs := by
  have := (vV_zero y.natAbs)
  have h : y.natAbs ≠ 0 := by omega
  rcases Nat.eq_zero_or_pos (Fq.vV Ieee.double y.natAbs) with e | e
  · exact absurd (this.1 e) h
  · exact e
theorem diZ_mono (K : Nat) (d x x' y : Int) (hx : BdZ x) (hx' : BdZ x') (hy : 0 < y ∧ y < 9218868437227405312) (h : x ≤ x') : diZ K d x y ≤ diZ K d x' y := by
  unfold BdZ at hx hx'
  by_cases c2 : x = -9218868437227405312
  · rw [c2, diZ_lo K d y hy]; exact (diZ_bd K d x' y).1
  by_cases c3 : x' = 9218868437227405312
  · rw [c3, diZ_hi K d y hy]; exact (diZ_bd K d x y).2
  rw [diZ_fin K d x y (by omega) hy, diZ_fin K d x' y (by omega) hy]
  exact g53_mono _ _ _ (vV_pos9 y hy.1) _ _ (vZ_le x x' h)
theorem vV_le9 (y y' : Int) (hy : 0 < y) (h : y ≤ y') : Fq.vV Ieee.double y.natAbs ≤ Fq.vV Ieee.double y'.natAbs := by
  have g := vZ_le y y' h
  rw [vZ_pos y (by omega), vZ_pos y' (by omega)] at g
  omega
theorem diZ_anti (K : Nat) (d x y y' : Int) (hx : 0 ≤ x ∧ x ≤ 9218868437227405312) (hy : 0 < y) (hy' : y' ≤ 9218868437227405312) (h : y ≤ y') (hb : ¬ (x = 9218868437227405312 ∧ y' = 9218868437227405312)) : diZ K d x y' ≤ diZ K d x y := by
  by_cases c1 : y' = 9218868437227405312
  · rw [c1, diZ_inf K d x (by omega)]
    by_cases c2 : y = 9218868437227405312
    · rw [c2, diZ_inf K d x (by omega)]; omega
    · rw [diZ_fin K d x y (by omega) (by omega)]
      exact g53_nn _ _ _ _ (vZ_nn x hx.1)
  by_cases c3 : x = 9218868437227405312
  · rw [c3, diZ_hi K d y (by omega), diZ_hi K d y' (by omega)]; omega
  rw [diZ_fin K d x y (by omega) (by omega), diZ_fin K d x y' (by omega) (by omega)]
  exact g53_anti _ _ _ _ (vV_pos9 y hy) (vV_le9 y y' hy h) _ (vZ_nn x hx.1)
theorem diZ_dn (K : Nat) (x y : Int) (hy : 0 < y) : diZ K (-1) x y ≤ -(diZ K (-1) (-x) y) := by
  rw [diZ_m1, Int.neg_neg]
  unfold diZ oD
  repeat' split
  all_goals simp only [Option.getD]
  all_goals first | omega | exact (g53_lohi _ _ (vV_pos9 y hy) _).1
theorem diZ_lt (K : Nat) (x y : Int) (hx : -9218868437227405312 < x ∧ x < 9218868437227405312) (hy : 0 < y ∧ y ≤ 9218868437227405312) : diZ K (-1) x y < 9218868437227405312 := by
  by_cases c : y = 9218868437227405312
  · rw [c, diZ_inf K _ x hx]; omega
  · rw [diZ_fin K _ x y hx (by omega)]
    exact (g53_lohi _ _ (vV_pos9 y hy.1) _).2.1
theorem diZ_gt (K : Nat) (x y : Int) (hx : -9218868437227405312 < x ∧ x < 9218868437227405312) (hy : 0 < y ∧ y ≤ 9218868437227405312) : -9218868437227405312 < diZ K 1 x y := by
  by_cases c : y = 9218868437227405312
  · rw [c, diZ_inf K _ x hx]; omega
  · rw [diZ_fin K _ x y hx (by omega)]
    exact (g53_lohi _ _ (vV_pos9 y hy.1) _).2.2
def qL (K : Nat) (L1 L2 H2 : Int) : Int := if L1 < 0 then diZ K (-1) L1 L2 else diZ K (-1) L1 H2
theorem lst_qP (K : Nat) (L1 H1 L2 H2 : Int) (h : 0 < L2 ∧ L2 ≤ H2) : lst (diZ K (-1)) L1 H1 H2 L2 = qL K L1 L2 H2 := by
  unfold lst qL
  repeat' split
  all_goals first | rfl | (exfalso; omega)
theorem lst_qN (K : Nat) (L1 H1 L2 H2 : Int) (h1 : L1 ≤ H1) (h : L2 ≤ H2 ∧ H2 < 0) : lst (diZ K (-1)) L1 H1 H2 L2 = qL K (-H1) (-H2) (-L2) := by
  have e1 := diZ_neg K (-1) H1 (-H2) (by omega)
  have e2 := diZ_neg K (-1) H1 (-L2) (by omega)
  rw [Int.neg_neg] at e1 e2
  unfold lst qL
  rw [e1, e2]
  repeat' split
  all_goals first | rfl | (exfalso; omega)
theorem qL_le (K : Nat) (L1 L2 H2 : Int) (h1 : -9218868437227405312 ≤ L1 ∧ L1 < 9218868437227405312) (h2 : 0 < L2 ∧ L2 ≤ H2 ∧ H2 ≤ 9218868437227405312) : qL K L1 L2 H2 ≤ diZ K (-1) L1 L2 := by
  unfold qL
  split
  · exact Int.le_refl _
  · exact diZ_anti K (-1) L1 L2 H2 (by omega) (by omega) (by omega) (by omega) (by omega)
theorem qL_vd (K : Nat) (L1 H1 L2 H2 : Int) (d1 : -9218868437227405312 ≤ L1 ∧ L1 < 9218868437227405312 ∧ -9218868437227405312 < H1 ∧ H1 ≤ 9218868437227405312 ∧ L1 ≤ H1) (h2 : 0 < L2 ∧ L2 ≤ H2 ∧ H2 ≤ 9218868437227405312 ∧ L2 < 9218868437227405312) : VdZ (qL K L1 L2 H2) (-(qL K (-H1) L2 H2)) := by
  have a1 := qL_le K L1 L2 H2 (by omega) (by omega)
  have a2 := qL_le K (-H1) L2 H2 (by omega) (by omega)
  have a3 := diZ_mono K (-1) L1 H1 L2 (by unfold BdZ; omega) (by unfold BdZ; omega) (by omega) (by omega)
  have a4 := diZ_dn K H1 L2 (by omega)
  obtain ⟨p, hp, fp⟩ : ∃ p, (L1 ≤ p ∧ p ≤ H1) ∧ -9218868437227405312 < p ∧ p < 9218868437227405312 := by
    by_cases c : L1 = -9218868437227405312
    · by_cases c2 : H1 = 9218868437227405312
      · exact ⟨0, by omega, by omega⟩
      · exact ⟨H1, by omega, by omega⟩
    · exact ⟨L1, by omega, by omega⟩
  have a5 := diZ_mono K (-1) L1 p L2 (by unfold BdZ; omega) (by unfold BdZ; omega) (by omega) hp.1
  have a6 := diZ_lt K p L2 fp (by omega)
  have a7 := diZ_mono K (-1) (-H1) (-p) L2 (by unfold BdZ; omega) (by unfold BdZ; omega) (by omega) (by omega)
  have a8 := diZ_lt K (-p) L2 (by omega) (by omega)
  have b1 : BdZ (qL K L1 L2 H2) := by unfold qL; split <;> exact diZ_bd _ _ _ _
  have b2 : BdZ (qL K (-H1) L2 H2) := by unfold qL; split <;> exact diZ_bd _ _ _ _
  unfold BdZ at b1 b2
  exact Or.inr (by omega)
theorem vd_by (K : Nat) (L1 H1 L2 H2 : Int) (d1 : -9218868437227405312 ≤ L1 ∧ L1 < 9218868437227405312 ∧ -9218868437227405312 < H1 ∧ H1 ≤ 9218868437227405312 ∧ L1 ≤ H1) (d2 : -9218868437227405312 ≤ L2 ∧ L2 < 9218868437227405312 ∧ -9218868437227405312 < H2 ∧ H2 ≤ 9218868437227405312 ∧ L2 ≤ H2) (hz : L2 ≤ 0 ∧ 0 ≤ H2) : VdZ (bLo K L1 H1 L2 H2) (bHi K L1 H1 L2 H2) := by
  have g1 := diZ_bd K (-1) L1 H2
  have g2 := diZ_bd K 1 H1 H2
  have g3 := diZ_bd K 1 L1 L2
  have g4 := diZ_bd K (-1) H1 L2
  have e1 := diZ_neg K 1 (-L1) L2
  have e2 := diZ_neg K (-1) (-H1) L2
  rw [Int.neg_neg] at e1 e2
  have s1 : 0 ≤ L1 → 0 < H2 → diZ K (-1) L1 H2 < 9218868437227405312 := fun h1 h2 => diZ_lt K L1 H2 (by omega) (by omega)
  have s2 : H1 ≤ 0 → 0 < H2 → -9218868437227405312 < diZ K 1 H1 H2 := fun h1 h2 => diZ_gt K H1 H2 (by omega) (by omega)
  have s3 : 0 ≤ L1 → L2 < 0 → -9218868437227405312 < diZ K 1 L1 L2 := fun h1 h2 => by rw [e1 (by omega)]; exact diZ_gt K (-L1) (-L2) (by omega) (by omega)
  have s4 : H1 ≤ 0 → L2 < 0 → diZ K (-1) H1 L2 < 9218868437227405312 := fun h1 h2 => by rw [e2 (by omega)]; exact diZ_lt K (-H1) (-L2) (by omega) (by omega)
  unfold BdZ at g1 g2 g3 g4
  unfold bLo bHi VdZ
  by_cases c0 : L2 = 0 ∧ H2 = 0
  · rw [if_pos c0, if_pos c0]; omega
  rw [if_neg c0, if_neg c0]
  by_cases c1 : L1 = 0 ∧ H1 = 0
  · rw [if_pos c1, if_pos c1]; omega
  rw [if_neg c1, if_neg c1]
  by_cases c2 : L2 < 0 ∧ 0 < H2
  · rw [if_pos c2, if_pos c2]; omega
  rw [if_neg c2, if_neg c2]
  by_cases c3 : L1 < 0 ∧ 0 < H1
  · rw [if_pos c3, if_pos c3]; omega
  rw [if_neg c3, if_neg c3]
  by_cases c4 : L2 = 0 ∧ 0 ≤ L1
  · rw [if_pos c4, if_pos c4]
    have := s1 (by omega) (by omega)
    omega
  rw [if_neg c4, if_neg c4]
  by_cases c5 : L2 = 0
  · rw [if_pos c5, if_pos c5]
    have := s2 (by omega) (by omega)
    omega
  rw [if_neg c5, if_neg c5]
  by_cases c6 : 0 ≤ L1
  · rw [if_pos c6, if_pos c6]
    have := s3 (by omega) (by omega)
    omega
  rw [if_neg c6, if_neg c6]
  have := s4 (by omega) (by omega)
  omega
theorem vd_div (K : Nat) (L1 H1 L2 H2 : Int) (d1 : VdZ L1 H1) (d2 : VdZ L2 H2) : VdZ (dLo K L1 H1 L2 H2) (dHi K L1 H1 L2 H2) := by
  unfold dLo dHi
  by_cases c : L1 = 9218868437227405312 ∨ L2 = 9218868437227405312
  · rw [if_pos c, if_pos c]; exact Or.inl ⟨rfl, rfl⟩
  rw [if_neg c, if_neg c]
  unfold VdZ at d1 d2
  by_cases c3 : L2 ≤ 0 ∧ 0 ≤ H2
  · rw [if_pos c3, if_pos c3]
    exact vd_by K L1 H1 L2 H2 (by omega) (by omega) c3
  rw [if_neg c3, if_neg c3]
  by_cases c4 : 0 < L2
  · rw [lst_qP K L1 H1 L2 H2 (by omega), lst_qP K (-H1) (-L1) L2 H2 (by omega)]
    exact qL_vd K L1 H1 L2 H2 (by omega) (by omega)
  · rw [lst_qN K L1 H1 L2 H2 (by omega) (by omega), lst_qN K (-H1) (-L1) L2 H2 (by omega) (by omega), Int.neg_neg]
    have h := qL_vd K (-H1) (-L1) (-H2) (-L2) (by omega) (by omega)
    rw [Int.neg_neg] at h
    exact h
theorem d_neg (K : Nat) (L1 H1 L2 H2 : Int) (d1 : VdZ L1 H1) (d2 : VdZ L2 H2) : dLo K (-H1) (-L1) L2 H2 = -(dHi K L1 H1 L2 H2) ∧ dHi K (-H1) (-L1) L2 H2 = -(dLo K L1 H1 L2 H2) := by
  unfold dLo dHi
  unfold VdZ at d1 d2
  by_cases c : L1 = 9218868437227405312 ∨ L2 = 9218868437227405312
  · rw [if_pos c, if_pos c, if_pos (show -H1 = 9218868437227405312 ∨ L2 = 9218868437227405312 by omega), if_pos (show -H1 = 9218868437227405312 ∨ L2 = 9218868437227405312 by omega)]
    exact ⟨by omega, rfl⟩
  rw [if_neg c, if_neg c, if_neg (show ¬ (-H1 = 9218868437227405312 ∨ L2 = 9218868437227405312) by omega), if_neg (show ¬ (-H1 = 9218868437227405312 ∨ L2 = 9218868437227405312) by omega)]
  by_cases c3 : L2 ≤ 0 ∧ 0 ≤ H2
  · rw [if_pos c3, if_pos c3, if_pos c3, if_pos c3]
    have e1 := diZ_m1 K H1 H2
    have e2 := diZ_m1 K L1 L2
    have e3 := diZ_m K (-1) L1 H2
    have e4 := diZ_m K (-1) H1 L2
    rw [show (-(-1) : Int) = 1 from rfl] at e3 e4
    unfold bLo bHi
    constructor
    · rw [e1, e2]
      repeat' split
      all_goals first | omega | rfl
    · rw [e3, e4]
      repeat' split
      all_goals first | omega | rfl
  · rw [if_neg c3, if_neg c3, if_neg c3, if_neg c3, Int.neg_neg, Int.neg_neg, Int.neg_neg]
    exact ⟨rfl, rfl⟩
theorem m_neg (K : Nat) (L1 H1 L2 H2 : Int) (d1 : VdZ L1 H1) (d2 : VdZ L2 H2) : mLo K (-H1) (-L1) L2 H2 = -(mHi K L1 H1 L2 H2) ∧ mHi K (-H1) (-L1) L2 H2 = -(mLo K L1 H1 L2 H2) := by
  unfold mLo mHi
  unfold VdZ at d1 d2
  by_cases c : L1 = 9218868437227405312 ∨ L2 = 9218868437227405312
  · rw [if_pos c, if_pos c, if_pos (show -H1 = 9218868437227405312 ∨ L2 = 9218868437227405312 by omega), if_pos (show -H1 = 9218868437227405312 ∨ L2 = 9218868437227405312 by omega)]
    exact ⟨by omega, rfl⟩
  rw [if_neg c, if_neg c, if_neg (show ¬ (-H1 = 9218868437227405312 ∨ L2 = 9218868437227405312) by omega), if_neg (show ¬ (-H1 = 9218868437227405312 ∨ L2 = 9218868437227405312) by omega), Int.neg_neg, Int.neg_neg, Int.neg_neg]
  exact ⟨rfl, rfl⟩
theorem m_sym (K : Nat) (L1 H1 L2 H2 : Int) (d1 : VdZ L1 H1) (d2 : VdZ L2 H2) : mLo K L2 H2 L1 H1 = mLo K L1 H1 L2 H2 ∧ mHi K L2 H2 L1 H1 = mHi K L1 H1 L2 H2 := by
  unfold mLo mHi
  unfold VdZ at d1 d2
  by_cases c : L1 = 9218868437227405312 ∨ L2 = 9218868437227405312
  · have c' : L2 = 9218868437227405312 ∨ L1 = 9218868437227405312 := by omega
    rw [if_pos c, if_pos c, if_pos c', if_pos c']
    exact ⟨rfl, rfl⟩
  have c' : ¬ (L2 = 9218868437227405312 ∨ L1 = 9218868437227405312) := by omega
  rw [if_neg c, if_neg c, if_neg c', if_neg c']
  refine ⟨lst_sym _ (prZ_sym K) _ _ _ _ (by omega) (by omega), ?_⟩
  rw [lst_turn _ (prZ_sym K) (prZ_neg K) (prZ_z K) L2 H2 L1 H1 (by omega) (by omega)]
theorem f_sym (K : Nat) (L1 H1 L2 H2 L3 H3 : Int) (d1 : VdZ L1 H1) (d2 : VdZ L2 H2) : fLo K L2 H2 L1 H1 L3 H3 = fLo K L1 H1 L2 H2 L3 H3 ∧ fHi K L2 H2 L1 H1 L3 H3 = fHi K L1 H1 L2 H2 L3 H3 := by
  unfold fLo fHi
  unfold VdZ at d1 d2
  by_cases c : L1 = 9218868437227405312 ∨ L2 = 9218868437227405312 ∨ L3 = 9218868437227405312
  · have c' : L2 = 9218868437227405312 ∨ L1 = 9218868437227405312 ∨ L3 = 9218868437227405312 := by omega
    rw [if_pos c, if_pos c, if_pos c', if_pos c']
    exact ⟨rfl, rfl⟩
  have c' : ¬ (L2 = 9218868437227405312 ∨ L1 = 9218868437227405312 ∨ L3 = 9218868437227405312) := by omega
  rw [if_neg c, if_neg c, if_neg c', if_neg c']
  refine ⟨lst_sym _ (fmZ_sym K L3) _ _ _ _ (by omega) (by omega), ?_⟩
  rw [lst_turn _ (fmZ_sym K (-H3)) (fmZ_neg K (-H3)) (fmZ_z K (-H3)) L2 H2 L1 H1 (by omega) (by omega)]
theorem a_sym (L1 H1 L2 H2 : Int) : aLo L2 H2 L1 H1 = aLo L1 H1 L2 H2 ∧ aHi L2 H2 L1 H1 = aHi L1 H1 L2 H2 := by
  unfold aLo aHi adZ
  rw [oA_sym (-1) (sN L2), oA_sym 1 (sN H2)]
  by_cases c : L1 = 9218868437227405312 ∨ L2 = 9218868437227405312
  · have c' : L2 = 9218868437227405312 ∨ L1 = 9218868437227405312 := by omega
    rw [if_pos c, if_pos c, if_pos c', if_pos c']
    exact ⟨rfl, rfl⟩
  have c' : ¬ (L2 = 9218868437227405312 ∨ L1 = 9218868437227405312) := by omega
  rw [if_neg c, if_neg c, if_neg c', if_neg c']
  exact ⟨rfl, rfl⟩
end Go.Proofs.YtkheefoabcibkaaGreatDoor
