import Derived.Test.YtinohggonicjhaaGreatDoorKIYp
namespace Go.Proofs.YtinohggonicjhaaGreatDoor
open Go.RowKit

set_option linter.unusedVariables false
def pII (p q : Int) : Prop := (p ≠ 0 ∧ q ≠ 0) ∧ ((p = 9218868437227405312 ∨ p = -9218868437227405312) ∨ (q = 9218868437227405312 ∨ q = -9218868437227405312))
instance (p q : Int) : Decidable (pII p q) := by unfold pII; infer_instance
def pi9 (p q : Int) : Int := if pII p q then (if (p < 0 ↔ q < 0) then 1 else -1) else 0
def pV9 (p q : Int) : Int := if pII p q then 0 else vZ p * vZ q
def rB (K : Nat) (d i V : Int) : Int := if i = 1 then 9218868437227405312 else if i = -1 then -9218868437227405312 else g53 d 1 (2 ^ K) V
def cmJ (V W : Int) : Int := if V < W then -1 else if W < V then 1 else 0
def cB (i V j W : Int) : Int := if i < j then -1 else if j < i then 1 else if i ≠ 0 then 0 else cmJ V W
theorem pi9_is (p q : Int) : pi9 p q = 0 ∨ pi9 p q = 1 ∨ pi9 p q = -1 := by
  unfold pi9; repeat' split
  all_goals omega
theorem prZ_rB (K : Nat) (p q : Int) (hp : BdZ p) (hq : BdZ q) : prZ K p q = rB K (-1) (pi9 p q) (pV9 p q) := by
  unfold BdZ at hp hq
  by_cases c : pII p q
  · unfold rB pi9 pV9
    rw [if_pos c, if_pos c]
    have c2 := c
    unfold pII at c2
    unfold prZ muZ oM
    rw [if_neg (by omega), if_neg (by omega), if_pos (by omega)]
    unfold sN
    by_cases c3 : p < 0
    · by_cases c4 : q < 0
      · rw [decide_eq_true c3, decide_eq_true c4, if_pos (show (p < 0 ↔ q < 0) by omega)]; rfl
      · rw [decide_eq_true c3, decide_eq_false c4, if_neg (show ¬ (p < 0 ↔ q < 0) by omega)]; rfl
    · by_cases c4 : q < 0
      · rw [decide_eq_false c3, decide_eq_true c4, if_neg (show ¬ (p < 0 ↔ q < 0) by omega)]; rfl
      · rw [decide_eq_false c3, decide_eq_false c4, if_pos (show (p < 0 ↔ q < 0) by omega)]; rfl
  · unfold rB pi9 pV9
    rw [if_neg c, if_neg c, if_neg (by decide), if_neg (by decide)]
    unfold pII at c
    by_cases z : p = 0 ∨ q = 0
    · have e : vZ p * vZ q = 0 := by
        rcases z with z | z
        · rw [z, vZ_zero, Int.zero_mul]
        · rw [z, vZ_zero, Int.mul_zero]
      rw [e]
      unfold prZ g53 gpl
      rw [if_pos z, if_pos rfl]
    · exact prZ_fin K p q (by omega) (by omega)
theorem pII_neg (p q : Int) : pII (-p) q ↔ pII p q := by unfold pII; omega
theorem pi9_neg (p q : Int) : pi9 (-p) q = -(pi9 p q) := by
  unfold pi9
  by_cases c : pII p q
  · rw [if_pos c, if_pos ((pII_neg p q).2 c)]
    unfold pII at c
    by_cases c2 : (p < 0 ↔ q < 0)
    · rw [if_pos c2, if_neg (show ¬ ((-p) < 0 ↔ q < 0) by omega)]
    · rw [if_neg c2, if_pos (show ((-p) < 0 ↔ q < 0) by omega)]; rfl
  · rw [if_neg c, if_neg (fun h => c ((pII_neg p q).1 h))]; rfl
theorem pV9_neg (p q : Int) : pV9 (-p) q = -(pV9 p q) := by
  unfold pV9
  by_cases c : pII p q
  · rw [if_pos c, if_pos ((pII_neg p q).2 c)]; rfl
  · rw [if_neg c, if_neg (fun h => c ((pII_neg p q).1 h)), vZ_neg, Int.neg_mul]
theorem rB_neg (K : Nat) (i V : Int) (hi : i = 0 ∨ i = 1 ∨ i = -1) : -(rB K (-1) (-i) (-V)) = rB K 1 i V := by
  unfold rB
  rcases hi with rfl | rfl | rfl
  · have h := g53_neg 1 1 (2 ^ K) V
    rw [if_neg (by decide), if_neg (by decide), if_neg (by decide), if_neg (by decide), h, Int.neg_neg]
  · rfl
  · rfl
theorem prZ_rB1 (K : Nat) (p q : Int) (hp : BdZ p) (hq : BdZ q) : -(prZ K (-p) q) = rB K 1 (pi9 p q) (pV9 p q) := by
  rw [prZ_rB K (-p) q (bd_neg _ hp) hq, pi9_neg, pV9_neg]
  exact rB_neg K _ _ (pi9_is p q)
theorem rB_mono (K : Nat) (d i V j W : Int) (hi : i = 0 ∨ i = 1 ∨ i = -1) (hj : j = 0 ∨ j = 1 ∨ j = -1) (h : cB i V j W ≤ 0) : rB K d i V ≤ rB K d j W := by
  have b1 := g53_le d 1 (2 ^ K) V
  have b2 := g53_le d 1 (2 ^ K) W
  unfold cB at h
  unfold rB
  rcases hi with rfl | rfl | rfl <;> rcases hj with rfl | rfl | rfl
  · have q : V ≤ W := by
      rw [if_neg (by decide), if_neg (by decide), if_neg (by decide)] at h
      unfold cmJ at h
      rcases Int.lt_or_le W V with c | c
      · rw [if_neg (by omega), if_pos c] at h; omega
      · exact c
    rw [if_neg (by decide), if_neg (by decide), if_neg (by decide), if_neg (by decide)]
    exact g53_mono _ _ _ (Nat.two_pow_pos K) _ _ q
  all_goals first | (exfalso; revert h; decide) | (simp; done) | (simp; omega) | (simp <;> omega)
def lB (a b : Int × Int) : Int × Int := if cB b.1 b.2 a.1 a.2 < 0 then b else a
def gB (a b : Int × Int) : Int × Int := if 0 < cB b.1 b.2 a.1 a.2 then b else a
def okB (a : Int × Int) : Prop := a.1 = 0 ∨ a.1 = 1 ∨ a.1 = -1
theorem cB_flip (i V j W : Int) : cB j W i V = -(cB i V j W) := by
  unfold cB
  rcases Int.lt_trichotomy i j with c | c | c
  · rw [if_neg (show ¬ j < i by omega), if_pos c, if_pos c]; rfl
  · subst c
    rw [if_neg (show ¬ i < i by omega), if_neg (show ¬ i < i by omega), if_neg (show ¬ i < i by omega), if_neg (show ¬ i < i by omega)]
    by_cases z : i = 0
    · rw [if_neg (show ¬ i ≠ 0 by omega), if_neg (show ¬ i ≠ 0 by omega)]
      unfold cmJ
      repeat' split
      all_goals omega
    · rw [if_pos z, if_pos z]; rfl
  · rw [if_pos c, if_neg (show ¬ i < j by omega), if_pos c]
theorem lB_le (K : Nat) (d : Int) (a b : Int × Int) (ha : okB a) (hb : okB b) : rB K d (lB a b).1 (lB a b).2 = min (rB K d a.1 a.2) (rB K d b.1 b.2) ∧ okB (lB a b) := by
  unfold lB
  by_cases c : cB b.1 b.2 a.1 a.2 < 0
  · rw [if_pos c]
    have := rB_mono K d b.1 b.2 a.1 a.2 hb ha (by omega)
    exact ⟨by omega, hb⟩
  · rw [if_neg c]
    have e := cB_flip a.1 a.2 b.1 b.2
    have := rB_mono K d a.1 a.2 b.1 b.2 ha hb (by omega)
    exact ⟨by omega, ha⟩
theorem gB_le (K : Nat) (d : Int) (a b : Int × Int) (ha : okB a) (hb : okB b) : rB K d (gB a b).1 (gB a b).2 = max (rB K d a.1 a.2) (rB K d b.1 b.2) ∧ okB (gB a b) := by
  unfold gB
  by_cases c : 0 < cB b.1 b.2 a.1 a.2
  · rw [if_pos c]
    have e := cB_flip a.1 a.2 b.1 b.2
    have := rB_mono K d a.1 a.2 b.1 b.2 ha hb (by omega)
    exact ⟨by omega, hb⟩
  · rw [if_neg c]
    have := rB_mono K d b.1 b.2 a.1 a.2 hb ha (by omega)
    exact ⟨by omega, ha⟩
theorem lst_min (f : Int → Int → Int) (e : Int) (G : Gd f e) (L1 H1 L2 H2 : Int) (h1 : L1 ≤ H1) (h2 : L2 ≤ H2) (b1 : BdZ L1) (b2 : BdZ H1) (b3 : BdZ L2) (b4 : BdZ H2) : lst f L1 H1 L2 H2 = min (min (f L1 L2) (f L1 H2)) (min (f H1 L2) (f H1 H2)) := by
  have k1 := lst_le G L1 H1 L2 H2 L1 L2 b1 b2 b3 b4 (by omega) (by omega)
  have k2 := lst_le G L1 H1 L2 H2 L1 H2 b1 b2 b3 b4 (by omega) (by omega)
  have k3 := lst_le G L1 H1 L2 H2 H1 L2 b1 b2 b3 b4 (by omega) (by omega)
  have k4 := lst_le G L1 H1 L2 H2 H1 H2 b1 b2 b3 b4 (by omega) (by omega)
  have k5 : lst f L1 H1 L2 H2 = f L1 L2 ∨ lst f L1 H1 L2 H2 = f L1 H2 ∨ lst f L1 H1 L2 H2 = f H1 L2 ∨ lst f L1 H1 L2 H2 = f H1 H2 := by
    unfold lst
    repeat' split
    all_goals omega
  omega
theorem mm4 (a b c d : Int) : max (max (-a) (-b)) (max (-c) (-d)) = -(min (min c d) (min a b)) := by omega
theorem lo_eq (K : Nat) (L1 H1 L2 H2 : Int) (b1 : BdZ L1) (b2 : BdZ H1) (b3 : BdZ L2) (b4 : BdZ H2) (h1 : L1 ≤ H1) (h2 : L2 ≤ H2) : rB K (-1) (lB (lB (pi9 L1 L2, pV9 L1 L2) (pi9 L1 H2, pV9 L1 H2)) (lB (pi9 H1 L2, pV9 H1 L2) (pi9 H1 H2, pV9 H1 H2))).1 (lB (lB (pi9 L1 L2, pV9 L1 L2) (pi9 L1 H2, pV9 L1 H2)) (lB (pi9 H1 L2, pV9 H1 L2) (pi9 H1 H2, pV9 H1 H2))).2 = lst (prZ K) L1 H1 L2 H2 := by
  have l1 := lB_le K (-1) (pi9 L1 L2, pV9 L1 L2) (pi9 L1 H2, pV9 L1 H2) (pi9_is _ _) (pi9_is _ _)
  have l2 := lB_le K (-1) (pi9 H1 L2, pV9 H1 L2) (pi9 H1 H2, pV9 H1 H2) (pi9_is _ _) (pi9_is _ _)
  rw [(lB_le K (-1) _ _ l1.2 l2.2).1, l1.1, l2.1, lst_min (prZ K) 0 (prZ_gd K) L1 H1 L2 H2 h1 h2 b1 b2 b3 b4, prZ_rB K L1 L2 b1 b3, prZ_rB K L1 H2 b1 b4, prZ_rB K H1 L2 b2 b3, prZ_rB K H1 H2 b2 b4]
theorem hi_eq (K : Nat) (L1 H1 L2 H2 : Int) (b1 : BdZ L1) (b2 : BdZ H1) (b3 : BdZ L2) (b4 : BdZ H2) (h1 : L1 ≤ H1) (h2 : L2 ≤ H2) : rB K 1 (gB (gB (pi9 L1 L2, pV9 L1 L2) (pi9 L1 H2, pV9 L1 H2)) (gB (pi9 H1 L2, pV9 H1 L2) (pi9 H1 H2, pV9 H1 H2))).1 (gB (gB (pi9 L1 L2, pV9 L1 L2) (pi9 L1 H2, pV9 L1 H2)) (gB (pi9 H1 L2, pV9 H1 L2) (pi9 H1 H2, pV9 H1 H2))).2 = -(lst (prZ K) (-H1) (-L1) L2 H2) := by
  have l1 := gB_le K 1 (pi9 L1 L2, pV9 L1 L2) (pi9 L1 H2, pV9 L1 H2) (pi9_is _ _) (pi9_is _ _)
  have l2 := gB_le K 1 (pi9 H1 L2, pV9 H1 L2) (pi9 H1 H2, pV9 H1 H2) (pi9_is _ _) (pi9_is _ _)
  rw [(gB_le K 1 _ _ l1.2 l2.2).1, l1.1, l2.1, lst_min (prZ K) 0 (prZ_gd K) (-H1) (-L1) L2 H2 (by omega) h2 (bd_neg _ b2) (bd_neg _ b1) b3 b4]
  rw [← mm4, prZ_rB1 K L1 L2 b1 b3, prZ_rB1 K L1 H2 b1 b4, prZ_rB1 K H1 L2 b2 b3, prZ_rB1 K H1 H2 b2 b4]
theorem times_eq (K : Nat) (L1 H1 L2 H2 : Int) (d1 : VdZ L1 H1) (d2 : VdZ L2 H2) (n1 : L1 ≠ 9218868437227405312) (n2 : L2 ≠ 9218868437227405312) : (lB (lB (pi9 L1 L2, pV9 L1 L2) (pi9 L1 H2, pV9 L1 H2)) (lB (pi9 H1 L2, pV9 H1 L2) (pi9 H1 H2, pV9 H1 H2))).1 ≠ 1 ∧ (gB (gB (pi9 L1 L2, pV9 L1 L2) (pi9 L1 H2, pV9 L1 H2)) (gB (pi9 H1 L2, pV9 H1 L2) (pi9 H1 H2, pV9 H1 H2))).1 ≠ -1 ∧ rB K (-1) (lB (lB (pi9 L1 L2, pV9 L1 L2) (pi9 L1 H2, pV9 L1 H2)) (lB (pi9 H1 L2, pV9 H1 L2) (pi9 H1 H2, pV9 H1 H2))).1 (lB (lB (pi9 L1 L2, pV9 L1 L2) (pi9 L1 H2, pV9 L1 H2)) (lB (pi9 H1 L2, pV9 H1 L2) (pi9 H1 H2, pV9 H1 H2))).2 = mLo K L1 H1 L2 H2 ∧ rB K 1 (gB (gB (pi9 L1 L2, pV9 L1 L2) (pi9 L1 H2, pV9 L1 H2)) (gB (pi9 H1 L2, pV9 H1 L2) (pi9 H1 H2, pV9 H1 H2))).1 (gB (gB (pi9 L1 L2, pV9 L1 L2) (pi9 L1 H2, pV9 L1 H2)) (gB (pi9 H1 L2, pV9 H1 L2) (pi9 H1 H2, pV9 H1 H2))).2 = mHi K L1 H1 L2 H2 := by
  have b1 := d1.lo; have b2 := d1.hi; have b3 := d2.lo; have b4 := d2.hi
  unfold VdZ at d1 d2
  have h1 : L1 ≤ H1 := by omega
  have h2 : L2 ≤ H2 := by omega
  have cE : ¬ (L1 = 9218868437227405312 ∨ L2 = 9218868437227405312) := by omega
  have z1 := prZ_top K L1 H1 L2 H2 (by omega) (by omega)
  have z2 := prZ_top K (-H1) (-L1) L2 H2 (by omega) (by omega)
  have y1 : ∀ X : Int, rB K (-1) 1 X = 9218868437227405312 := fun X => by unfold rB; rw [if_pos rfl]
  have y2 : ∀ X : Int, rB K 1 (-1) X = -9218868437227405312 := fun X => by unfold rB; rw [if_neg (by decide), if_pos rfl]
  have E1 := lo_eq K L1 H1 L2 H2 b1 b2 b3 b4 h1 h2
  have E2 := hi_eq K L1 H1 L2 H2 b1 b2 b3 b4 h1 h2
  unfold mLo mHi
  rw [if_neg cE, if_neg cE]
  clear d1 d2 cE
  refine ⟨fun h => ?_, fun h => ?_, E1, E2⟩
  · rw [h, y1] at E1
    rw [← E1] at z1
    exact absurd z1 (by decide)
  · rw [h, y2] at E2
    omega

set_option linter.unusedVariables false
def rF (K : Nat) (d e : Int) (B : Int × Int) : Int := if B.1 = 1 then 9218868437227405312 else if B.1 = -1 then -9218868437227405312 else g53 d 1 (2 ^ K) (B.2 + vZ e * ((2 ^ K : Nat) : Int))
theorem fm_rF (K : Nat) (e p q : Int) (he : -9218868437227405312 < e ∧ e < 9218868437227405312) (hp : BdZ p) (hq : BdZ q) : fmZ K e p q = rF K (-1) e (pi9 p q, pV9 p q) := by
  unfold BdZ at hp hq
  unfold rF
  by_cases c : pII p q
  · have e1 : pi9 p q = if (p < 0 ↔ q < 0) then 1 else -1 := by unfold pi9; rw [if_pos c]
    have c2 := c
    unfold pII at c2
    unfold fmZ fuZ oF
    rw [if_neg (by omega), if_neg (by omega), if_neg (by omega), if_neg (by omega)]
    show sgI (sN p ^^ sN q) = if pi9 p q = 1 then 9218868437227405312 else if pi9 p q = -1 then -9218868437227405312 else _
    rw [e1]
    unfold sN
    by_cases c3 : p < 0
    · by_cases c4 : q < 0
      · rw [decide_eq_true c3, decide_eq_true c4, if_pos (show (p < 0 ↔ q < 0) by omega), if_pos rfl]; rfl
      · rw [decide_eq_true c3, decide_eq_false c4, if_neg (show ¬ (p < 0 ↔ q < 0) by omega), if_neg (by decide), if_pos rfl]; rfl
    · by_cases c4 : q < 0
      · rw [decide_eq_false c3, decide_eq_true c4, if_neg (show ¬ (p < 0 ↔ q < 0) by omega), if_neg (by decide), if_pos rfl]; rfl
      · rw [decide_eq_false c3, decide_eq_false c4, if_pos (show (p < 0 ↔ q < 0) by omega), if_pos rfl]; rfl
  · have e1 : pi9 p q = 0 := by unfold pi9; rw [if_neg c]
    have e2 : pV9 p q = vZ p * vZ q := by unfold pV9; rw [if_neg c]
    show _ = if pi9 p q = 1 then 9218868437227405312 else if pi9 p q = -1 then -9218868437227405312 else g53 (-1) 1 (2 ^ K) (pV9 p q + vZ e * ((2 ^ K : Nat) : Int))
    rw [e1, e2, if_neg (by decide), if_neg (by decide)]
    unfold pII at c
    by_cases z : p = 0 ∨ q = 0
    · have z2 : vZ p * vZ q = 0 := by
        rcases z with z | z
        · rw [z, vZ_zero, Int.zero_mul]
        · rw [z, vZ_zero, Int.mul_zero]
      rw [z2, Int.zero_add, g53_exact K (-1) e he (Or.inl rfl)]
      unfold fmZ
      rw [if_pos z]
    · exact fmZ_fin K e p q (by omega) (by omega) he
theorem rF_mono (K : Nat) (d e : Int) (a b : Int × Int) (ha : okB a) (hb : okB b) (h : cB a.1 a.2 b.1 b.2 ≤ 0) : rF K d e a ≤ rF K d e b := by
  obtain ⟨i, V⟩ := a
  obtain ⟨j, W⟩ := b
  unfold okB at ha hb
  unfold rF
  have b1 := g53_le d 1 (2 ^ K) (V + vZ e * ((2 ^ K : Nat) : Int))
  have b2 := g53_le d 1 (2 ^ K) (W + vZ e * ((2 ^ K : Nat) : Int))
  unfold cB at h
  simp only at ha hb h ⊢
  rcases ha with rfl | rfl | rfl <;> rcases hb with rfl | rfl | rfl
  · have q : V ≤ W := by
      rw [if_neg (by decide), if_neg (by decide), if_neg (by decide)] at h
      unfold cmJ at h
      rcases Int.lt_or_le W V with c | c
      · rw [if_neg (by omega), if_pos c] at h; omega
      · exact c
    rw [if_neg (by decide), if_neg (by decide), if_neg (by decide), if_neg (by decide)]
    exact g53_mono _ _ _ (Nat.two_pow_pos K) _ _ (by omega)
  all_goals (revert b1 b2; generalize g53 d 1 (2 ^ K) (V + vZ e * ((2 ^ K : Nat) : Int)) = G1; generalize g53 d 1 (2 ^ K) (W + vZ e * ((2 ^ K : Nat) : Int)) = G2; intro b1 b2; first | (exfalso; revert h; decide) | (simp; done) | (simp; omega) | (simp <;> omega))
theorem lBF (K : Nat) (d e : Int) (a b : Int × Int) (ha : okB a) (hb : okB b) : rF K d e (lB a b) = min (rF K d e a) (rF K d e b) ∧ okB (lB a b) := by
  unfold lB
  by_cases c : cB b.1 b.2 a.1 a.2 < 0
  · rw [if_pos c]
    have := rF_mono K d e b a hb ha (by omega)
    exact ⟨by omega, hb⟩
  · rw [if_neg c]
    have f := cB_flip a.1 a.2 b.1 b.2
    have := rF_mono K d e a b ha hb (by omega)
    exact ⟨by omega, ha⟩
theorem gBF (K : Nat) (d e : Int) (a b : Int × Int) (ha : okB a) (hb : okB b) : rF K d e (gB a b) = max (rF K d e a) (rF K d e b) ∧ okB (gB a b) := by
  unfold gB
  by_cases c : 0 < cB b.1 b.2 a.1 a.2
  · rw [if_pos c]
    have f := cB_flip a.1 a.2 b.1 b.2
    have := rF_mono K d e a b ha hb (by omega)
    exact ⟨by omega, hb⟩
  · rw [if_neg c]
    have := rF_mono K d e b a hb ha (by omega)
    exact ⟨by omega, ha⟩
theorem rF_neg (K : Nat) (e i V : Int) (hi : i = 0 ∨ i = 1 ∨ i = -1) : -(rF K (-1) (-e) (-i, -V)) = rF K 1 e (i, V) := by
  unfold rF
  simp only
  rcases hi with rfl | rfl | rfl
  · have h := g53_neg 1 1 (2 ^ K) (V + vZ e * ((2 ^ K : Nat) : Int))
    rw [if_neg (by decide), if_neg (by decide), if_neg (by decide), if_neg (by decide), vZ_neg, show -V + -vZ e * ((2 ^ K : Nat) : Int) = -(V + vZ e * ((2 ^ K : Nat) : Int)) from by rw [Int.neg_mul]; omega, h, Int.neg_neg]
  · rfl
  · rfl
theorem fm_rF1 (K : Nat) (e p q : Int) (he : -9218868437227405312 < e ∧ e < 9218868437227405312) (hp : BdZ p) (hq : BdZ q) : -(fmZ K (-e) (-p) q) = rF K 1 e (pi9 p q, pV9 p q) := by
  rw [fm_rF K (-e) (-p) q (by omega) (bd_neg _ hp) hq, pi9_neg, pV9_neg]
  exact rF_neg K e _ _ (pi9_is p q)
theorem mm4f (a b c d : Int) : max (max (-a) (-b)) (max (-c) (-d)) = -(min (min c d) (min a b)) := by omega
theorem lB_is (a b : Int × Int) : lB a b = a ∨ lB a b = b := by unfold lB; split; exact Or.inr rfl; exact Or.inl rfl
theorem gB_is (a b : Int × Int) : gB a b = a ∨ gB a b = b := by unfold gB; split; exact Or.inr rfl; exact Or.inl rfl
theorem fm_low (K : Nat) (p q : Int) (hp : BdZ p) (hq : BdZ q) (h : pi9 p q ≠ 1) : fmZ K (-9218868437227405312) p q = -9218868437227405312 := by
  unfold BdZ at hp hq
  unfold fmZ
  by_cases z : p = 0 ∨ q = 0
  · rw [if_pos z]
  · rw [if_neg z]
    unfold fuZ oF
    by_cases c : p.natAbs < 9218868437227405312 ∧ q.natAbs < 9218868437227405312
    · rw [if_pos c, if_neg (by decide), if_neg (by decide)]; rfl
    · have c9 : pII p q := by unfold pII; omega
      have hh : ¬ (p < 0 ↔ q < 0) := fun x => h (by unfold pi9; rw [if_pos c9, if_pos x])
      have e1 : (sN p ^^ sN q) = true := by
        unfold sN
        by_cases c3 : p < 0
        · rw [decide_eq_true c3, decide_eq_false (by omega)]; rfl
        · rw [decide_eq_false c3, decide_eq_true (by omega)]; rfl
      have e2 : sN (-9218868437227405312) = true := by decide
      rw [if_neg c, if_neg (by omega), e1, e2, if_neg (by simp)]; rfl
theorem fuse_lo (K : Nat) (L1 H1 L2 H2 L3 : Int) (d1 : VdZ L1 H1) (d2 : VdZ L2 H2) (n1 : L1 ≠ 9218868437227405312) (n2 : L2 ≠ 9218868437227405312) (h3 : -9218868437227405312 ≤ L3 ∧ L3 < 9218868437227405312) : (if (lB (lB (pi9 L1 L2, pV9 L1 L2) (pi9 L1 H2, pV9 L1 H2)) (lB (pi9 H1 L2, pV9 H1 L2) (pi9 H1 H2, pV9 H1 H2))).1 = 0 ∧ L3 ≠ -9218868437227405312 then g53 (-1) 1 (2 ^ K) ((lB (lB (pi9 L1 L2, pV9 L1 L2) (pi9 L1 H2, pV9 L1 H2)) (lB (pi9 H1 L2, pV9 H1 L2) (pi9 H1 H2, pV9 H1 H2))).2 + vZ L3 * ((2 ^ K : Nat) : Int)) else -9218868437227405312) = lst (fmZ K L3) L1 H1 L2 H2 ∧ (lB (lB (pi9 L1 L2, pV9 L1 L2) (pi9 L1 H2, pV9 L1 H2)) (lB (pi9 H1 L2, pV9 H1 L2) (pi9 H1 H2, pV9 H1 H2))).1 ≠ 1 ∧ okB (lB (lB (pi9 L1 L2, pV9 L1 L2) (pi9 L1 H2, pV9 L1 H2)) (lB (pi9 H1 L2, pV9 H1 L2) (pi9 H1 H2, pV9 H1 H2))) := by
  have te := times_eq K L1 H1 L2 H2 d1 d2 n1 n2
  have b1 := d1.lo; have b2 := d1.hi; have b3 := d2.lo; have b4 := d2.hi
  unfold VdZ at d1 d2
  have l1 := lBF K (-1) L3 (pi9 L1 L2, pV9 L1 L2) (pi9 L1 H2, pV9 L1 H2) (pi9_is _ _) (pi9_is _ _)
  have l2 := lBF K (-1) L3 (pi9 H1 L2, pV9 H1 L2) (pi9 H1 H2, pV9 H1 H2) (pi9_is _ _) (pi9_is _ _)
  have l3 := lBF K (-1) L3 _ _ l1.2 l2.2
  refine ⟨?_, te.1, l3.2⟩
  have lm := lst_min (fmZ K L3) L3 (fmZ_gd K L3 h3) L1 H1 L2 H2 (by omega) (by omega) b1 b2 b3 b4
  by_cases c : L3 = -9218868437227405312
  · rw [if_neg (fun x => x.2 c)]
    have one : ∀ p q : Int, BdZ p → BdZ q → pi9 p q ≠ 1 → fmZ K L3 p q = -9218868437227405312 := fun p q hp hq h => by rw [c]; exact fm_low K p q hp hq h
    have low : ∀ p q : Int, -9218868437227405312 ≤ fmZ K L3 p q := fun p q => (fmZ_bd K L3 p q (by unfold BdZ; omega)).1
    have k1 := low L1 L2
    have k2 := low L1 H2
    have k3 := low H1 L2
    have k4 := low H1 H2
    have t1 := te.1
    rw [lm]
    rcases lB_is (lB (pi9 L1 L2, pV9 L1 L2) (pi9 L1 H2, pV9 L1 H2)) (lB (pi9 H1 L2, pV9 H1 L2) (pi9 H1 H2, pV9 H1 H2)) with e | e
    · rw [e] at t1
      rcases lB_is (pi9 L1 L2, pV9 L1 L2) (pi9 L1 H2, pV9 L1 H2) with f | f
      · rw [f] at t1; have := one L1 L2 b1 b3 t1; omega
      · rw [f] at t1; have := one L1 H2 b1 b4 t1; omega
    · rw [e] at t1
      rcases lB_is (pi9 H1 L2, pV9 H1 L2) (pi9 H1 H2, pV9 H1 H2) with f | f
      · rw [f] at t1; have := one H1 L2 b2 b3 t1; omega
      · rw [f] at t1; have := one H1 H2 b2 b4 t1; omega
  · have he : -9218868437227405312 < L3 ∧ L3 < 9218868437227405312 := by omega
    rw [lm, fm_rF K L3 L1 L2 he b1 b3, fm_rF K L3 L1 H2 he b1 b4, fm_rF K L3 H1 L2 he b2 b3, fm_rF K L3 H1 H2 he b2 b4, ← l1.1, ← l2.1, ← l3.1]
    have t1 := te.1
    have ok := l3.2
    unfold okB at ok
    generalize (lB (lB (pi9 L1 L2, pV9 L1 L2) (pi9 L1 H2, pV9 L1 H2)) (lB (pi9 H1 L2, pV9 H1 L2) (pi9 H1 H2, pV9 H1 H2))) = B at t1 ok ⊢
    unfold rF
    by_cases z : B.1 = 0
    · rw [if_pos ⟨z, c⟩, if_neg t1, if_neg (by omega)]
    · rw [if_neg (fun x => z x.1), if_neg t1, if_pos (by omega)]
theorem fuse_hi (K : Nat) (L1 H1 L2 H2 H3 : Int) (d1 : VdZ L1 H1) (d2 : VdZ L2 H2) (n1 : L1 ≠ 9218868437227405312) (n2 : L2 ≠ 9218868437227405312) (h3 : -9218868437227405312 < H3 ∧ H3 ≤ 9218868437227405312) : (if (gB (gB (pi9 L1 L2, pV9 L1 L2) (pi9 L1 H2, pV9 L1 H2)) (gB (pi9 H1 L2, pV9 H1 L2) (pi9 H1 H2, pV9 H1 H2))).1 = 0 ∧ H3 ≠ 9218868437227405312 then g53 1 1 (2 ^ K) ((gB (gB (pi9 L1 L2, pV9 L1 L2) (pi9 L1 H2, pV9 L1 H2)) (gB (pi9 H1 L2, pV9 H1 L2) (pi9 H1 H2, pV9 H1 H2))).2 + vZ H3 * ((2 ^ K : Nat) : Int)) else 9218868437227405312) = -(lst (fmZ K (-H3)) (-H1) (-L1) L2 H2) ∧ (gB (gB (pi9 L1 L2, pV9 L1 L2) (pi9 L1 H2, pV9 L1 H2)) (gB (pi9 H1 L2, pV9 H1 L2) (pi9 H1 H2, pV9 H1 H2))).1 ≠ -1 ∧ okB (gB (gB (pi9 L1 L2, pV9 L1 L2) (pi9 L1 H2, pV9 L1 H2)) (gB (pi9 H1 L2, pV9 H1 L2) (pi9 H1 H2, pV9 H1 H2))) := by
  have te := times_eq K L1 H1 L2 H2 d1 d2 n1 n2
  have b1 := d1.lo; have b2 := d1.hi; have b3 := d2.lo; have b4 := d2.hi
  unfold VdZ at d1 d2
  have l1 := gBF K 1 H3 (pi9 L1 L2, pV9 L1 L2) (pi9 L1 H2, pV9 L1 H2) (pi9_is _ _) (pi9_is _ _)
  have l2 := gBF K 1 H3 (pi9 H1 L2, pV9 H1 L2) (pi9 H1 H2, pV9 H1 H2) (pi9_is _ _) (pi9_is _ _)
  have l3 := gBF K 1 H3 _ _ l1.2 l2.2
  refine ⟨?_, te.2.1, l3.2⟩
  have lm := lst_min (fmZ K (-H3)) (-H3) (fmZ_gd K (-H3) (by omega)) (-H1) (-L1) L2 H2 (by omega) (by omega) (bd_neg _ b2) (bd_neg _ b1) b3 b4
  by_cases c : H3 = 9218868437227405312
  · rw [if_neg (fun x => x.2 c)]
    have one : ∀ p q : Int, BdZ p → BdZ q → pi9 p q ≠ -1 → fmZ K (-H3) (-p) q = -9218868437227405312 := fun p q hp hq h => by rw [c]; exact fm_low K (-p) q (bd_neg _ hp) hq (by rw [pi9_neg]; omega)
    have low : ∀ p q : Int, -9218868437227405312 ≤ fmZ K (-H3) p q := fun p q => (fmZ_bd K (-H3) p q (by unfold BdZ; omega)).1
    have k1 := low (-L1) L2
    have k2 := low (-L1) H2
    have k3 := low (-H1) L2
    have k4 := low (-H1) H2
    have t1 := te.2.1
    rw [lm]
    rcases gB_is (gB (pi9 L1 L2, pV9 L1 L2) (pi9 L1 H2, pV9 L1 H2)) (gB (pi9 H1 L2, pV9 H1 L2) (pi9 H1 H2, pV9 H1 H2)) with e | e
    · rw [e] at t1
      rcases gB_is (pi9 L1 L2, pV9 L1 L2) (pi9 L1 H2, pV9 L1 H2) with f | f
      · rw [f] at t1; have := one L1 L2 b1 b3 t1; omega
      · rw [f] at t1; have := one L1 H2 b1 b4 t1; omega
    · rw [e] at t1
      rcases gB_is (pi9 H1 L2, pV9 H1 L2) (pi9 H1 H2, pV9 H1 H2) with f | f
      · rw [f] at t1; have := one H1 L2 b2 b3 t1; omega
      · rw [f] at t1; have := one H1 H2 b2 b4 t1; omega
  · have he : -9218868437227405312 < H3 ∧ H3 < 9218868437227405312 := by omega
    rw [lm, ← mm4f, fm_rF1 K H3 L1 L2 he b1 b3, fm_rF1 K H3 L1 H2 he b1 b4, fm_rF1 K H3 H1 L2 he b2 b3, fm_rF1 K H3 H1 H2 he b2 b4, ← l1.1, ← l2.1, ← l3.1]
    have t1 := te.2.1
    have ok := l3.2
    unfold okB at ok
    generalize (gB (gB (pi9 L1 L2, pV9 L1 L2) (pi9 L1 H2, pV9 L1 H2)) (gB (pi9 H1 L2, pV9 H1 L2) (pi9 H1 H2, pV9 H1 H2))) = B at t1 ok ⊢
    unfold rF
    by_cases z : B.1 = 0
    · rw [if_pos ⟨z, c⟩, if_neg (by omega), if_neg t1]
    · rw [if_neg (fun x => z x.1), if_pos (by omega)]
end Go.Proofs.YtinohggonicjhaaGreatDoor
