import Derived.Test.YtjkbapnndoldgaaKH8Q
import Derived.Test.YtjkbapnndoldgaaKMR36
import Derived.Test.YtjkbapnndoldgaaKNRj
namespace Go.Proofs.Ytjkbapnndoldgaa
open Go.RowKit

set_option linter.unusedVariables false
def pzS (z : Int) : Nat := Fq.wS (decide (z < 0)) z.natAbs
def g24 (d : Int) (c1 c2 : Nat) (V : Int) : Int := gpl 24 277 2139095039 2139095040 d c1 c2 V
theorem g24_mono (d : Int) (c1 c2 : Nat) (hc : 0 < c2) (V V' : Int) (h : V ≤ V') : g24 d c1 c2 V ≤ g24 d c1 c2 V' := gpl_mono 24 277 2139095039 2139095040 d c1 c2 hc (by decide) (by decide) (by decide) (by decide) V V' h
theorem pW_pzS (s : Bool) (M : Nat) : pW 2147483648 s M = pzS (if s then -(M : Int) else M) := by
  unfold pW pzS Fq.wS
  by_cases z : M = 0
  · rw [if_pos z, z]; cases s <;> simp
  · rw [if_neg z]
    cases s
    · simp <;> omega
    · simp <;> omega
theorem nar_g (K : Nat) (hK : K = 925) (d : Int) (n : Bool) (m : Nat) (hm : m < 9218868437227405312) (ng : Bool) (hng : ng = (n && !(m == 0))) : pW 2147483648 ng (finU 24 277 2139095039 2139095040 (dirN ng d) (rV (dirN ng d) 24 (Fq.sgD m) 1 (Fq.epD m + 149))) = pzS (g24 d 1 (2 ^ K) (Iv n m)) := by
  obtain ⟨v1, v2, v3, v4, v5⟩ := Fq.vlsgD m hm
  have hval : Fq.vV Ieee.double m = Fq.sgD m * 2 ^ (Fq.epD m + 1074).toNat := v1.symm
  have e : Iv n m = if n then -((Fq.vV Ieee.double m : Nat) : Int) else ((Fq.vV Ieee.double m : Nat) : Int) := by unfold Iv; cases n <;> rfl
  have hr : ∀ dd : Int, rV dd 24 (Fq.sgD m) 1 (Fq.epD m + 149) = rU dd 24 (Fq.vV Ieee.double m * 1) (2 ^ K) := by
    intro dd
    unfold rV
    refine rU_ratio dd 24 _ _ _ _ (Nat.mul_pos (by decide) (Nat.two_pow_pos _)) (Nat.two_pow_pos _) ?_
    rw [hval, Nat.mul_one, Nat.one_mul, Nat.mul_assoc, Nat.mul_assoc, ← Nat.pow_add, ← Nat.pow_add]
    congr 2
    omega
  have hz : m = 0 ↔ Fq.vV Ieee.double m = 0 := (vV_zero_iff m).symm
  rw [hr, pW_pzS]
  unfold g24 gpl
  rw [e]
  generalize Fq.vV Ieee.double m = P at *
  obtain ⟨V, hV⟩ : ∃ V : Int, V = (if n then -((P : Nat) : Int) else ((P : Nat) : Int)) := ⟨_, rfl⟩
  rw [← hV]
  by_cases z : m = 0
  · have z2 : P = 0 := hz.1 z
    have hg : ng = false := by rw [hng, z]; simp
    have hV0 : V = 0 := by rw [hV, z2]; cases n <;> rfl
    have e0 : rU (dirN false d) 24 (0 * 1) (2 ^ K) = 0 := by
      unfold rU rS rR
      rw [Nat.zero_mul, Nat.zero_div, Nat.zero_mod, upw_none _ _ _ (Nat.mul_pos (Nat.two_pow_pos _) (Nat.two_pow_pos _))]
      simp
    have e1 : finU 24 277 2139095039 2139095040 (dirN false d) 0 = 0 := by unfold finU; rw [blen_zero, if_pos (by omega), rgU_zero]
    rw [if_pos hV0, hg, z2, e0, e1]
    rfl
  · have z2 : P ≠ 0 := fun h => z (hz.2 h)
    have hg : ng = n := by rw [hng]; simp [z]
    have hVn : V ≠ 0 := by rw [hV]; cases n <;> simp <;> omega
    rw [if_neg hVn, hg]
    cases n
    · have hVP : V = (P : Int) := hV
      rw [if_neg (show ¬ V < 0 by omega), show V.natAbs = P from by omega]
      rfl
    · have hVP : V = -(P : Int) := hV
      rw [if_pos (show V < 0 by omega), show V.natAbs = P from by omega]
      rfl
def vZ (z : Int) : Int := Iv (decide (z < 0)) z.natAbs
theorem vZ_pos (z : Int) (h : 0 ≤ z) : vZ z = ((Fq.vV Ieee.double z.natAbs : Nat) : Int) := by
  unfold vZ Iv
  rw [decide_eq_false (show ¬ z < 0 by omega)]; rfl
theorem vV0X : Fq.vV Ieee.double 0 = 0 := by decide
theorem vZ_neg (z : Int) : vZ (-z) = -vZ z := by
  unfold vZ Iv
  rw [Int.natAbs_neg]
  by_cases z0 : z = 0
  · rw [z0]; simp [vV0X]
  · by_cases c : z < 0
    · rw [decide_eq_true c, decide_eq_false (show ¬ -z < 0 by omega)]; simp
    · rw [decide_eq_false c, decide_eq_true (show -z < 0 by omega)]; simp

def vS (z : Int) : Int := if z < 0 then -((Fq.vV Ieee.single z.natAbs : Nat) : Int) else ((Fq.vV Ieee.single z.natAbs : Nat) : Int)
theorem vS_pos (z : Int) (h : 0 ≤ z) : vS z = ((Fq.vV Ieee.single z.natAbs : Nat) : Int) := by unfold vS; rw [if_neg (by omega)]
theorem vS_neg (z : Int) : vS (-z) = -vS z := by
  unfold vS
  rw [Int.natAbs_neg]
  by_cases z0 : z = 0
  · subst z0
    have : Fq.vV Ieee.single 0 = 0 := Fq.vV_zero _
    simp [this]
  · split <;> split <;> omega
theorem vZ_iff (x y : Int) : vZ x < vZ y ↔ x < y := by
  have key : ∀ z : Int, vZ z = if z < 0 then -((Fq.vV Ieee.double z.natAbs : Nat) : Int) else ((Fq.vV Ieee.double z.natAbs : Nat) : Int) := by
    intro z
    unfold vZ Iv
    by_cases c : z < 0
    · rw [decide_eq_true c, if_pos c]; rfl
    · rw [decide_eq_false c, if_neg c]; rfl
  rw [key, key]
  have a1 := Fq.vV_lt_iff Ieee.double x.natAbs y.natAbs
  have a2 := Fq.vV_lt_iff Ieee.double y.natAbs x.natAbs
  have a3 := Fq.vV_lt_iff Ieee.double 0 x.natAbs
  have a4 := Fq.vV_lt_iff Ieee.double 0 y.natAbs
  rw [Fq.vV_zero] at a3 a4
  split <;> split <;> omega
theorem vS_wz (z : Int) (h : -2139095040 < z) (h' : z < 2139095040) : vS z * ((2 ^ k9 : Nat) : Int) = vZ (wz z) := by
  have hv := wd_val z.natAbs (by omega)
  by_cases c : z < 0
  · have e : wz z = -((wdR z.natAbs : Nat) : Int) := by unfold wz; rw [if_pos c]
    rw [e, vZ_neg, vZ_pos _ (by omega), Int.natAbs_natCast, hv]
    unfold vS
    rw [if_pos c, Int.neg_mul, Int.natCast_mul]
  · have e : wz z = ((wdR z.natAbs : Nat) : Int) := by unfold wz; rw [if_neg c]
    rw [e, vZ_pos _ (by omega), Int.natAbs_natCast, hv]
    unfold vS
    rw [if_neg c, Int.natCast_mul]
def nZ (d z : Int) : Int := g24 d 1 (2 ^ k9) (vZ z)
theorem nZ_mono (d x y : Int) (h : x ≤ y) : nZ d x ≤ nZ d y := by
  unfold nZ
  refine g24_mono d 1 _ (Nat.two_pow_pos _) _ _ ?_
  have := vZ_iff y x
  omega
theorem nZ_tight (z : Int) : (nZ (-1) z = nZ 1 z ∧ nZ 0 z = nZ (-1) z ∧ -2139095040 < nZ (-1) z ∧ nZ (-1) z < 2139095040 ∧ wz (nZ (-1) z) = z) ∨ (nZ 1 z = nZ (-1) z + 1 ∧ -2139095040 ≤ nZ (-1) z ∧ nZ 1 z ≤ 2139095040 ∧ (-2139095040 < nZ (-1) z → wz (nZ (-1) z) < z) ∧ (nZ 1 z < 2139095040 → z < wz (nZ 1 z)) ∧ (nZ 0 z = nZ (-1) z ∨ nZ 0 z = nZ 1 z)) := by
  have h := gpl_tight 24 277 2139095039 2139095040 (Fq.vV Ieee.single) vS_place 1 (2 ^ k9) (Nat.two_pow_pos _) (by decide) (by decide) (by decide) (by decide) (vZ z) vS vS_pos vS_neg
  show _ ∨ _
  have e0 : gpl 24 277 2139095039 2139095040 (-1) 1 (2 ^ k9) (vZ z) = nZ (-1) z := rfl
  have e1 : gpl 24 277 2139095039 2139095040 1 1 (2 ^ k9) (vZ z) = nZ 1 z := rfl
  have e2 : gpl 24 277 2139095039 2139095040 0 1 (2 ^ k9) (vZ z) = nZ 0 z := rfl
  rw [e0, e1, e2] at h
  have ev : vZ z * ((1 : Nat) : Int) = vZ z := by simp
  rw [ev] at h
  have cI : ((2139095040 : Nat) : Int) = 2139095040 := rfl
  rw [cI] at h
  rcases h with ⟨h1, h2, h3, h4, h5⟩ | ⟨h1, h2, h3, h4, h5, h6⟩
  · left
    refine ⟨h1, h2, h3, h4, ?_⟩
    rw [vS_wz _ h3 h4] at h5
    have a := vZ_iff (wz (nZ (-1) z)) z
    have b := vZ_iff z (wz (nZ (-1) z))
    omega
  · right
    refine ⟨h1, h2, h3, ?_, ?_, ?_⟩
    · intro c
      have h7 := h4 c
      rw [vS_wz _ c (by omega)] at h7
      exact (vZ_iff _ _).1 h7
    · intro c
      have h7 := h5 c
      rw [vS_wz _ (by omega) c] at h7
      exact (vZ_iff _ _).1 h7
    · rcases h6 with h | h | h
      · exact Or.inl h.2
      · exact Or.inr h.2
      · exact h.2.1
theorem wz_G : wz 2139095039 = 5183643170566569984 := by
  have h := wd_val 2139095039 (by decide)
  have e : wdR 2139095039 = 5183643170566569984 := by
    have hv : Fq.vV Ieee.double 5183643170566569984 = Fq.vV Ieee.single 2139095039 * 2 ^ k9 := by
      have p1 := vV_rung (16777215 * 2 ^ (253 + k9)) 0
      rw [rU_rep 0 16777215 (253 + k9) (by decide)] at p1
      have p2 : rgU 53 (16777215 * 2 ^ (253 + k9)) = 5183643170566569984 := by
        have hk := k9_eq
        obtain ⟨J, hJ⟩ : ∃ J : Nat, J = 1149 := ⟨_, rfl⟩
        have e2 : 16777215 * 2 ^ (253 + k9) = (16777215 * 2 ^ 29) * 2 ^ J := by
          rw [Nat.mul_assoc, ← Nat.pow_add]
          exact congrArg _ (congrArg _ (by omega))
        rw [e2, rgU_place 53 (16777215 * 2 ^ 29) J (by decide) (by decide) (Or.inr (by decide)), hJ]
      rw [p2] at p1
      rw [p1, show Fq.vV Ieee.single 2139095039 = 16777215 * 2 ^ 253 from by
        have := vS_place 253 16777215 (by decide) (Or.inr (by decide))
        rw [show 253 * 2 ^ (24 - 1) + 16777215 = 2139095039 from by decide] at this
        exact this, Nat.mul_assoc, ← Nat.pow_add]
    rw [← hv] at h
    exact (Fq.vV_inj _ _ _).1 h
  unfold wz
  rw [if_neg (by decide), show (2139095039 : Int).natAbs = 2139095039 from rfl, e]
  rfl
def cz (z : Int) : Int := min (max z (-5183643170566569984)) 5183643170566569984
theorem nZ_at (d y : Int) (hd : d = -1 ∨ d = 0 ∨ d = 1) (h : -2139095040 < y) (h' : y < 2139095040) : nZ d (wz y) = y := by
  have t := nZ_tight (wz y)
  have i : ∀ x : Int, -2139095040 ≤ x → x ≤ 2139095040 → (wz x < wz y ↔ x < y) ∧ (wz y < wz x ↔ y < x) ∧ (wz x = wz y ↔ x = y) := fun x a b => ⟨wz_lt x y (by unfold Sg.BdZ; omega) (by unfold Sg.BdZ; omega), wz_lt y x (by unfold Sg.BdZ; omega) (by unfold Sg.BdZ; omega), wz_inj x y (by unfold Sg.BdZ; omega) (by unfold Sg.BdZ; omega)⟩
  rcases t with ⟨h1, h2, h3, h4, h5⟩ | ⟨h1, h2, h3, h4, h5, h6⟩
  · have e := ((i _ (by omega) (by omega)).2.2).1 h5
    rcases hd with rfl | rfl | rfl <;> omega
  · exfalso
    have a := i (nZ (-1) (wz y)) (by omega) (by omega)
    have b := i (nZ 1 (wz y)) (by omega) (by omega)
    by_cases c : -2139095040 < nZ (-1) (wz y)
    · have := a.1.1 (h4 c)
      by_cases c2 : nZ 1 (wz y) < 2139095040
      · have := b.2.1.1 (h5 c2); omega
      · omega
    · by_cases c2 : nZ 1 (wz y) < 2139095040
      · have := b.2.1.1 (h5 c2); omega
      · omega
def dnZ (z : Int) : Int := if z = -9218868437227405312 then -2139095040 else nZ (-1) z
def upZ (z : Int) : Int := if z = 9218868437227405312 then 2139095040 else nZ 1 z
theorem ne_bd (z : Int) : -2139095040 < nZ 0 (cz z) ∧ nZ 0 (cz z) < 2139095040 := by
  have g := wz_G
  have g2 : wz (-2139095039) = -5183643170566569984 := by rw [wz_neg, g]
  have a := nZ_mono 0 (cz z) 5183643170566569984 (by unfold cz; omega)
  have b := nZ_mono 0 (-5183643170566569984) (cz z) (by unfold cz; omega)
  rw [← g, nZ_at 0 2139095039 (by omega) (by omega) (by omega)] at a
  rw [← g2, nZ_at 0 (-2139095039) (by omega) (by omega) (by omega)] at b
  omega
theorem near_lo (z : Int) (hz : BdZ z) (hI : z ≠ 9218868437227405312) : dnZ z = if z < wz (nZ 0 (cz z)) then nZ 0 (cz z) - 1 else nZ 0 (cz z) := by
  have g := wz_G
  have g2 : wz (-2139095039) = -5183643170566569984 := by rw [wz_neg, g]
  have nb := ne_bd z
  unfold BdZ at hz
  by_cases c1 : 5183643170566569984 < z
  · have ec : cz z = 5183643170566569984 := by unfold cz; omega
    rw [ec, ← g, nZ_at 0 2139095039 (by omega) (by omega) (by omega), if_neg (by omega)]
    unfold dnZ
    rw [if_neg (by omega)]
    have a := nZ_mono (-1) 5183643170566569984 z (by omega)
    rw [← g, nZ_at (-1) 2139095039 (by omega) (by omega) (by omega)] at a
    rcases nZ_tight z with h | h <;> omega
  · by_cases c2 : z < -5183643170566569984
    · have ec : cz z = -5183643170566569984 := by unfold cz; omega
      rw [ec, ← g2, nZ_at 0 (-2139095039) (by omega) (by omega) (by omega), if_pos (by omega)]
      unfold dnZ
      by_cases c3 : z = -9218868437227405312
      · rw [if_pos c3]; rfl
      · rw [if_neg c3]
        have m : ∀ x : Int, -2139095040 < x → x ≤ 2139095040 → -5183643170566569984 ≤ wz x := fun x a b => by
          rw [← g2]; exact (wz_le _ _ (by unfold Sg.BdZ; omega) (by unfold Sg.BdZ; omega)).2 (by omega)
        rcases nZ_tight z with h | h
        · have := m (nZ (-1) z) h.2.2.1 (by omega)
          omega
        · by_cases c4 : -2139095040 < nZ (-1) z
          · have := m (nZ (-1) z) c4 (by omega)
            have := h.2.2.2.1 c4
            omega
          · omega
    · have ec : cz z = z := by unfold cz; omega
      rw [ec] at nb ⊢
      unfold dnZ
      rw [if_neg (by omega)]
      rcases nZ_tight z with h | h
      · rw [if_neg (by rw [h.2.1]; omega)]; omega
      · rcases h.2.2.2.2.2 with e | e
        · rw [if_neg (by rw [e]; have := h.2.2.2.1 (by omega); omega)]; omega
        · rw [if_pos (by rw [e]; exact h.2.2.2.2.1 (by omega))]; omega
theorem near_hi (z : Int) (hz : BdZ z) (hI : z ≠ -9218868437227405312) : upZ z = if wz (nZ 0 (cz z)) < z then nZ 0 (cz z) + 1 else nZ 0 (cz z) := by
  have g := wz_G
  have g2 : wz (-2139095039) = -5183643170566569984 := by rw [wz_neg, g]
  have nb := ne_bd z
  unfold BdZ at hz
  by_cases c1 : z < -5183643170566569984
  · have ec : cz z = -5183643170566569984 := by unfold cz; omega
    rw [ec, ← g2, nZ_at 0 (-2139095039) (by omega) (by omega) (by omega), if_neg (by omega)]
    unfold upZ
    rw [if_neg (by omega)]
    have a := nZ_mono 1 z (-5183643170566569984) (by omega)
    rw [← g2, nZ_at 1 (-2139095039) (by omega) (by omega) (by omega)] at a
    rcases nZ_tight z with h | h <;> omega
  · by_cases c2 : 5183643170566569984 < z
    · have ec : cz z = 5183643170566569984 := by unfold cz; omega
      rw [ec, ← g, nZ_at 0 2139095039 (by omega) (by omega) (by omega), if_pos (by omega)]
      unfold upZ
      by_cases c3 : z = 9218868437227405312
      · rw [if_pos c3]; rfl
      · rw [if_neg c3]
        have m : ∀ x : Int, -2139095040 ≤ x → x < 2139095040 → wz x ≤ 5183643170566569984 := fun x a b => by
          rw [← g]; exact (wz_le _ _ (by unfold Sg.BdZ; omega) (by unfold Sg.BdZ; omega)).2 (by omega)
        rcases nZ_tight z with h | h
        · have := m (nZ (-1) z) (by omega) h.2.2.2.1
          omega
        · by_cases c4 : nZ 1 z < 2139095040
          · have := m (nZ 1 z) (by omega) c4
            have := h.2.2.2.2.1 c4
            omega
          · omega
    · have ec : cz z = z := by unfold cz; omega
      rw [ec] at nb ⊢
      unfold upZ
      rw [if_neg (by omega)]
      rcases nZ_tight z with h | h
      · rw [if_neg (by rw [h.2.1]; omega)]; omega
      · rcases h.2.2.2.2.2 with e | e
        · rw [if_pos (by rw [e]; exact h.2.2.2.1 (by omega))]; omega
        · rw [if_neg (by rw [e]; have := h.2.2.2.2.1 (by omega); omega)]; omega
theorem nZ_nr (z : Int) : nZ 0 z = Fq.plz (decide (z < 0)) (nrR z.natAbs) := by
  have z0 : ∀ P : Nat, P = 0 → finU 24 277 2139095039 2139095040 0 (rU 0 24 P (2 ^ k9)) = 0 := by
    intro P hP
    have e0 : rU 0 24 0 (2 ^ k9) = 0 := by
      unfold rU rS rR
      rw [Nat.zero_div, Nat.zero_mod, upw_none _ _ _ (Nat.mul_pos (Nat.two_pow_pos _) (Nat.two_pow_pos _))]
      simp
    rw [hP, e0]
    unfold finU; rw [blen_zero, if_pos (by omega), rgU_zero]
  unfold nZ g24 gpl nrR Fq.plz
  by_cases c : z < 0
  · have e : vZ z = -((Fq.vV Ieee.double z.natAbs : Nat) : Int) := by unfold vZ Iv; rw [decide_eq_true c]; rfl
    rw [e, decide_eq_true c]
    generalize Fq.vV Ieee.double z.natAbs = P at *
    by_cases cp : P = 0
    · rw [if_pos (by omega), z0 P cp]; rfl
    · rw [if_neg (by omega), if_pos (by omega), show dirN true 0 = 0 from rfl, Int.natAbs_neg, Int.natAbs_natCast, Nat.mul_one]; rfl
  · have e : vZ z = ((Fq.vV Ieee.double z.natAbs : Nat) : Int) := by unfold vZ Iv; rw [decide_eq_false c]; rfl
    rw [e, decide_eq_false c]
    generalize Fq.vV Ieee.double z.natAbs = P at *
    by_cases cp : P = 0
    · rw [if_pos (by omega), z0 P cp]; rfl
    · rw [if_neg (by omega), if_neg (by omega), show dirN false 0 = 0 from rfl, Int.natAbs_natCast, Nat.mul_one]; rfl
end Go.Proofs.Ytjkbapnndoldgaa
