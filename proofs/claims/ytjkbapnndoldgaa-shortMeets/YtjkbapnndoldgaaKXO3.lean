import Derived.Test.YtjkbapnndoldgaaKG3D
import Derived.Test.YtjkbapnndoldgaaKXG4
namespace Go.Proofs.Ytjkbapnndoldgaa
open Go.RowKit
theorem refW_fin (d : Int) (g neg : Bool) (a b a2 b2 : Nat) (e : Int) (hF : FracOf a b e a2 b2) (hg : a ≠ 0 → g = neg) (K : Nat) (hK : K = 1074) : refW 53 K 2098 9218868437227405311 0 d g a2 b2 = if a = 0 then 0 else mdW neg (finU 53 2098 9218868437227405311 9218868437227405312 (dirN neg d) (rV (dirN neg d) 53 a b (e + 1074))) := by
  unfold refW
  by_cases c : a = 0
  · rw [if_pos c, if_pos (hF.2.1.2 c)]
  · rw [if_neg c, if_neg (fun h => c (hF.2.1.1 h)), hg c, hF.2.2.1 _ _ _ c, Nat.pow_zero, Nat.mul_one, show ((K : Nat) : Int) + e = e + 1074 from by omega]
    rfl
set_option maxRecDepth 20000 in
set_option maxHeartbeats 400000 in
theorem rbits_ (d : Int) (neg : Bool) (vn vd : Value) (a b : Nat) (w : World) (hn : Ls w vn (dig a)) (hd : Ls w vd (dig b)) (hb : b ≠ 0) (la : blen a ≤ 4194304) (lb : blen b ≤ 4194304) :
    Calls Try.prog 81 #[.int .i64 d, .agg #[.bool neg, vn, vd]] w fun e w' => e = .returned (.int .u64 ((refW 53 1074 2098 9218868437227405311 0 d neg a b : Nat) : Int)) ∧ Kp w w' := by
  obtain ⟨w0, hw0⟩ : ∃ w0, w0 = w.alloc (.cells #[.bool neg, vn, vd] 85) := ⟨_, rfl⟩
  have hk0 : Kp w w0 := by rw [hw0]; exact (Kp.refl w).alloc _
  have h := rrounded_D d neg vn vd a b w0 (hn.kp hk0) (hd.kp hk0) hb la lb
  obtain ⟨Z, hZ⟩ : ∃ Z, Z = refW 53 1074 2098 9218868437227405311 0 d neg a b := ⟨_, rfl⟩
  rw [← hZ] at h ⊢
  clear hn hd hb la lb hZ
  go_enter Try.func81, Try.ntmps81
  go_wp2_with fail
  rw [← hw0]
  refine h.mono ?_; rintro e w1 ⟨rfl, hk⟩
  have hk1 := hk0.trans hk
  clear h hk hk0 hw0
  go_wp2
  exact bodyPost_ret (v := .int .u64 (Z : Int)) (by simp [results, Try.results81, go_sem]) rfl ⟨rfl, hk1⟩
theorem rU_floor (p A B : Nat) (h : blen (A / B) ≤ p) : rU (-1) p A B = A / B := by
  have hE : rE p A B = 0 := by unfold rE; omega
  unfold rU rS rR
  rw [hE, Nat.pow_zero, Nat.mul_one, Nat.mul_one]
  have e : upw (-1) (A / B) (A % B) B = false := by unfold upw; simp
  rw [e]; simp
theorem frac_exact (sg : Nat) (ep : Int) (a b K e : Nat) (hF : FracOf sg 1 ep a b) (h0 : sg ≠ 0) (he : (e : Int) = ep + (K : Int)) : a * 2 ^ K = sg * 2 ^ e * b := by
  obtain ⟨hb, -, hrv, -, -⟩ := hF
  have hbp : 0 < b := by omega
  have hfl : ∀ j : Nat, a * 2 ^ K * 2 ^ j / b = sg * 2 ^ e * 2 ^ j := fun j => by
    obtain ⟨p, hp⟩ : ∃ p, p = blen (a * 2 ^ (K + j) / b) + blen (sg * 2 ^ (e + j)) := ⟨_, rfl⟩
    have h := hrv (-1) p ((K + j : Nat) : Int) h0
    unfold rV at h
    rw [show (((K + j : Nat) : Int)).toNat = K + j from by omega, show (-((K + j : Nat) : Int)).toNat = 0 from by omega, show (((K + j : Nat) : Int) + ep).toNat = e + j from by omega, show (-(((K + j : Nat) : Int) + ep)).toNat = 0 from by omega, Nat.pow_zero, Nat.mul_one, Nat.mul_one, rU_floor p _ b (by rw [hp]; omega), rU_floor p _ 1 (by rw [Nat.div_one, hp]; omega), Nat.div_one, Nat.pow_add, Nat.pow_add] at h
    rw [Nat.mul_assoc, h, Nat.mul_assoc]
  obtain ⟨A, hA⟩ : ∃ A, A = a * 2 ^ K := ⟨_, rfl⟩
  obtain ⟨S, hS⟩ : ∃ S, S = sg * 2 ^ e := ⟨_, rfl⟩
  rw [← hA, ← hS] at hfl ⊢
  have h1 := hfl 0
  rw [Nat.pow_zero, Nat.mul_one, Nat.mul_one] at h1
  have h2 : S * b ≤ A := by rw [← h1]; exact Nat.div_mul_le_self A b
  obtain ⟨D, hD⟩ : ∃ D, D = A - S * b := ⟨_, rfl⟩
  by_cases c : D = 0
  · omega
  · exfalso
    have h3 := hfl (blen b)
    have h4 : b < 2 ^ blen b := (blen_spec b hb).2.1
    have e1 : A = S * b + D := by omega
    rw [e1, Nat.add_mul, Nat.mul_right_comm, Nat.add_comm, Nat.add_mul_div_right _ _ hbp] at h3
    have h5 : D * 2 ^ blen b / b = 0 := by omega
    have h6 : b ≤ D * 2 ^ blen b := Nat.le_trans (Nat.le_of_lt h4) (Nat.le_mul_of_pos_left _ (by omega))
    have h7 := (Nat.le_div_iff_mul_le hbp (x := 1)).2 (by rw [Nat.one_mul]; exact h6)
    omega
theorem ratio_sum (d V : Int) (x D a b K : Nat) (neg : Bool) (hK : K = 1074) (hD : D ≠ 0) (hF : FracOf x D 0 a b) (hx : x * 2 ^ K = V.natAbs * D) (ng : Bool) (hng : x ≠ 0 → ng = neg) (hneg : V ≠ 0 → neg = decide (V < 0)) : refW 53 1074 2098 9218868437227405311 0 d ng a b = sumW d V := by
  have h := refW_fin d ng neg x D a b 0 hF hng K hK
  rw [← hK]
  rw [h]
  unfold sumW
  have hx0 : x = 0 ↔ V = 0 := by
    have hp := Nat.two_pow_pos K
    constructor
    · intro h0; rw [h0, Nat.zero_mul] at hx
      rcases Nat.mul_eq_zero.1 hx.symm with h1 | h1 <;> omega
    · intro h0; rw [h0] at hx
      rw [Int.natAbs_zero, Nat.zero_mul] at hx
      rcases Nat.mul_eq_zero.1 hx with h1 | h1
      · exact h1
      · omega
  by_cases c : x = 0
  · rw [if_pos c, if_pos (hx0.1 c)]
  · have hv : V ≠ 0 := fun h0 => c (hx0.2 h0)
    rw [if_neg c, if_neg hv, ← hneg hv]
    have e : rV (dirN neg d) 53 x D (0 + 1074) = rU (dirN neg d) 53 V.natAbs 1 := by
      unfold rV
      rw [show ((0 : Int) + 1074).toNat = K from by omega, show (-((0 : Int) + 1074)).toNat = 0 from by omega, Nat.pow_zero, Nat.mul_one, hx]
      exact rU_ratio _ _ _ _ _ _ (by omega) (by omega) (by rw [Nat.mul_one])
    rw [e]
theorem rU_vV (d : Int) (m : Nat) (hm : m < 9218868437227405312) : rU d 53 (Fq.vV Ieee.double m) 1 = Fq.vV Ieee.double m := by
  obtain ⟨E, hE⟩ : ∃ E, E = Fq.eE Ieee.double m := ⟨_, rfl⟩
  obtain ⟨M, hM⟩ : ∃ M, M = Fq.mM Ieee.double m := ⟨_, rfl⟩
  have hV : Fq.vV Ieee.double m = M * 2 ^ E := by rw [hM, hE]; rfl
  have hMb : M < 9007199254740992 ∧ (E = 0 ∨ 4503599627370496 ≤ M) := by
    rw [hM, hE]; unfold Fq.mM Fq.eE; rw [Fq.binD]
    by_cases c : m < 4503599627370496
    · rw [if_pos c, if_pos c]; exact ⟨by omega, .inl rfl⟩
    · rw [if_neg c, if_neg c]
      have := Nat.mod_lt m (show 0 < 4503599627370496 by decide)
      exact ⟨by omega, .inr (by omega)⟩
  rw [hV]
  clear hV hM hE
  have p0 : 0 < 2 ^ E := Nat.two_pow_pos E
  have hr : rE 53 (M * 2 ^ E) 1 = E := by
    refine rE_uniq 53 (M * 2 ^ E) 1 E (by decide) (by decide) ?_ ?_
    · rw [Nat.one_mul, Nat.pow_add, Nat.mul_comm]
      exact Nat.mul_lt_mul_of_pos_left (by rw [show (2 : Nat) ^ 53 = 9007199254740992 from by decide]; exact hMb.1) p0
    · rcases hMb.2 with h | h
      · exact .inl h
      · refine .inr ?_
        rw [Nat.one_mul, show E + 53 - 1 = 52 + E from by omega, Nat.pow_add, show (2 : Nat) ^ 52 = 4503599627370496 from by decide]
        exact Nat.mul_le_mul_right _ h
  unfold rU rS rR
  rw [hr, Nat.one_mul, Nat.mul_div_cancel _ p0, Nat.mul_mod_left, upw_none _ _ _ p0]
  simp
theorem fin_vV (d : Int) (m : Nat) (hm : m < 9218868437227405312) : finU 53 2098 9218868437227405311 9218868437227405312 d (Fq.vV Ieee.double m) = m := by
  have h1 := rU_vV d m hm
  have h2 := vV_rung (Fq.vV Ieee.double m) d
  rw [h1] at h2
  have h3 : rgU 53 (Fq.vV Ieee.double m) = m := (Fq.vV_inj _ _ _).1 h2
  obtain ⟨K, hK⟩ : ∃ K : Nat, K = 2098 := ⟨_, rfl⟩
  have hb : Fq.vV Ieee.double m < 2 ^ K := by
    unfold Fq.vV Fq.mM Fq.eE; rw [Fq.binD]
    have hp : ∀ a e : Nat, a < 9007199254740992 → e ≤ 2045 → a * 2 ^ e < 2 ^ K := fun a e ha he => by
      have g : a * 2 ^ e < 2 ^ 53 * 2 ^ e := Nat.mul_lt_mul_of_pos_right (by rw [show (2 : Nat) ^ 53 = 9007199254740992 from by decide]; exact ha) (Nat.two_pow_pos e)
      rw [← Nat.pow_add] at g
      exact Nat.lt_of_lt_of_le g (Nat.pow_le_pow_right (by decide) (by omega))
    by_cases c : m < 4503599627370496
    · rw [if_pos c, if_pos c]; exact hp _ _ (by omega) (by omega)
    · rw [if_neg c, if_neg c]
      have := Nat.mod_lt m (show 0 < 4503599627370496 by decide)
      exact hp _ _ (by omega) (by omega)
  have hbl : blen (Fq.vV Ieee.double m) ≤ 2098 := by rw [← hK]; exact (blen_le_iff _ _).2 hb
  unfold finU
  rw [if_pos hbl, h3]
theorem vV_zero_iff (m : Nat) : Fq.vV Ieee.double m = 0 ↔ m = 0 := by
  have h := Fq.vV_inj Ieee.double m 0
  rw [Fq.vV_zero] at h
  exact h
theorem sumW_exact (d : Int) (n : Bool) (m : Nat) (hm : m < 9218868437227405312) : sumW d (Iv n m) = Fq.pla (Fq.wD n m) := by
  unfold sumW
  by_cases c : m = 0
  · have h0 : Iv n m = 0 := by unfold Iv; rw [c, Fq.vV_zero]; cases n <;> rfl
    rw [if_pos h0, c]; unfold Fq.pla Fq.wD; cases n <;> rfl
  · have hv : Fq.vV Ieee.double m ≠ 0 := fun h => c ((vV_zero_iff m).1 h)
    have h0 : Iv n m ≠ 0 := by unfold Iv; cases n <;> simp <;> omega
    have h1 : decide (Iv n m < 0) = n := by unfold Iv; cases n <;> simp <;> omega
    have h2 : (Iv n m).natAbs = Fq.vV Ieee.double m := by unfold Iv; cases n <;> simp
    rw [if_neg h0, h1, h2, rU_vV _ m hm, fin_vV _ m hm]
    unfold mdW Fq.pla Fq.wD
    rw [if_neg c]
    cases n <;> simp <;> omega
theorem rU_dvd (d : Int) (A : Nat) (h : A % 2 ^ rE 53 A 1 = 0) : rU d 53 A 1 = A := by
  unfold rU rS rR
  rw [Nat.one_mul, h, upw_none _ _ _ (Nat.two_pow_pos _)]
  simp only [Bool.toNat_false, Nat.add_zero]
  exact Nat.div_mul_cancel (Nat.dvd_of_mod_eq_zero h)
theorem rU_rep (d : Int) (K j : Nat) (h : K ≤ 9007199254740992) : rU d 53 (K * 2 ^ j) 1 = K * 2 ^ j := by
  have key : ∀ K j : Nat, K < 9007199254740992 → rU d 53 (K * 2 ^ j) 1 = K * 2 ^ j := fun K j h => by
    by_cases c : K = 0
    · rw [c, Nat.zero_mul]; exact rU_dvd d 0 (Nat.zero_mod _)
    · apply rU_dvd
      have hb : blen K ≤ 53 := by rw [blen_le_iff, show (2 : Nat) ^ 53 = 9007199254740992 from by decide]; exact h
      have hE : rE 53 (K * 2 ^ j) 1 ≤ j := by unfold rE; rw [Nat.div_one, blen_mul _ _ c]; omega
      obtain ⟨E, hE2⟩ : ∃ E, E = rE 53 (K * 2 ^ j) 1 := ⟨_, rfl⟩
      rw [← hE2] at hE ⊢
      rw [show j = (j - E) + E from by omega, Nat.pow_add, ← Nat.mul_assoc, Nat.mul_mod_left]
  by_cases c : K = 9007199254740992
  · have e : K * 2 ^ j = 4503599627370496 * 2 ^ (j + 1) := by rw [c, Nat.pow_succ]; omega
    rw [e]; exact key _ _ (by decide)
  · exact key K j (by omega)
end Go.Proofs.Ytjkbapnndoldgaa
