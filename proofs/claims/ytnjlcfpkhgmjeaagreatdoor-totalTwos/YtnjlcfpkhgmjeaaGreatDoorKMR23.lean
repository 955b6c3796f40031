import Derived.Test.YtnjlcfpkhgmjeaaGreatDoorKBW
import Derived.Test.YtnjlcfpkhgmjeaaGreatDoorKMR20
namespace Go.Proofs.YtnjlcfpkhgmjeaaGreatDoor
open Go.RowKit
def mulW (d : Int) (ng : Bool) (P : Nat) : Nat := if P = 0 then 0 else mdW ng (finU 53 2098 9218868437227405311 9218868437227405312 (dirN ng d) (rV (dirN ng d) 53 P 1 (-1074)))
theorem of_mul (d : Int) (ng : Bool) (c : Nat) (low : Int) (P : Nat) (h1 : -2148 ≤ low) (h2 : low ≤ 8192) (hb : blen c ≤ 524288) (hP : P = c * 2 ^ (low + 2148).toNat) : ofW d ng c low = mulW d ng P := by
  have hl : ¬ 16384 < len32 c := mt (long_iff c).2 (by omega)
  rw [of_rat]
  unfold ratW mulW
  rw [if_neg (by rw [len32_one]; omega), if_neg (by decide)]
  obtain ⟨k, hk⟩ : ∃ k, k = (low + 2148).toNat := ⟨_, rfl⟩
  rw [← hk] at hP
  by_cases c0 : c = 0
  · rw [if_pos c0, if_pos (by rw [hP, c0, Nat.zero_mul])]
  · have hp : P ≠ 0 := by rw [hP]; exact Nat.mul_ne_zero c0 (Nat.ne_of_gt (Nat.two_pow_pos k))
    rw [if_neg c0, if_neg hp, hP, rV_up _ _ _ _ _ _ (by decide), show (-1074 : Int) + (k : Int) = low + 1074 from by omega]
theorem sum_mul (d V : Int) (ng : Bool) (P K : Nat) (hK : K = 1074) (hP : V.natAbs * 2 ^ K = P) (hng : V ≠ 0 → ng = decide (V < 0)) : sumW d V = mulW d ng P := by
  unfold sumW mulW
  by_cases c : V = 0
  · rw [if_pos c, if_pos (by rw [← hP, c]; simp)]
  · have hp : P ≠ 0 := by rw [← hP]; exact Nat.mul_ne_zero (by omega) (Nat.ne_of_gt (Nat.two_pow_pos K))
    rw [if_neg c, if_neg hp, ← hng c, ← hP, rV_up _ _ _ _ _ _ (by decide), show (-1074 : Int) + (K : Int) = 0 from by omega]
    unfold rV
    rw [show ((0 : Int)).toNat = 0 from rfl, show (-(0 : Int)).toNat = 0 from rfl, Nat.pow_zero, Nat.mul_one, Nat.mul_one]
theorem sgn_v (n n' : Bool) (m m' K : Nat) (V : Int) (hV : V * ((2 ^ K : Nat) : Int) = Iv n m * Iv n' m') (hv : V ≠ 0) : (n ^^ n') = decide (V < 0) := by
  have hp : (0 : Int) < ((2 ^ K : Nat) : Int) := by have := Nat.two_pow_pos K; omega
  obtain ⟨q, hq⟩ : ∃ q : Int, q = ((2 ^ K : Nat) : Int) := ⟨_, rfl⟩
  rw [← hq] at hV hp
  have hz : V * q ≠ 0 := fun h => by rcases Int.mul_eq_zero.1 h with h | h <;> omega
  have hs : V < 0 ↔ V * q < 0 := by
    constructor
    · intro h; exact Int.mul_neg_of_neg_of_pos h hp
    · intro h
      rcases Int.lt_or_le V 0 with c | c
      · exact c
      · have := Int.mul_nonneg c (Int.le_of_lt hp); omega
  obtain ⟨x, hx⟩ : ∃ x : Int, x = ((Fq.vV Ieee.double m : Nat) : Int) := ⟨_, rfl⟩
  obtain ⟨y, hy⟩ : ∃ y : Int, y = ((Fq.vV Ieee.double m' : Nat) : Int) := ⟨_, rfl⟩
  have hxy : 0 ≤ x * y := Int.mul_nonneg (by omega) (by omega)
  unfold Iv at hV
  rw [← hx, ← hy] at hV
  cases n <;> cases n' <;> simp only [if_true, if_false, Bool.false_eq_true, Int.neg_mul, Int.mul_neg, Int.neg_neg] at hV <;> by_cases c : V < 0 <;> simp [c] <;> omega
theorem abs_v (n n' : Bool) (m m' K : Nat) (V : Int) (hV : V * ((2 ^ K : Nat) : Int) = Iv n m * Iv n' m') : V.natAbs * 2 ^ K = Fq.vV Ieee.double m * Fq.vV Ieee.double m' := by
  have h1 := congrArg Int.natAbs hV
  rw [Int.natAbs_mul, Int.natAbs_mul, Int.natAbs_natCast, iv_abs, iv_abs] at h1
  exact h1
theorem vV_zero (m : Nat) : Fq.vV Ieee.double m = 0 ↔ m = 0 := by
  unfold Fq.vV Fq.mM Fq.eE
  rw [Fq.binD]
  have := Nat.two_pow_pos (if m < 4503599627370496 then 0 else m / 4503599627370496 - 1)
  constructor
  · intro h
    rcases Nat.mul_eq_zero.1 h with h | h
    · split at h <;> omega
    · omega
  · intro h; subst h; simp
theorem two_dvd {T U : Nat} (hT : ∃ E, T = 2 ^ E) (hU : ∃ e, U = 2 ^ e) (h : U ≤ T) : U ∣ T := by
  obtain ⟨E, rfl⟩ := hT
  obtain ⟨e, rfl⟩ := hU
  exact Nat.pow_dvd_pow 2 ((Nat.pow_le_pow_iff_right (by decide)).1 h)
theorem two_half {T U : Nat} (hT : ∃ E, T = 2 ^ E) (hU : ∃ e, U = 2 ^ e) (h : T < 2 * U) : T ≤ U := by
  obtain ⟨E, rfl⟩ := hT
  obtain ⟨e, rfl⟩ := hU
  rw [Nat.mul_comm, ← Nat.pow_succ] at h
  have := (Nat.pow_lt_pow_iff_right (by decide)).1 h
  exact Nat.pow_le_pow_right (by decide) (by omega)
theorem sgn_mul (u p : Int) (hp : 0 < p) : (u < 0 ↔ u * p < 0) ∧ (0 < u ↔ 0 < u * p) := by
  rcases Int.lt_trichotomy u 0 with c | c | c
  · have := Int.mul_neg_of_neg_of_pos c hp
    omega
  · rw [c, Int.zero_mul]; omega
  · have := Int.mul_pos c hp
    omega
theorem pw53 : (2 : Nat) ^ 53 = 9007199254740992 := by decide
theorem Nr.mag {v s : Int} {T : Nat} (h : Nr v s T) (h1 : T ≠ 1) : 4503599627370496 * T ≤ s.natAbs := by
  have hl := h.low.resolve_left h1
  have hn := h.near
  have hp := h.pos
  obtain ⟨k, hk⟩ := h.dvd
  have e : s.natAbs = T * k.natAbs := by rw [hk, Int.natAbs_mul, Int.natAbs_natCast]
  rw [e]
  rcases Nat.lt_or_ge k.natAbs 4503599627370496 with c | c
  · exfalso
    have h5 : T * k.natAbs ≤ T * 4503599627370495 := Nat.mul_le_mul_left T (by omega)
    omega
  · have h5 := Nat.mul_le_mul_left T c
    omega
theorem fl_neg {v : Int} (h : FL v) : FL (-v) := by
  obtain ⟨k, h1, h2⟩ := h
  exact ⟨k, Int.dvd_neg.2 h1, by rw [Int.natAbs_neg]; exact h2⟩
theorem fl_abs {v : Int} (h : FL ((v.natAbs : Nat) : Int)) : FL v := by
  rcases Int.natAbs_eq v with e | e
  · rw [e]; exact h
  · rw [e]; exact fl_neg h
theorem odd_nat (A : Nat) (hA : ¬ FL (A : Int)) : ∃ b q : Nat, q * 2 ^ b < A ∧ A < (q + 1) * 2 ^ b ∧ 4503599627370496 * 2 ^ b ≤ A ∧ rU (-1) 53 A 1 = q * 2 ^ b ∧ rU 1 53 A 1 = (q + 1) * 2 ^ b ∧ ((rgU 53 (rU 0 53 A 1) % 2 = 1 ∧ ((rU 0 53 A 1 = q * 2 ^ b ∧ q % 2 = 1) ∨ (rU 0 53 A 1 = (q + 1) * 2 ^ b ∧ q % 2 = 0))) ∨ (rgU 53 (rU 0 53 A 1) % 2 = 0 ∧ ((rU 0 53 A 1 = q * 2 ^ b ∧ q % 2 = 0) ∨ (rU 0 53 A 1 = (q + 1) * 2 ^ b ∧ q % 2 = 1)))) := by
  obtain ⟨E, hE⟩ : ∃ E, E = rE 53 A 1 := ⟨_, rfl⟩
  obtain ⟨q, hq⟩ : ∃ q, q = rS 53 A 1 := ⟨_, rfl⟩
  obtain ⟨r, hr⟩ : ∃ r, r = rR 53 A 1 := ⟨_, rfl⟩
  obtain ⟨T, hT⟩ : ∃ T, T = 2 ^ E := ⟨_, rfl⟩
  have hTp : 0 < T := by rw [hT]; exact Nat.two_pow_pos E
  have hAq : A = q * T + r := by
    rw [hq, hr, hT, hE]; unfold rS rR; rw [Nat.one_mul, Nat.mul_comm]; exact (Nat.div_add_mod _ _).symm
  have hrl : r < T := by rw [hr, hT, hE]; unfold rR; rw [Nat.one_mul]; exact Nat.mod_lt _ (Nat.two_pow_pos _)
  have h0 := rung_of A 0 E (q + (upw 0 q r T).toNat) hE (by rw [hq, hr, hT, hE, Nat.one_mul])
  have h1 := rung_of A 1 E (q + (upw 1 q r T).toNat) hE (by rw [hq, hr, hT, hE, Nat.one_mul])
  have h2 := rung_of A (-1) E (q + (upw (-1) q r T).toNat) hE (by rw [hq, hr, hT, hE, Nat.one_mul])
  rw [← hT] at h0 h1 h2
  have hr0 : r ≠ 0 := fun h => hA (by
    rw [hAq, h, Nat.add_zero]
    have h3 := h2.2.1
    refine fl_of ⟨E, hT⟩ (Int.natCast_dvd_natCast.2 (Nat.dvd_mul_left _ _)) ?_
    rw [Int.natAbs_natCast]
    exact Nat.mul_le_mul_right _ (by omega))
  have e1 : upw 1 q r T = true := by unfold upw; simp; omega
  have e2 : upw (-1) q r T = false := by unfold upw; simp
  rw [e1] at h1
  rw [e2] at h2
  simp only [Bool.toNat_true, Bool.toNat_false, Nat.add_zero] at h1 h2
  have hx : (q + 1) * T = q * T + T := by rw [Nat.add_mul, Nat.one_mul]
  have hlow : 4503599627370496 * T ≤ A := by
    have g := (rn_nr A).low
    rw [← hE, ← hT, Int.natAbs_natCast] at g
    rcases g with g | g
    · omega
    · exact g
  refine ⟨E, q, ?_⟩
  rw [← hT]
  refine ⟨by omega, by omega, hlow, h2.1, h1.1, ?_⟩
  rw [h0.2.2.2.2.1, h0.1]
  cases upw 0 q r T
  · simp only [Bool.toNat_false, Nat.add_zero]
    rcases Nat.mod_two_eq_zero_or_one q with c | c
    · right; exact ⟨by omega, Or.inl ⟨trivial, c⟩⟩
    · left; exact ⟨by omega, Or.inl ⟨trivial, c⟩⟩
  · simp only [Bool.toNat_true]
    rcases Nat.mod_two_eq_zero_or_one q with c | c
    · left; exact ⟨by omega, Or.inr ⟨trivial, c⟩⟩
    · right; exact ⟨by omega, Or.inr ⟨trivial, c⟩⟩
set_option maxHeartbeats 2000000 in
theorem odd_words (E : Int) (s o sz : Bool) (r ro K : Nat) (hK : 53 ≤ K) (hK2 : K ≤ 2096) (hv : E.natAbs < 2 ^ K) (hr : r = rgU 53 (rU 0 53 E.natAbs 1)) (hs : s = (if E = 0 then sz else decide (E < 0))) (ho : Iv o ro = E - Iv s r) (hnf : ¬ FL E) :
    ∃ (tn : Bool) (tr b k : Nat), tr < 9218868437227405312 ∧ k % 2 = 1 ∧ 4503599627370496 * 2 ^ b ≤ E.natAbs ∧ Iv tn tr = (if E < 0 then -((k * 2 ^ b : Nat) : Int) else ((k * 2 ^ b : Nat) : Int)) ∧ (E - Iv tn tr).natAbs < 2 ^ b ∧ Fq.plz o ro ≠ 0
      ∧ (r % 2 = 1 → Fq.wD s r = Fq.wD tn tr) ∧ (r % 2 = 0 → Fq.plz o ro < 0 → Fq.plz s r ≠ -9218868437227405312 ∧ Fq.fD (Fq.plz s r - 1) = Fq.wD tn tr) ∧ (r % 2 = 0 → 0 < Fq.plz o ro → Fq.plz s r ≠ 9218868437227405312 ∧ Fq.fD (Fq.plz s r + 1) = Fq.wD tn tr) := by
  have hE0 : E ≠ 0 := fun h => hnf (by rw [h]; exact ⟨0, Int.dvd_zero _, by simp⟩)
  obtain ⟨A, hA⟩ : ∃ A, A = E.natAbs := ⟨_, rfl⟩
  have hAf : ¬ FL (A : Int) := fun h => hnf (fl_abs (by rw [← hA]; exact h))
  obtain ⟨b, q, b1, b2, b3, u1, u2, u3⟩ := odd_nat A hAf
  have hsn : s = decide (E < 0) := by rw [hs, if_neg hE0]
  rw [← hA] at hr hv
  have S1 := (step_w (-1) E s o sz r ro K hK hK2 (by rw [← hA]; exact hv) (by rw [← hA]; exact hr) hs ho).1 rfl
  have S2 := (step_w 1 E s o sz r ro K hK hK2 (by rw [← hA]; exact hv) (by rw [← hA]; exact hr) hs ho).2.1 rfl
  obtain ⟨hp1, hp2⟩ := iv_plz o ro
  have hU := vV_rung A 0
  rw [← hr] at hU
  have hiv : Iv s r = if E < 0 then -((rU 0 53 A 1 : Nat) : Int) else ((rU 0 53 A 1 : Nat) : Int) := by
    unfold Iv; rw [hU, hsn]
    by_cases c : E < 0
    · rw [decide_eq_true c, if_pos rfl, if_pos c]
    · rw [decide_eq_false c, if_neg (by simp), if_neg c]
  have hx : (q + 1) * 2 ^ b = q * 2 ^ b + 2 ^ b := by rw [Nat.add_mul, Nat.one_mul]
  obtain ⟨T, hT⟩ : ∃ T, T = 2 ^ b := ⟨_, rfl⟩
  obtain ⟨Q, hQ⟩ : ∃ Q, Q = q * 2 ^ b := ⟨_, rfl⟩
  -- the odd one is a directed rounding
  obtain ⟨k, dk, hk1, hkU, hkA⟩ : ∃ (k : Nat) (dk : Int), k % 2 = 1 ∧ rU dk 53 A 1 = k * 2 ^ b ∧ ((q % 2 = 1 ∧ k = q ∧ dk = -1) ∨ (q % 2 = 0 ∧ k = q + 1 ∧ dk = 1)) := by
    rcases Nat.mod_two_eq_zero_or_one q with c | c
    · exact ⟨q + 1, 1, by omega, u2, Or.inr ⟨c, rfl, rfl⟩⟩
    · exact ⟨q, -1, c, u1, Or.inl ⟨c, rfl, rfl⟩⟩
  have hfin : ∀ dd d2 : Int, finU 53 2098 9218868437227405311 9218868437227405312 d2 (rU dd 53 A 1) = rgU 53 (rU dd 53 A 1) ∧ rgU 53 (rU dd 53 A 1) < 9218868437227405312 := fun dd d2 => fin_small A dd d2 K hK (by omega) hv
  have hkv : Fq.vV Ieee.double (rgU 53 (k * 2 ^ b)) = k * 2 ^ b := by rw [← hkU]; exact vV_rung A dk
  have hkpos : 0 < k * 2 ^ b := Nat.mul_pos (by omega) (Nat.two_pow_pos b)
  have hk0 : rgU 53 (k * 2 ^ b) ≠ 0 := fun h => by
    rw [h, (vV_pos 0).2 rfl] at hkv; omega
  have hkb : A < k * 2 ^ b + 2 ^ b ∧ k * 2 ^ b < A + 2 ^ b := by
    rcases hkA with ⟨_, e, _⟩ | ⟨_, e, _⟩ <;> rw [e] <;> omega
  have hivk : Iv (decide (E < 0)) (rgU 53 (k * 2 ^ b)) = (if E < 0 then -((k * 2 ^ b : Nat) : Int) else ((k * 2 ^ b : Nat) : Int)) := by
    unfold Iv; rw [hkv]
    by_cases c : E < 0
    · rw [decide_eq_true c, if_pos rfl, if_pos c]
    · rw [decide_eq_false c, if_neg (by simp), if_neg c]
  have hsum : ∀ d : Int, rU (dirN (decide (E < 0)) d) 53 A 1 = k * 2 ^ b → sumW d E = Fq.wD (decide (E < 0)) (rgU 53 (k * 2 ^ b)) := fun d h => by
    unfold sumW
    rw [if_neg hE0, ← hA, (hfin _ _).1, h]
    unfold mdW Fq.wD; rw [if_neg hk0]
  refine ⟨decide (E < 0), rgU 53 (k * 2 ^ b), b, k, by rw [← hkU]; exact (hfin dk 0).2, hk1, by rw [← hA]; exact b3, hivk, ?_, ?_, ?_, ?_, ?_⟩
  · rw [hivk]
    by_cases c : E < 0
    · rw [if_pos c]; omega
    · rw [if_neg c]; omega
  · intro h0
    have : Iv o ro = 0 := by omega
    rw [ho, hiv] at this
    rcases u3 with ⟨_, ⟨e, _⟩ | ⟨e, _⟩⟩ | ⟨_, ⟨e, _⟩ | ⟨e, _⟩⟩ <;> rw [e] at this <;> (by_cases c : E < 0 <;> simp only [c, if_true, if_false] at this <;> omega)
  · intro hodd
    rw [hsn, hr]
    congr 2
    rw [hr] at hodd
    rcases u3 with ⟨_, ⟨e, f⟩ | ⟨e, f⟩⟩ | ⟨g, _⟩
    · rw [e]; rcases hkA with ⟨_, e2, _⟩ | ⟨c, _, _⟩
      · rw [e2]
      · omega
    · rw [e]; rcases hkA with ⟨c, _, _⟩ | ⟨_, e2, _⟩
      · omega
      · rw [e2]
    · omega
  · intro hev hneg
    obtain ⟨a1, a2⟩ := S1 hneg
    refine ⟨a1, ?_⟩
    rw [a2]
    apply hsum
    rw [← hp1, ho, hiv] at hneg
    rw [hr] at hev
    rcases u3 with ⟨g, _⟩ | ⟨_, ⟨e, f⟩ | ⟨e, f⟩⟩
    · omega
    · rw [e] at hneg
      by_cases c : E < 0
      · rw [decide_eq_true c]
        rcases hkA with ⟨c2, _, _⟩ | ⟨_, e2, _⟩
        · omega
        · rw [e2]; exact u2
      · simp only [c, if_false] at hneg; omega
    · rw [e] at hneg
      by_cases c : E < 0
      · simp only [c, if_true] at hneg; omega
      · rw [decide_eq_false c]
        rcases hkA with ⟨_, e2, _⟩ | ⟨c2, _, _⟩
        · rw [e2]; exact u1
        · omega
  · intro hev hpos
    obtain ⟨a1, a2⟩ := S2 hpos
    refine ⟨a1, ?_⟩
    rw [a2]
    apply hsum
    rw [← hp2, ho, hiv] at hpos
    rw [hr] at hev
    rcases u3 with ⟨g, _⟩ | ⟨_, ⟨e, f⟩ | ⟨e, f⟩⟩
    · omega
    · rw [e] at hpos
      by_cases c : E < 0
      · simp only [c, if_true] at hpos; omega
      · rw [decide_eq_false c]
        rcases hkA with ⟨c2, _, _⟩ | ⟨_, e2, _⟩
        · omega
        · rw [e2]; exact u2
    · rw [e] at hpos
      by_cases c : E < 0
      · rw [decide_eq_true c]
        rcases hkA with ⟨_, e2, _⟩ | ⟨c2, _, _⟩
        · rw [e2]; exact u1
        · omega
      · simp only [c, if_false] at hpos; omega
theorem fuse_facts {P s1 Sm Hd Lst R2 E : Int} {T1 T2 : Nat} (fP : FL P) (fL : FL Lst) (k1 : Nr s1 Sm T1) (hL : Lst = s1 - Sm) (k2 : Nr (P + Sm) Hd T2) (hR : R2 = P + Sm - Hd) (hE : E = R2 + Lst) (hne : ¬ FL E) : 4503599627370496 * T2 ≤ Hd.natAbs ∧ 2 * E.natAbs ≤ 3 * T2 := by
  have r0 : R2 ≠ 0 := fun h => hne (by rw [hE, h, Int.zero_add]; exact fL)
  have n2 := k2.near
  have hT2 : 2 ≤ T2 := by omega
  refine ⟨k2.mag (by omega), ?_⟩
  have hT1 : T1 ≤ 2 * T2 := by
    refine Decidable.byContradiction fun hc => ?_
    have four : 4 * T2 ≤ T1 := by
      refine Decidable.byContradiction fun h4 => hc ?_
      have h2 := two_times k2.two 1
      rw [Nat.pow_one] at h2
      exact two_half k1.two h2 (by omega)
    have l1 := k1.mag (by omega)
    have l2 := k2.lt
    obtain ⟨k, hk, hb⟩ := fP
    have hTk : T2 ≤ 2 ^ k := by omega
    have d1 : (T2 : Int) ∣ P := by
      refine Int.dvd_trans ?_ hk
      rw [← castpow]
      exact Int.natCast_dvd_natCast.2 (two_dvd ⟨k, rfl⟩ k2.two hTk)
    have d2 : (T2 : Int) ∣ Sm := Int.dvd_trans (Int.natCast_dvd_natCast.2 (two_dvd k1.two k2.two (by omega))) k1.dvd
    have d3 : (T2 : Int) ∣ R2 := by rw [hR]; exact Int.dvd_sub (Int.dvd_add d1 d2) k2.dvd
    exact r0 (dvd_small (by omega) d3 (by rw [Int.natAbs_natCast]; omega))
  have n1 := k1.near
  omega
theorem fuse_nat (Hn : Nat) (e tl : Int) (T2 b k : Nat) (hT : ∃ a, T2 = 2 ^ a) (hH : T2 ∣ Hn) (hH1 : 4503599627370496 * T2 ≤ Hn) (hE1 : 2 * e.natAbs ≤ 3 * T2) (hE2 : 4503599627370496 * 2 ^ b ≤ e.natAbs) (hk : k % 2 = 1) (htl : tl = ((k * 2 ^ b : Nat) : Int) ∨ tl = -((k * 2 ^ b : Nat) : Int)) (hd : (e - tl).natAbs < 2 ^ b) (d : Int) :
    0 < (Hn : Int) + e ∧ 0 < (Hn : Int) + tl ∧ rU d 53 ((Hn : Int) + e).natAbs 1 = rU d 53 ((Hn : Int) + tl).natAbs 1 := by
  obtain ⟨t, ht⟩ : ∃ t, t = 2 ^ b := ⟨_, rfl⟩
  have htp : 0 < t := by rw [ht]; exact Nat.two_pow_pos b
  rw [← ht] at hE2 htl hd
  have hbig : 2251799813685248 * t ≤ T2 := by omega
  -- the last even multiple below
  obtain ⟨j, hj⟩ : ∃ j : Int, tl = 2 * (t : Int) * j + t := by
    rcases htl with h | h
    · refine ⟨((k / 2 : Nat) : Int), ?_⟩
      have hk2 : k = 2 * (k / 2) + 1 := by omega
      rw [h]
      have : k * t = 2 * t * (k / 2) + t := by
        conv => lhs; rw [hk2]
        rw [Nat.add_mul, Nat.one_mul]; ac_rfl
      rw [this]; simp
    · refine ⟨-((k / 2 : Nat) : Int) - 1, ?_⟩
      have hk2 : k = 2 * (k / 2) + 1 := by omega
      have : k * t = 2 * t * (k / 2) + t := by
        conv => lhs; rw [hk2]
        rw [Nat.add_mul, Nat.one_mul]; ac_rfl
      rw [h, this, Int.mul_sub, Int.mul_neg]
      simp
      omega
  obtain ⟨g, hg⟩ : ∃ g, Hn = 2 * t * g := by
    have hb1 : ∃ x, 2 * t = 2 ^ x := ⟨b + 1, by rw [ht, Nat.pow_succ, Nat.mul_comm]⟩
    exact Nat.dvd_trans (two_dvd hT hb1 (by omega)) hH
  obtain ⟨c, hc⟩ : ∃ c, c = 2 * t := ⟨_, rfl⟩
  have hgj : 0 ≤ (g : Int) + j := by
    refine Decidable.byContradiction fun h => ?_
    have h1 : (2 * (t : Int)) * ((g : Int) + j) ≤ (2 * (t : Int)) * (-1) := Int.mul_le_mul_of_nonneg_left (by omega) (by omega)
    rw [Int.mul_add] at h1
    have h2 : ((Hn : Nat) : Int) = 2 * (t : Int) * (g : Int) := by rw [hg]; simp
    omega
  obtain ⟨h, hh⟩ := Int.eq_ofNat_of_zero_le hgj
  have hHi : ((Hn : Nat) : Int) = 2 * (t : Int) * (g : Int) := by rw [hg]; simp
  have hhm : ((h * c : Nat) : Int) = 2 * (t : Int) * (g : Int) + 2 * (t : Int) * j := by rw [← Int.mul_add, hh, hc, Int.natCast_mul, Int.mul_comm]; simp
  obtain ⟨M, hM⟩ : ∃ M, M = h * c := ⟨_, rfl⟩
  rw [← hM] at hhm
  have eA' : (Hn : Int) + tl = ((M + t : Nat) : Int) := by rw [hj]; omega
  obtain ⟨l, hl⟩ : ∃ l : Nat, (Hn : Int) + e = ((M + l : Nat) : Int) ∧ 0 < l ∧ l < c := by
    refine ⟨(e - (2 * (t : Int) * j)).toNat, ?_⟩
    omega
  obtain ⟨eA, l1, l2⟩ := hl
  refine ⟨by omega, by omega, ?_⟩
  rw [eA, eA', Int.natAbs_natCast, Int.natAbs_natCast]
  obtain ⟨E, hE⟩ : ∃ E, E = rE 53 (M + l) 1 := ⟨_, rfl⟩
  have hs := (rE_spec 53 (M + l) 1 (by decide) (by decide)).1
  rw [← hE, Nat.one_mul, Nat.pow_add, pw53] at hs
  have hEb : b + 2 ≤ E := by
    refine Decidable.byContradiction fun h9 => ?_
    have : 2 ^ E ≤ 2 ^ (b + 1) := Nat.pow_le_pow_right (by decide) (by omega)
    rw [Nat.pow_succ, ← ht] at this
    omega
  refine rU_sticky d 53 (M + l) (M + t) 1 c h l t (2 ^ (E - b - 2)) (by decide) (by decide) (by rw [hM]) l2 (by rw [hM]) (by omega) ⟨fun h => by omega, fun h => by omega⟩ ?_
  rw [← hE, hc, ht, Nat.one_mul, show 2 * (2 * 2 ^ b * 2 ^ (E - b - 2)) = 2 ^ 2 * 2 ^ b * 2 ^ (E - b - 2) from by rw [show (2 : Nat) ^ 2 = 2 * 2 from rfl]; ac_rfl, ← Nat.pow_add, ← Nat.pow_add]
  congr 1
  omega
theorem fuse_sum (Hd E tl : Int) (T2 b k : Nat) (hT : ∃ a, T2 = 2 ^ a) (hH : (T2 : Int) ∣ Hd) (hH1 : 4503599627370496 * T2 ≤ Hd.natAbs) (hE1 : 2 * E.natAbs ≤ 3 * T2) (hE2 : 4503599627370496 * 2 ^ b ≤ E.natAbs) (hk : k % 2 = 1) (htl : tl = ((k * 2 ^ b : Nat) : Int) ∨ tl = -((k * 2 ^ b : Nat) : Int)) (hd : (E - tl).natAbs < 2 ^ b) (d : Int) : sumW d (Hd + tl) = sumW d (Hd + E) := by
  have hHn : T2 ∣ Hd.natAbs := Int.natCast_dvd_natCast.1 (Int.dvd_natAbs.2 hH)
  have hT0 : 0 < T2 := by obtain ⟨a, rfl⟩ := hT; exact Nat.two_pow_pos a
  rcases Int.natAbs_eq Hd with e | e
  · have h := fun d => fuse_nat Hd.natAbs E tl T2 b k hT hHn hH1 hE1 hE2 hk htl hd d
    rw [← e] at h
    obtain ⟨p1, p2, _⟩ := h 0
    unfold sumW
    rw [if_neg (by omega), if_neg (by omega), decide_eq_false (by omega), decide_eq_false (by omega), (h _).2.2]
  · have h := fun d => fuse_nat Hd.natAbs (-E) (-tl) T2 b k hT hHn hH1 (by omega) (by omega) hk (by rcases htl with h | h <;> rw [h] <;> simp) (by omega) d
    have e1 : ((Hd.natAbs : Nat) : Int) + -E = -(Hd + E) := by omega
    have e2 : ((Hd.natAbs : Nat) : Int) + -tl = -(Hd + tl) := by omega
    rw [e1, e2] at h
    simp only [Int.natAbs_neg] at h
    obtain ⟨p1, p2, _⟩ := h 0
    unfold sumW
    rw [if_neg (by omega), if_neg (by omega), decide_eq_true (by omega), decide_eq_true (by omega), (h _).2.2]
end Go.Proofs.YtnjlcfpkhgmjeaaGreatDoor
