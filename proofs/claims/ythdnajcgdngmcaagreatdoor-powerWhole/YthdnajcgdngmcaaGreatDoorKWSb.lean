import Derived.Test.YthdnajcgdngmcaaGreatDoorKNRm
namespace Go.Proofs.YthdnajcgdngmcaaGreatDoor
open Go.RowKit
theorem mM_lt7 (m : Nat) : Fq.mM Ieee.double m < 9007199254740992 := by
  unfold Fq.mM; rw [Fq.binD]
  by_cases c : m < 4503599627370496
  · rw [if_pos c]; omega
  · rw [if_neg c]
    have := Nat.mod_lt m (show 0 < 4503599627370496 by decide)
    omega
theorem whole_rp (K : Nat) (hK : K = 1074) (m Q : Nat) (hm : m < 9218868437227405312) (h : Q * 2 ^ K = Fq.vV Ieee.double m ∨ Q ≤ 4503599627370496) : Fq.vV Ieee.double (rgU 53 (Q * 2 ^ K)) = Q * 2 ^ K ∧ rgU 53 (Q * 2 ^ K) < 9218868437227405312 := by
  rcases h with h | h
  · rw [h, rg_vV m hm]; exact ⟨rfl, hm⟩
  · have hfl : FL ((Q * 2 ^ K : Nat) : Int) := ⟨K, ⟨(Q : Int), by rw [Int.natCast_mul, Int.mul_comm, Int.natCast_pow]; rfl⟩, by rw [Int.natAbs_natCast]; exact Nat.mul_le_mul_right _ (by omega)⟩
    have e := rU_fl 0 (Q * 2 ^ K) hfl
    have v := vV_rung (Q * 2 ^ K) 0
    rw [e] at v
    refine ⟨v, ?_⟩
    obtain ⟨J, hJ⟩ : ∃ J : Nat, J = 1024 := ⟨_, rfl⟩
    have hI : Fq.vV Ieee.double 9218868437227405312 = 2 ^ (J + K) := by rw [hJ]; exact vV_inf K hK
    apply (Fq.vV_lt_iff Ieee.double _ _).1
    rw [v, hI, Nat.pow_add]
    refine Nat.mul_lt_mul_of_pos_right (Nat.lt_of_le_of_lt h ?_) (Nat.two_pow_pos K)
    rw [show (4503599627370496 : Nat) = 2 ^ 52 from by decide]
    exact Nat.pow_lt_pow_right (by decide) (by omega)
theorem cut_rp (K : Nat) (k : Nat) (s : Bool) (m : Nat) : cutN k s (Fq.vV Ieee.double m) (2 ^ K) * 2 ^ K = Fq.vV Ieee.double m ∨ cutN k s (Fq.vV Ieee.double m) (2 ^ K) ≤ 4503599627370496 := by
  obtain ⟨E, hE⟩ : ∃ E, E = Fq.eE Ieee.double m := ⟨_, rfl⟩
  obtain ⟨M, hM⟩ : ∃ M, M = Fq.mM Ieee.double m := ⟨_, rfl⟩
  have hV : Fq.vV Ieee.double m = M * 2 ^ E := by rw [hM, hE]; rfl
  have hMl : M < 9007199254740992 := by rw [hM]; exact mM_lt7 m
  rw [hV]
  clear hV hM hE
  by_cases c : K ≤ E
  · left
    have e : M * 2 ^ E = M * 2 ^ (E - K) * 2 ^ K := by rw [Nat.mul_assoc, ← Nat.pow_add]; congr 2; omega
    rw [e, cutN_mul _ _ _ _ (Nat.two_pow_pos K)]
  · right
    have h1 : M * 2 ^ E < 4503599627370496 * 2 ^ K := by
      have a1 : M * 2 ^ E < 9007199254740992 * 2 ^ E := Nat.mul_lt_mul_of_pos_right hMl (Nat.two_pow_pos E)
      have a2 : 2 ^ (E + 1) ≤ 2 ^ K := Nat.pow_le_pow_right (by decide) (by omega)
      rw [Nat.pow_succ] at a2
      generalize 2 ^ E = P at *
      generalize 2 ^ K = R at *
      generalize M * P = X at *
      omega
    have h2 : M * 2 ^ E / 2 ^ K < 4503599627370496 := (Nat.div_lt_iff_lt_mul (Nat.two_pow_pos K)).2 h1
    have h3 := b1_le (bmp k s (M * 2 ^ E / 2 ^ K) (M * 2 ^ E % 2 ^ K) (2 ^ K))
    unfold cutN
    omega
theorem cut_fin (K : Nat) (hK : K = 1074) (k : Nat) (s : Bool) (m : Nat) (hm : m < 9218868437227405312) : Fq.vV Ieee.double (rgU 53 (cutN k s (Fq.vV Ieee.double m) (2 ^ K) * 2 ^ K)) = cutN k s (Fq.vV Ieee.double m) (2 ^ K) * 2 ^ K ∧ rgU 53 (cutN k s (Fq.vV Ieee.double m) (2 ^ K) * 2 ^ K) < 9218868437227405312 := whole_rp K hK m _ hm (cut_rp K k s m)
def cR (K k : Nat) (s : Bool) (m : Nat) : Nat := if m = 9218868437227405312 then m else rgU 53 (cutN k s (Fq.vV Ieee.double m) (2 ^ K) * 2 ^ K)
theorem cR_le (K : Nat) (hK : K = 1074) (k : Nat) (s : Bool) (m : Nat) (hm : m ≤ 9218868437227405312) : cR K k s m ≤ 9218868437227405312 := by
  unfold cR
  by_cases c : m = 9218868437227405312
  · rw [if_pos c]; omega
  · rw [if_neg c]
    have := (cut_fin K hK k s m (by omega)).2
    omega
theorem int_w (K : Nat) (hK : K = 1074) (k : Nat) (hk : 1 ≤ k ∧ k ≤ 4) (n : Bool) (m : Nat) (hm : m ≤ 9218868437227405312) : FloatKind.f64.encode ((FloatKind.f64.decode (Fq.wD n m)).integral (wayOf k)) = Fq.wD n (cR K k n m) := by
  show Ieee.double.write ((Ieee.double.read (Fq.wD n m)).integral _) = _
  unfold cR
  by_cases ci : m = 9218868437227405312
  · rw [if_pos ci, ci, Fq.read_inf _ _ Fq.binfD (by rw [Fq.rgD n _ (by omega), Fq.infD]), Fq.ngD n _ (by omega)]
    unfold Ieee.Datum.integral Ieee.Format.write
    simp only
    rw [wdD9, Fq.infD]
  rw [if_neg ci]
  rw [Fq.read_fin _ _ (by rw [Fq.rgD n m (by omega), Fq.infD]; omega), Fq.rgD n m (by omega), Fq.ngD n m (by omega), lpD9]
  unfold Ieee.Datum.integral Ieee.Format.write
  simp only
  rw [cut_way k hk, near_w _ _ _ K (by omega)]
  have e1 : cutN k n (Fq.mM Ieee.double m <<< (-1074 + (Fq.eE Ieee.double m : Int)).toNat) (2 ^ (-(-1074 + (Fq.eE Ieee.double m : Int))).toNat) = cutN k n (Fq.vV Ieee.double m) (2 ^ K) := by
    rw [Nat.shiftLeft_eq]
    show _ = cutN k n (Fq.mM Ieee.double m * 2 ^ Fq.eE Ieee.double m) (2 ^ K)
    generalize Fq.mM Ieee.double m = M
    generalize Fq.eE Ieee.double m = E
    by_cases c : K ≤ E
    · rw [show (-1074 + (E : Int)).toNat = E - K from by omega, show (-(-1074 + (E : Int))).toNat = 0 from by omega, Nat.pow_zero]
      have h := cutN_scale k n (M * 2 ^ (E - K)) 1 (2 ^ K) (Nat.two_pow_pos K)
      rw [Nat.one_mul, Nat.mul_assoc, ← Nat.pow_add, show E - K + K = E from by omega] at h
      exact h.symm
    · rw [show (-1074 + (E : Int)).toNat = 0 from by omega, show (-(-1074 + (E : Int))).toNat = K - E from by omega, Nat.pow_zero, Nat.mul_one]
      have h := cutN_scale k n M (2 ^ (K - E)) (2 ^ E) (Nat.two_pow_pos E)
      rw [← Nat.pow_add, show K - E + E = K from by omega] at h
      exact h.symm
  rw [e1]
  obtain ⟨v, lt⟩ := cut_fin K hK k n m (by omega)
  generalize cutN k n (Fq.vV Ieee.double m) (2 ^ K) * 2 ^ K = X at *
  have h1 := rU_vV 0 (rgU 53 X) lt
  rw [v] at h1
  have h2 := fin_vV 0 (rgU 53 X) lt
  rw [v] at h2
  rw [h1, h2]
def plV (V : Int) : Int := if V < 0 then -((rgU 53 V.natAbs : Nat) : Int) else ((rgU 53 V.natAbs : Nat) : Int)
def stZ (K k : Nat) (z : Int) : Int := if k = 0 then (if z < 0 then -4607182418800017408 else if z = 0 then 0 else 4607182418800017408) else if z = 9218868437227405312 ∨ z = -9218868437227405312 then z else plV (stV k (2 ^ K) (vZ z))
theorem vZ_lt7 (x y : Int) (h : x < y) : vZ x < vZ y := by
  have p : ∀ z : Int, 0 ≤ z → vZ z = ((Fq.vV Ieee.double z.natAbs : Nat) : Int) := vZ_pos
  have q : ∀ a b : Nat, a < b → Fq.vV Ieee.double a < Fq.vV Ieee.double b := fun a b g => Fq.vV_lt _ g
  rcases Int.lt_or_le x 0 with c | c
  · have e := vZ_neg (-x)
    rw [Int.neg_neg] at e
    rw [e, p (-x) (by omega)]
    rcases Int.lt_or_le y 0 with c2 | c2
    · have e2 := vZ_neg (-y)
      rw [Int.neg_neg] at e2
      rw [e2, p (-y) (by omega)]
      have := q (-y).natAbs (-x).natAbs (by omega)
      omega
    · rw [p y c2]
      have := q 0 (-x).natAbs (by omega)
      omega
  · rw [p x c, p y (by omega)]
    have := q x.natAbs y.natAbs (by omega)
    omega
theorem vZ_iff (x y : Int) : vZ x ≤ vZ y ↔ x ≤ y := by
  constructor
  · intro h
    rcases Int.lt_or_le y x with c | c
    · have := vZ_lt7 _ _ c; omega
    · exact c
  · intro h
    rcases Int.lt_or_le x y with c | c
    · have := vZ_lt7 _ _ c; omega
    · have : x = y := by omega
      rw [this]; exact Int.le_refl _
theorem vZ_0 : vZ 0 = 0 := by rw [vZ_pos 0 (by omega)]; exact congrArg _ vV0X
theorem rgU0 : rgU 53 0 = 0 := rgU_zero _
theorem stZ_word (K : Nat) (k : Nat) (hk : k ≠ 0) (z : Int) (hz : BdZ z) : Fq.plz (decide (z < 0)) (cR K k (decide (z < 0)) z.natAbs) = stZ K k z := by
  unfold stZ cR BdZ at *
  rw [if_neg hk]
  by_cases ci : z = 9218868437227405312 ∨ z = -9218868437227405312
  · rw [if_pos ci, if_pos (by omega)]; unfold Fq.plz; by_cases c : z < 0 <;> simp [c] <;> omega
  rw [if_neg ci, if_neg (by omega)]
  unfold plV stV Fq.plz
  rw [if_neg hk]
  by_cases c : z < 0
  · have e := vZ_neg (-z)
    rw [Int.neg_neg, vZ_pos (-z) (by omega), Int.natAbs_neg] at e
    have hv : vZ z < 0 := by have := vZ_lt7 z 0 c; rw [vZ_0] at this; exact this
    rw [decide_eq_true c, if_pos rfl, if_pos hv, e, Int.natAbs_neg, Int.natAbs_natCast]
    generalize cutN k true (Fq.vV Ieee.double z.natAbs) (2 ^ K) * 2 ^ K = X
    by_cases x0 : X = 0
    · rw [x0, rgU0]; simp; rw [rgU0]; rfl
    · rw [if_pos (by omega), Int.natAbs_neg, Int.natAbs_natCast]
  · have e := vZ_pos z (by omega)
    rw [decide_eq_false c, if_neg (by decide), e, if_neg (show ¬ ((Fq.vV Ieee.double z.natAbs : Nat) : Int) < 0 by omega), Int.natAbs_natCast]
    generalize cutN k false (Fq.vV Ieee.double z.natAbs) (2 ^ K) * 2 ^ K = X
    rw [if_neg (by omega), Int.natAbs_natCast]
theorem stZ_val (K : Nat) (hK : K = 1074) (k : Nat) (hk : k ≠ 0) (z : Int) (hz : -9218868437227405312 < z ∧ z < 9218868437227405312) : vZ (stZ K k z) = stV k (2 ^ K) (vZ z) ∧ -9218868437227405312 < stZ K k z ∧ stZ K k z < 9218868437227405312 := by
  have hw := stZ_word K k hk z (by unfold BdZ; omega)
  rw [← hw]
  unfold stV cR
  rw [if_neg hk, if_neg (show ¬ z.natAbs = 9218868437227405312 by omega)]
  by_cases c : z < 0
  · have e := vZ_neg (-z)
    rw [Int.neg_neg, vZ_pos (-z) (by omega), Int.natAbs_neg] at e
    have hv : vZ z < 0 := by have := vZ_lt7 z 0 c; rw [vZ_0] at this; exact this
    obtain ⟨v, lt⟩ := cut_fin K hK k true z.natAbs (by omega)
    rw [decide_eq_true c, if_pos hv, e, Int.natAbs_neg, Int.natAbs_natCast]
    generalize cutN k true (Fq.vV Ieee.double z.natAbs) (2 ^ K) * 2 ^ K = X at *
    generalize rgU 53 X = R at *
    unfold Fq.plz
    rw [if_pos rfl, vZ_neg, vZ_pos (R : Int) (by omega), Int.natAbs_natCast, v]
    exact ⟨rfl, by omega, by omega⟩
  · have e := vZ_pos z (by omega)
    obtain ⟨v, lt⟩ := cut_fin K hK k false z.natAbs (by omega)
    rw [decide_eq_false c, e, if_neg (show ¬ ((Fq.vV Ieee.double z.natAbs : Nat) : Int) < 0 by omega), Int.natAbs_natCast]
    generalize cutN k false (Fq.vV Ieee.double z.natAbs) (2 ^ K) * 2 ^ K = X at *
    generalize rgU 53 X = R at *
    unfold Fq.plz
    rw [if_neg (by decide), vZ_pos (R : Int) (by omega), Int.natAbs_natCast, v]
    exact ⟨rfl, by omega, by omega⟩
theorem stZ_inf (K k : Nat) (hk : k ≠ 0) (z : Int) (h : z = 9218868437227405312 ∨ z = -9218868437227405312) : stZ K k z = z := by
  unfold stZ; rw [if_neg hk, if_pos h]
theorem stZ_bd (K : Nat) (hK : K = 1074) (k : Nat) (z : Int) (hz : BdZ z) : BdZ (stZ K k z) := by
  unfold BdZ at *
  by_cases c : k = 0
  · unfold stZ; rw [if_pos c]; split
    · omega
    · split <;> omega
  by_cases ci : z = 9218868437227405312 ∨ z = -9218868437227405312
  · rw [stZ_inf K k c z ci]; omega
  · have := (stZ_val K hK k c z (by omega)).2; omega
theorem stZ_mono (K : Nat) (hK : K = 1074) (k : Nat) (x y : Int) (hx : BdZ x) (hy : BdZ y) (h : x ≤ y) : stZ K k x ≤ stZ K k y := by
  have bx := stZ_bd K hK k x hx
  have b9 := stZ_bd K hK k y hy
  unfold BdZ at *
  by_cases c : k = 0
  · unfold stZ; rw [if_pos c, if_pos c]
    by_cases a : x < 0 <;> by_cases b : y < 0 <;> by_cases a0 : x = 0 <;> by_cases b0 : y = 0 <;> simp [a, b, a0, b0] <;> omega
  by_cases cx : x = -9218868437227405312
  · rw [stZ_inf K k c x (Or.inr cx), cx]; omega
  by_cases cy : y = 9218868437227405312
  · rw [stZ_inf K k c y (Or.inl cy), cy]; omega
  have vx := stZ_val K hK k c x (by omega)
  have vy := stZ_val K hK k c y (by omega)
  apply (vZ_iff _ _).1
  rw [vx.1, vy.1]
  exact stV_mono k _ (Nat.two_pow_pos K) _ _ ((vZ_iff _ _).2 h)
theorem stZ_vd (K : Nat) (hK : K = 1074) (k : Nat) (L H : Int) (h : VdZ L H) (n : L ≠ 9218868437227405312) : VdZ (stZ K k L) (stZ K k H) := by
  have m := stZ_mono K hK k L H h.lo h.hi
  have b1 := stZ_bd K hK k L h.lo
  have b2 := stZ_bd K hK k H h.hi
  unfold VdZ BdZ at *
  have hh : L ≤ H ∧ -9218868437227405312 < H := by omega
  replace m := m hh.1
  right
  by_cases c : k = 0
  · unfold stZ at *; rw [if_pos c] at *
    refine ⟨?_, ?_, ?_, ?_, ?_⟩ <;> (first | omega | (rw [if_pos c]; split <;> (try split) <;> omega))
  have fL : stZ K k L < 9218868437227405312 := by
    by_cases ci : L = -9218868437227405312
    · rw [stZ_inf K k c L (Or.inr ci)]; omega
    · exact (stZ_val K hK k c L (by omega)).2.2
  have fH : -9218868437227405312 < stZ K k H := by
    by_cases ci : H = 9218868437227405312
    · rw [stZ_inf K k c H (Or.inl ci)]; omega
    · exact (stZ_val K hK k c H (by omega)).2.1
  omega
theorem half_up (X h : Nat) (hh : 0 < h) : (X + h) / (2 * h) = X / (2 * h) + (decide (2 * h ≤ 2 * (X % (2 * h)))).toNat := by
  have e := Nat.div_add_mod X (2 * h)
  have r := Nat.mod_lt X (show 0 < 2 * h by omega)
  generalize X / (2 * h) = q at *
  generalize X % (2 * h) = t at *
  by_cases c : 2 * h ≤ 2 * t
  · rw [decide_eq_true c, ← e, show 2 * h * q + t + h = (t - h) + 2 * h * (q + 1) from by rw [Nat.mul_add]; omega, Nat.add_mul_div_left _ _ (by omega), Nat.div_eq_of_lt (by omega)]
    simp
  · rw [decide_eq_false c, ← e, show 2 * h * q + t + h = (t + h) + 2 * h * q from by omega, Nat.add_mul_div_left _ _ (by omega), Nat.div_eq_of_lt (by omega)]
    simp
theorem vV_parts (m : Nat) : Fq.vV Ieee.double m = if m < 4503599627370496 then m else (4503599627370496 + m % 4503599627370496) * 2 ^ (m / 4503599627370496 - 1) := by
  unfold Fq.vV Fq.mM Fq.eE
  rw [Fq.binD]
  by_cases c : m < 4503599627370496
  · rw [if_pos c, if_pos c, if_pos c, Nat.pow_zero, Nat.mul_one]
  · rw [if_neg c, if_neg c, if_neg c]
def awR (m : Nat) : Nat := if m / 4503599627370496 < 1023 then (if m / 4503599627370496 = 1022 then 4607182418800017408 else 0) else if m / 4503599627370496 < 1075 then (m + 2 ^ (1074 - m / 4503599627370496)) / 2 ^ (1075 - m / 4503599627370496) * 2 ^ (1075 - m / 4503599627370496) else m
theorem away_rung (K : Nat) (hK : K = 1074) (n : Bool) (m : Nat) (hm : m ≤ 9218868437227405312) : cR K 5 n m = awR m := by
  have hb5 : ∀ (s : Bool) (q r U : Nat), bmp 5 s q r U = decide (U ≤ 2 * r) := fun s q r U => by
    unfold bmp; rw [if_neg (by decide), if_neg (by decide), if_neg (by decide), if_neg (by decide)]
  unfold cR awR
  by_cases ci : m = 9218868437227405312
  · rw [if_pos ci, ci]; rfl
  rw [if_neg ci]
  have hV := vV_parts m
  obtain ⟨e, he⟩ : ∃ e, e = m / 4503599627370496 := ⟨_, rfl⟩
  obtain ⟨f, hf⟩ : ∃ f, f = m % 4503599627370496 := ⟨_, rfl⟩
  have hfl : f < 4503599627370496 := by rw [hf]; exact Nat.mod_lt _ (by decide)
  have hme : m = e * 4503599627370496 + f := by omega
  rw [← he, ← hf] at hV
  rw [← he]
  by_cases cA : e < 1023
  · rw [if_pos cA]
    have hup : Fq.vV Ieee.double m < 9007199254740992 * 2 ^ (e - 1) := by
      rw [hV]
      by_cases c : m < 4503599627370496
      · rw [if_pos c]
        have := Nat.two_pow_pos (e - 1)
        have := Nat.mul_le_mul_left 9007199254740992 (show 1 ≤ 2 ^ (e - 1) from this)
        omega
      · rw [if_neg c]
        exact Nat.mul_lt_mul_of_pos_right (by omega) (Nat.two_pow_pos _)
    by_cases cB : e = 1022
    · rw [if_pos cB]
      have hlo : 2 ^ K ≤ 2 * Fq.vV Ieee.double m := by
        rw [hV, if_neg (by omega)]
        have h1 : 4503599627370496 * 2 ^ (e - 1) ≤ (4503599627370496 + f) * 2 ^ (e - 1) := Nat.mul_le_mul_right _ (by omega)
        have h2 : 2 ^ K = 2 * (4503599627370496 * 2 ^ (e - 1)) := by
          rw [show (4503599627370496 : Nat) = 2 ^ 52 from by decide, ← Nat.pow_add, show 2 * 2 ^ (52 + (e - 1)) = 2 ^ (52 + (e - 1) + 1) from by rw [Nat.pow_succ, Nat.mul_comm]]
          congr 1; omega
        omega
      have hhi : Fq.vV Ieee.double m < 2 ^ K := by
        refine Nat.lt_of_lt_of_le hup ?_
        rw [show (9007199254740992 : Nat) = 2 ^ 53 from by decide, ← Nat.pow_add]
        exact Nat.pow_le_pow_right (by decide) (by omega)
      have hq : cutN 5 n (Fq.vV Ieee.double m) (2 ^ K) = 1 := by
        unfold cutN
        rw [Nat.div_eq_of_lt hhi, Nat.mod_eq_of_lt hhi, hb5, decide_eq_true hlo]; rfl
      rw [hq, Nat.one_mul, ← vV_one K hK]
      exact rg_vV _ (by decide)
    · rw [if_neg cB]
      have hhi : 2 * Fq.vV Ieee.double m < 2 ^ K := by
        have h1 : 2 * (9007199254740992 * 2 ^ (e - 1)) ≤ 2 ^ K := by
          rw [show (9007199254740992 : Nat) = 2 ^ 53 from by decide, ← Nat.pow_add, show 2 * 2 ^ (53 + (e - 1)) = 2 ^ (53 + (e - 1) + 1) from by rw [Nat.pow_succ, Nat.mul_comm]]
          exact Nat.pow_le_pow_right (by decide) (by omega)
        omega
      have hq : cutN 5 n (Fq.vV Ieee.double m) (2 ^ K) = 0 := by
        unfold cutN
        rw [Nat.div_eq_of_lt (show Fq.vV Ieee.double m < 2 ^ K by omega), Nat.mod_eq_of_lt (show Fq.vV Ieee.double m < 2 ^ K by omega), hb5, decide_eq_false (by omega)]; rfl
      rw [hq, Nat.zero_mul]; exact rgU0
  · rw [if_neg cA]
    rw [if_neg (show ¬ m < 4503599627370496 by omega)] at hV
    by_cases cB : e < 1075
    · rw [if_pos cB]
      obtain ⟨s, hs⟩ : ∃ s, s = 1075 - e := ⟨_, rfl⟩
      rw [← hs, show 1074 - e = s - 1 from by omega]
      obtain ⟨h, hh⟩ : ∃ h, h = 2 ^ (s - 1) := ⟨_, rfl⟩
      have hhp : 0 < h := by rw [hh]; exact Nat.two_pow_pos _
      have h2h : 2 ^ s = 2 * h := by rw [hh, show s = s - 1 + 1 from by omega, Nat.pow_succ, Nat.add_sub_cancel, Nat.mul_comm]
      obtain ⟨c, hc⟩ : ∃ c, c = 2 ^ (52 - s) := ⟨_, rfl⟩
      have hdc : 4503599627370496 = 2 * h * c := by
        rw [← h2h, hc, ← Nat.pow_add, show s + (52 - s) = 52 from by omega]
      obtain ⟨P, hP⟩ : ∃ P, P = 2 ^ (e - 1) := ⟨_, rfl⟩
      have hPp : 0 < P := by rw [hP]; exact Nat.two_pow_pos _
      have hU : 2 ^ K = 2 * h * P := by
        rw [← h2h, hP, ← Nat.pow_add]; congr 1; omega
      obtain ⟨X, hX⟩ : ∃ X, X = 4503599627370496 + f := ⟨_, rfl⟩
      obtain ⟨q, hq⟩ : ∃ q, q = (X + h) / (2 * h) := ⟨_, rfl⟩
      have hcut : cutN 5 n (Fq.vV Ieee.double m) (2 ^ K) = q := by
        rw [hV, ← hX, ← hP, hU, cutN_scale _ _ _ _ _ hPp, hq, half_up X h hhp]
        unfold cutN
        rw [hb5]
      have hqT : q * (2 * h) ≤ X + h ∧ X < q * (2 * h) + h := by
        have d := Nat.div_add_mod (X + h) (2 * h)
        have r := Nat.mod_lt (X + h) (show 0 < 2 * h by omega)
        rw [← hq, Nat.mul_comm] at d
        omega
      have hG1 : 4503599627370496 ≤ q * (2 * h) := by
        have g : c ≤ q := by
          rw [hq, Nat.le_div_iff_mul_le (show 0 < 2 * h by omega), Nat.mul_comm, ← hdc]; omega
        have := Nat.mul_le_mul_right (2 * h) g
        rw [Nat.mul_comm c, ← hdc] at this
        exact this
      have hG2 : q * (2 * h) ≤ 9007199254740992 := by
        have g : q < 2 * c + 1 := by
          rw [hq, Nat.div_lt_iff_lt_mul (show 0 < 2 * h by omega), Nat.add_mul, Nat.mul_assoc, Nat.mul_comm c, ← hdc]; omega
        have := Nat.mul_le_mul_right (2 * h) (show q ≤ 2 * c by omega)
        rw [Nat.mul_assoc, Nat.mul_comm c, ← hdc] at this
        omega
      have hm' : (m + h) / (2 * h) * (2 * h) = (e - 1) * 4503599627370496 + q * (2 * h) := by
        have a : m + h = (X + h) + 2 * h * (c * (e - 1)) := by
          rw [← Nat.mul_assoc, ← hdc, hX]; omega
        rw [a, Nat.add_mul_div_left _ _ (show 0 < 2 * h by omega), ← hq, Nat.add_mul]
        have b : c * (e - 1) * (2 * h) = (e - 1) * 4503599627370496 := by rw [hdc]; ac_rfl
        rw [b]; omega
      have hv' := vV_place (e - 1) (q * (2 * h)) (by rw [show (2 : Nat) ^ 53 = 9007199254740992 from by decide]; exact hG2) (Or.inr (by rw [show (2 : Nat) ^ (53 - 1) = 4503599627370496 from by decide]; exact hG1))
      rw [show (2 : Nat) ^ (53 - 1) = 4503599627370496 from by decide] at hv'
      have eq : q * 2 ^ K = q * (2 * h) * 2 ^ (e - 1) := by rw [hU, hP, ← Nat.mul_assoc q]
      have bd : (e - 1) * 4503599627370496 + q * (2 * h) < 9218868437227405312 := by
        generalize q * (2 * h) = G at *
        clear hV hv' hm' hcut eq hqT hU hdc h2h hq hX hP hc hh hhp hPp
        omega
      have fin := rg_vV _ bd
      rw [hv'] at fin
      rw [hcut, ← hh, h2h, hm', eq]
      exact fin
    · rw [if_neg cB]
      have a : Fq.vV Ieee.double m = (4503599627370496 + f) * 2 ^ (e - 1 - K) * 2 ^ K := by
        rw [hV, Nat.mul_assoc, ← Nat.pow_add]; congr 2; omega
      have b := cutN_mul 5 n ((4503599627370496 + f) * 2 ^ (e - 1 - K)) (2 ^ K) (Nat.two_pow_pos K)
      rw [← a] at b
      rw [b, ← a]
      exact rg_vV m (by omega)
end Go.Proofs.YthdnajcgdngmcaaGreatDoor
