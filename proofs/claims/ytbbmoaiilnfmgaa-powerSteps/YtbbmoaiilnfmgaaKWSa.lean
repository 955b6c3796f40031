import Derived.Test.YtbbmoaiilnfmgaaKED
namespace Go.Proofs.Ytbbmoaiilnfmgaa
open Go.RowKit
def bmp (k : Nat) (s : Bool) (q r U : Nat) : Bool := if k = 1 then s && (r != 0) else if k = 2 then !s && (r != 0) else if k = 3 then false else if k = 4 then upw 0 q r U else decide (U ≤ 2 * r)
def cutN (k : Nat) (s : Bool) (A U : Nat) : Nat := A / U + (bmp k s (A / U) (A % U) U).toNat
theorem bmp_zero (k : Nat) (s : Bool) (q U : Nat) (hU : 0 < U) : bmp k s q 0 U = false := by
  unfold bmp
  by_cases c1 : k = 1
  · rw [if_pos c1]; simp
  rw [if_neg c1]
  by_cases c2 : k = 2
  · rw [if_pos c2]; simp
  rw [if_neg c2]
  by_cases c3 : k = 3
  · rw [if_pos c3]
  rw [if_neg c3]
  by_cases c4 : k = 4
  · rw [if_pos c4]; exact upw_none _ _ _ hU
  rw [if_neg c4]
  exact decide_eq_false (by omega)
theorem bmp_mono (k : Nat) (s : Bool) (q r r' U : Nat) (hU : 0 < U) (h : r ≤ r') (u : bmp k s q r U = true) : bmp k s q r' U = true := by
  unfold bmp at u ⊢
  by_cases c1 : k = 1
  · rw [if_pos c1] at u ⊢
    rw [Bool.and_eq_true] at u ⊢
    refine ⟨u.1, ?_⟩
    have := u.2
    simp at this ⊢
    omega
  rw [if_neg c1] at u ⊢
  by_cases c2 : k = 2
  · rw [if_pos c2] at u ⊢
    rw [Bool.and_eq_true] at u ⊢
    refine ⟨u.1, ?_⟩
    have := u.2
    simp at this ⊢
    omega
  rw [if_neg c2] at u ⊢
  by_cases c3 : k = 3
  · rw [if_pos c3] at u; cases u
  rw [if_neg c3] at u ⊢
  by_cases c4 : k = 4
  · rw [if_pos c4] at u ⊢
    exact upw_mono 0 q r U r' U hU hU (Nat.mul_le_mul_right _ h) u
  rw [if_neg c4] at u ⊢
  exact decide_eq_true (by have := of_decide_eq_true u; omega)
theorem b1_le (b : Bool) : b.toNat ≤ 1 := by cases b <;> decide
theorem cutN_mono (k : Nat) (s : Bool) (A A' U : Nat) (hU : 0 < U) (h : A ≤ A') : cutN k s A U ≤ cutN k s A' U := by
  unfold cutN
  have hd : A / U ≤ A' / U := Nat.div_le_div_right h
  by_cases c : A / U = A' / U
  · rw [← c]
    have d1 := Nat.div_add_mod A U
    have d2 := Nat.div_add_mod A' U
    rw [← c] at d2
    have hr : A % U ≤ A' % U := by omega
    have hm := bmp_mono k s (A / U) (A % U) (A' % U) U hU hr
    cases hx : bmp k s (A / U) (A % U) U
    · simp
    · rw [hm hx]; exact Nat.le_refl _
  · have := b1_le (bmp k s (A / U) (A % U) U)
    omega
theorem cutN_mul (k : Nat) (s : Bool) (q U : Nat) (hU : 0 < U) : cutN k s (q * U) U = q := by
  unfold cutN
  rw [Nat.mul_div_cancel _ hU, Nat.mul_mod_left, bmp_zero k s q U hU]
  simp
theorem cutN_scale (k : Nat) (s : Bool) (A U c : Nat) (hc : 0 < c) : cutN k s (A * c) (U * c) = cutN k s A U := by
  unfold cutN
  rw [Nat.mul_div_mul_right _ _ hc, Nat.mul_mod_mul_right]
  congr 2
  unfold bmp
  have e : (A % U * c != 0) = (A % U != 0) := by
    by_cases z : A % U = 0
    · rw [z, Nat.zero_mul]
    · have := Nat.mul_pos (Nat.pos_of_ne_zero z) hc
      rw [show (A % U * c != 0) = true from by simp; omega, show (A % U != 0) = true from by simp; omega]
  rw [e, upw_scale _ _ _ _ _ hc]
  have e2 : decide (U * c ≤ 2 * (A % U * c)) = decide (U ≤ 2 * (A % U)) := by
    apply decide_eq_decide.2
    rw [← Nat.mul_assoc]
    exact Nat.mul_le_mul_right_iff hc
  rw [e2]
def stV (k : Nat) (U : Nat) (V : Int) : Int := if k = 0 then (if V < 0 then -(U : Int) else if V = 0 then 0 else (U : Int)) else if V < 0 then -((cutN k true V.natAbs U * U : Nat) : Int) else ((cutN k false V.natAbs U * U : Nat) : Int)
theorem stV_zero (k U : Nat) (hU : 0 < U) : stV k U 0 = 0 := by
  unfold stV
  by_cases c : k = 0
  · rw [if_pos c]; rfl
  · rw [if_neg c, if_neg (by omega)]
    have := cutN_mul k false 0 U hU
    rw [Nat.zero_mul] at this
    rw [show (0 : Int).natAbs = 0 from rfl, this, Nat.zero_mul]; rfl
theorem stV_mono (k U : Nat) (hU : 0 < U) (V V' : Int) (h : V ≤ V') : stV k U V ≤ stV k U V' := by
  unfold stV
  by_cases c : k = 0
  · rw [if_pos c, if_pos c]
    by_cases a : V < 0 <;> by_cases b : V' < 0 <;> by_cases a0 : V = 0 <;> by_cases b0 : V' = 0 <;> simp [a, b, a0, b0] <;> omega
  rw [if_neg c, if_neg c]
  by_cases a : V < 0
  · rw [if_pos a]
    by_cases b : V' < 0
    · rw [if_pos b]
      have := Nat.mul_le_mul_right U (cutN_mono k true V'.natAbs V.natAbs U hU (by omega))
      omega
    · rw [if_neg b]; omega
  · rw [if_neg a, if_neg (by omega)]
    have := Nat.mul_le_mul_right U (cutN_mono k false V.natAbs V'.natAbs U hU (by omega))
    omega
theorem bmp_neg (k : Nat) (h : k ≠ 1 ∧ k ≠ 2) (s s' : Bool) (q r U : Nat) : bmp k s q r U = bmp k s' q r U := by
  unfold bmp
  rw [if_neg h.1, if_neg h.1, if_neg h.2, if_neg h.2]
theorem bmp_12 (s : Bool) (q r U : Nat) : bmp 1 (!s) q r U = bmp 2 s q r U := by
  unfold bmp
  rw [if_pos rfl, if_neg (by decide), if_pos rfl]
theorem stV_neg (k U : Nat) (hU : 0 < U) (h : k ≠ 1 ∧ k ≠ 2) (V : Int) : stV k U (-V) = -(stV k U V) := by
  by_cases z : V = 0
  · rw [z, show -(0 : Int) = 0 from rfl, stV_zero k U hU]; rfl
  unfold stV
  have e : ∀ A, cutN k true A U = cutN k false A U := fun A => by unfold cutN; rw [bmp_neg k h true false]
  by_cases c : k = 0
  · rw [if_pos c, if_pos c]
    by_cases a : V < 0
    · rw [if_pos a, if_neg (by omega), if_neg (by omega)]; omega
    · rw [if_neg a, if_pos (by omega), if_neg z]
  rw [if_neg c, if_neg c, Int.natAbs_neg, e]
  by_cases a : V < 0
  · rw [if_pos a, if_neg (by omega)]; omega
  · rw [if_neg a, if_pos (by omega)]
theorem stV_12 (U : Nat) (hU : 0 < U) (V : Int) : stV 2 U V = -(stV 1 U (-V)) := by
  by_cases z : V = 0
  · rw [z, show -(0 : Int) = 0 from rfl, stV_zero 1 U hU, stV_zero 2 U hU]; rfl
  unfold stV
  rw [if_neg (show ¬ (2 : Nat) = 0 by decide), if_neg (show ¬ (1 : Nat) = 0 by decide), Int.natAbs_neg]
  have e1 : ∀ A, cutN 1 true A U = cutN 2 false A U := fun A => by unfold cutN; rw [show true = !false from rfl, bmp_12]
  have e2 : ∀ A, cutN 1 false A U = cutN 2 true A U := fun A => by unfold cutN; rw [show false = !true from rfl, bmp_12]
  rw [e1, e2]
  by_cases a : V < 0
  · rw [if_pos a, if_neg (by omega)]
  · rw [if_neg a, if_pos (by omega)]; omega
def wayOf (k : Nat) : Ieee.Toward := if k = 1 then .down else if k = 2 then .up else if k = 3 then .zero else .even
theorem cut_down (s : Bool) (n drop : Nat) : Ieee.Toward.down.cut s n drop = cutN 1 s n (2 ^ drop) := by
  unfold Ieee.Toward.cut cutN bmp
  simp only [Nat.shiftLeft_eq, Nat.one_mul]
  rw [if_pos trivial]
  rcases Nat.lt_or_ge (n.log2 + 2) drop with c | c
  · rw [Nat.min_eq_right (by omega)]
    have h1 : n < 2 ^ (n.log2 + 1) := Nat.lt_log2_self
    have h2 : 2 ^ (n.log2 + 2) = 2 * 2 ^ (n.log2 + 1) := by rw [Nat.pow_succ]; omega
    have h3 : 2 ^ (n.log2 + 2) ≤ 2 ^ drop := Nat.pow_le_pow_right (by omega) (by omega)
    rw [Nat.div_eq_of_lt (show n < 2 ^ (n.log2 + 2) by omega), Nat.div_eq_of_lt (show n < 2 ^ drop by omega), Nat.mod_eq_of_lt (show n < 2 ^ (n.log2 + 2) by omega), Nat.mod_eq_of_lt (show n < 2 ^ drop by omega)]
  · rw [Nat.min_eq_left c]
theorem cut_up (s : Bool) (n drop : Nat) : Ieee.Toward.up.cut s n drop = cutN 2 s n (2 ^ drop) := by
  unfold Ieee.Toward.cut cutN bmp
  simp only [Nat.shiftLeft_eq, Nat.one_mul]
  rw [if_neg (by decide), if_pos trivial]
  rcases Nat.lt_or_ge (n.log2 + 2) drop with c | c
  · rw [Nat.min_eq_right (by omega)]
    have h1 : n < 2 ^ (n.log2 + 1) := Nat.lt_log2_self
    have h2 : 2 ^ (n.log2 + 2) = 2 * 2 ^ (n.log2 + 1) := by rw [Nat.pow_succ]; omega
    have h3 : 2 ^ (n.log2 + 2) ≤ 2 ^ drop := Nat.pow_le_pow_right (by omega) (by omega)
    rw [Nat.div_eq_of_lt (show n < 2 ^ (n.log2 + 2) by omega), Nat.div_eq_of_lt (show n < 2 ^ drop by omega), Nat.mod_eq_of_lt (show n < 2 ^ (n.log2 + 2) by omega), Nat.mod_eq_of_lt (show n < 2 ^ drop by omega)]
  · rw [Nat.min_eq_left c]
theorem cut_zero (s : Bool) (n drop : Nat) : Ieee.Toward.zero.cut s n drop = cutN 3 s n (2 ^ drop) := by
  unfold Ieee.Toward.cut cutN bmp
  simp only [Nat.shiftLeft_eq, Nat.one_mul]
  rw [if_neg (by decide), if_neg (by decide), if_pos trivial]
  rcases Nat.lt_or_ge (n.log2 + 2) drop with c | c
  · rw [Nat.min_eq_right (by omega)]
    have h1 : n < 2 ^ (n.log2 + 1) := Nat.lt_log2_self
    have h2 : 2 ^ (n.log2 + 2) = 2 * 2 ^ (n.log2 + 1) := by rw [Nat.pow_succ]; omega
    have h3 : 2 ^ (n.log2 + 2) ≤ 2 ^ drop := Nat.pow_le_pow_right (by omega) (by omega)
    rw [Nat.div_eq_of_lt (show n < 2 ^ (n.log2 + 2) by omega), Nat.div_eq_of_lt (show n < 2 ^ drop by omega)]
  · rw [Nat.min_eq_left c]
theorem cut_way (k : Nat) (hk : 1 ≤ k ∧ k ≤ 4) (s : Bool) (n drop : Nat) : (wayOf k).cut s n drop = cutN k s n (2 ^ drop) := by
  by_cases c1 : k = 1
  · subst c1; exact cut_down s n drop
  by_cases c2 : k = 2
  · subst c2; exact cut_up s n drop
  by_cases c3 : k = 3
  · subst c3; exact cut_zero s n drop
  have c4 : k = 4 := by omega
  subst c4
  show Ieee.Toward.even.cut s n drop = _
  rw [cut_even]
  rfl

set_option linter.unusedVariables false
def pz (z : Int) : Nat := Fq.wD (decide (z < 0)) z.natAbs

set_option linter.unusedVariables false
def zc (o : Option Int) : Nat := match o with | none => 9221120237041090561 | some z => pz z
def ng (o : Option Int) : Option Int := o.map (fun z => -z)

set_option linter.unusedVariables false
def vZ (z : Int) : Int := Iv (decide (z < 0)) z.natAbs
theorem vZ_pos (z : Int) (h : 0 ≤ z) : vZ z = ((Fq.vV Ieee.double z.natAbs : Nat) : Int) := by
  unfold vZ Iv
  rw [decide_eq_false (show ¬ z < 0 by omega)]; rfl
theorem vV0X : Fq.vV Ieee.double 0 = 0 := by decide
theorem vZ_neg (z : Int) : vZ (-z) = -vZ z := by
  unfold vZ Iv
  rw [Int.natAbs_neg]
  by_cases z0 : z = 0
  · rw [z0]; simp [vV0X]
  · by_cases c : z < 0
    · rw [decide_eq_true c, decide_eq_false (show ¬ -z < 0 by omega)]; simp
    · rw [decide_eq_false c, decide_eq_true (show -z < 0 by omega)]; simp
theorem vV_place (E S : Nat) (h1 : S ≤ 2 ^ 53) (h2 : E = 0 ∨ 2 ^ (53 - 1) ≤ S) : Fq.vV Ieee.double (E * 2 ^ (53 - 1) + S) = S * 2 ^ E := by
  have hb : Ieee.double.binade = 4503599627370496 := by decide
  have p1 : (2 : Nat) ^ (53 - 1) = 4503599627370496 := by decide
  have p2 : (2 : Nat) ^ 53 = 9007199254740992 := by decide
  rw [p1] at h2 ⊢
  rw [p2] at h1
  unfold Fq.vV Fq.mM Fq.eE
  rw [hb]
  by_cases c : E * 4503599627370496 + S < 4503599627370496
  · have hE : E = 0 := by omega
    rw [if_pos c, if_pos c, hE]; simp
  · rw [if_neg c, if_neg c]
    by_cases c2 : S = 9007199254740992
    · rw [show (E * 4503599627370496 + S) / 4503599627370496 - 1 = E + 1 from by omega, show (E * 4503599627370496 + S) % 4503599627370496 = 0 from by omega, Nat.pow_succ, c2]
      generalize 2 ^ E = P
      omega
    · rw [show (E * 4503599627370496 + S) / 4503599627370496 - 1 = E from by omega, show 4503599627370496 + (E * 4503599627370496 + S) % 4503599627370496 = S from by omega]
theorem vV_inf (K : Nat) (hK : K = 1074) : Fq.vV Ieee.double 9218868437227405312 = 2 ^ (1024 + K) := by
  obtain ⟨J, hJ⟩ : ∃ J : Nat, J = 2045 := ⟨_, rfl⟩
  have h := vV_place J (2 ^ 53) (Nat.le_refl _) (Or.inr (by decide))
  rw [show J * 2 ^ (53 - 1) + 2 ^ 53 = 9218868437227405312 from by rw [hJ], ← Nat.pow_add] at h
  rw [h]
  exact congrArg _ (by omega)
theorem rg_vV (m : Nat) (_h : m < 9218868437227405312) : rgU 53 (Fq.vV Ieee.double m) = m := by
  by_cases z : m = 0
  · subst z; rw [(vV_zero 0).2 rfl, rgU_zero]
  · unfold Fq.vV Fq.mM Fq.eE
    rw [Fq.binD]
    by_cases c : m < 4503599627370496
    · rw [if_pos c, if_pos c, Nat.pow_zero, Nat.mul_one]
      unfold rgU
      have hb : blen m ≤ 52 := by rw [blen_le_iff, show (2 : Nat) ^ 52 = 4503599627370496 from by decide]; exact c
      rw [show blen m - 53 = 0 from by omega]; simp
    · rw [if_neg c, if_neg c]
      have hb : blen (4503599627370496 + m % 4503599627370496) = 53 := blen_uniq _ 52 (by rw [show (2 : Nat) ^ 52 = 4503599627370496 from by decide]; omega) (by rw [show (2 : Nat) ^ (52 + 1) = 9007199254740992 from by decide]; omega)
      rw [rgU_mul 53 _ _ 0 (by omega) (by rw [hb]; simp) (by omega), Nat.pow_zero, Nat.mul_one, show (2 : Nat) ^ (53 - 1) = 4503599627370496 from by decide]
      omega
theorem rU_fl (d : Int) (A : Nat) (hA : FL (A : Int)) : rU d 53 A 1 = A := by
  obtain ⟨E, hE⟩ : ∃ E, E = rE 53 A 1 := ⟨_, rfl⟩
  obtain ⟨q, hq⟩ : ∃ q, q = rS 53 A 1 := ⟨_, rfl⟩
  obtain ⟨r, hr⟩ : ∃ r, r = rR 53 A 1 := ⟨_, rfl⟩
  obtain ⟨T, hT⟩ : ∃ T, T = 2 ^ E := ⟨_, rfl⟩
  have hTp : 0 < T := by rw [hT]; exact Nat.two_pow_pos E
  have hAq : A = q * T + r := by
    rw [hq, hr, hT, hE]; unfold rS rR; rw [Nat.one_mul, Nat.mul_comm]; exact (Nat.div_add_mod _ _).symm
  have hrl : r < T := by rw [hr, hT, hE]; unfold rR; rw [Nat.one_mul]; exact Nat.mod_lt _ (Nat.two_pow_pos _)
  have hfix := (rn_nr A).fix hA
  have h0 := rung_of A 0 E (q + (upw 0 q r T).toNat) hE (by rw [hq, hr, hT, hE, Nat.one_mul])
  rw [← hT] at h0
  have hr0 : r = 0 := by
    have e1 : (q + (upw 0 q r T).toNat) * T = q * T + r := by rw [← h0.1]; omega
    rw [Nat.add_mul] at e1
    cases hu : upw 0 q r T
    · rw [hu] at e1; simp at e1; omega
    · rw [hu] at e1; simp at e1; omega
  have hd := rung_of A d E (q + (upw d q r T).toNat) hE (by rw [hq, hr, hT, hE, Nat.one_mul])
  rw [← hT, hr0, upw_none _ _ _ hTp] at hd
  rw [hd.1, hAq, hr0]; simp
theorem vV_one (K : Nat) (hK : K = 1074) : Fq.vV Ieee.double 4607182418800017408 = 2 ^ K := by
  unfold Fq.vV Fq.mM Fq.eE
  rw [Fq.binD, if_neg (by decide), if_neg (by decide), show (4607182418800017408 : Nat) / 4503599627370496 - 1 = 1022 from by decide, show (4503599627370496 : Nat) + 4607182418800017408 % 4503599627370496 = 2 ^ 52 from by decide]
  obtain ⟨j, hj⟩ : ∃ j, j = 1022 := ⟨_, rfl⟩
  rw [← hj, ← Nat.pow_add, show 52 + j = K from by omega]
set_option linter.unusedVariables false
theorem mM_lt7 (m : Nat) : Fq.mM Ieee.double m < 9007199254740992 := by
  unfold Fq.mM; rw [Fq.binD]
  by_cases c : m < 4503599627370496
  · rw [if_pos c]; omega
  · rw [if_neg c]
    have := Nat.mod_lt m (show 0 < 4503599627370496 by decide)
    omega
theorem whole_rp (K : Nat) (hK : K = 1074) (m Q : Nat) (hm : m < 9218868437227405312) (h : Q * 2 ^ K = Fq.vV Ieee.double m ∨ Q ≤ 4503599627370496) : Fq.vV Ieee.double (rgU 53 (Q * 2 ^ K)) = Q * 2 ^ K ∧ rgU 53 (Q * 2 ^ K) < 9218868437227405312 := by
  rcases h with h | h
  · rw [h, rg_vV m hm]; exact ⟨rfl, hm⟩
  · have hfl : FL ((Q * 2 ^ K : Nat) : Int) := ⟨K, ⟨(Q : Int), by rw [Int.natCast_mul, Int.mul_comm, Int.natCast_pow]; rfl⟩, by rw [Int.natAbs_natCast]; exact Nat.mul_le_mul_right _ (by omega)⟩
    have e := rU_fl 0 (Q * 2 ^ K) hfl
    have v := vV_rung (Q * 2 ^ K) 0
    rw [e] at v
    refine ⟨v, ?_⟩
    obtain ⟨J, hJ⟩ : ∃ J : Nat, J = 1024 := ⟨_, rfl⟩
    have hI : Fq.vV Ieee.double 9218868437227405312 = 2 ^ (J + K) := by rw [hJ]; exact vV_inf K hK
    apply (Fq.vV_lt_iff Ieee.double _ _).1
    rw [v, hI, Nat.pow_add]
    refine Nat.mul_lt_mul_of_pos_right (Nat.lt_of_le_of_lt h ?_) (Nat.two_pow_pos K)
    rw [show (4503599627370496 : Nat) = 2 ^ 52 from by decide]
    exact Nat.pow_lt_pow_right (by decide) (by omega)
theorem cut_rp (K : Nat) (k : Nat) (s : Bool) (m : Nat) : cutN k s (Fq.vV Ieee.double m) (2 ^ K) * 2 ^ K = Fq.vV Ieee.double m ∨ cutN k s (Fq.vV Ieee.double m) (2 ^ K) ≤ 4503599627370496 := by
  obtain ⟨E, hE⟩ : ∃ E, E = Fq.eE Ieee.double m := ⟨_, rfl⟩
  obtain ⟨M, hM⟩ : ∃ M, M = Fq.mM Ieee.double m := ⟨_, rfl⟩
  have hV : Fq.vV Ieee.double m = M * 2 ^ E := by rw [hM, hE]; rfl
  have hMl : M < 9007199254740992 := by rw [hM]; exact mM_lt7 m
  rw [hV]
  clear hV hM hE
  by_cases c : K ≤ E
  · left
    have e : M * 2 ^ E = M * 2 ^ (E - K) * 2 ^ K := by rw [Nat.mul_assoc, ← Nat.pow_add]; congr 2; omega
    rw [e, cutN_mul _ _ _ _ (Nat.two_pow_pos K)]
  · right
    have h1 : M * 2 ^ E < 4503599627370496 * 2 ^ K := by
      have a1 : M * 2 ^ E < 9007199254740992 * 2 ^ E := Nat.mul_lt_mul_of_pos_right hMl (Nat.two_pow_pos E)
      have a2 : 2 ^ (E + 1) ≤ 2 ^ K := Nat.pow_le_pow_right (by decide) (by omega)
      rw [Nat.pow_succ] at a2
      generalize 2 ^ E = P at *
      generalize 2 ^ K = R at *
      generalize M * P = X at *
      omega
    have h2 : M * 2 ^ E / 2 ^ K < 4503599627370496 := (Nat.div_lt_iff_lt_mul (Nat.two_pow_pos K)).2 h1
    have h3 := b1_le (bmp k s (M * 2 ^ E / 2 ^ K) (M * 2 ^ E % 2 ^ K) (2 ^ K))
    unfold cutN
    omega
theorem cut_fin (K : Nat) (hK : K = 1074) (k : Nat) (s : Bool) (m : Nat) (hm : m < 9218868437227405312) : Fq.vV Ieee.double (rgU 53 (cutN k s (Fq.vV Ieee.double m) (2 ^ K) * 2 ^ K)) = cutN k s (Fq.vV Ieee.double m) (2 ^ K) * 2 ^ K ∧ rgU 53 (cutN k s (Fq.vV Ieee.double m) (2 ^ K) * 2 ^ K) < 9218868437227405312 := whole_rp K hK m _ hm (cut_rp K k s m)
def cR (K k : Nat) (s : Bool) (m : Nat) : Nat := if m = 9218868437227405312 then m else rgU 53 (cutN k s (Fq.vV Ieee.double m) (2 ^ K) * 2 ^ K)
theorem cR_le (K : Nat) (hK : K = 1074) (k : Nat) (s : Bool) (m : Nat) (hm : m ≤ 9218868437227405312) : cR K k s m ≤ 9218868437227405312 := by
  unfold cR
  by_cases c : m = 9218868437227405312
  · rw [if_pos c]; omega
  · rw [if_neg c]
    have := (cut_fin K hK k s m (by omega)).2
    omega
theorem int_w (K : Nat) (hK : K = 1074) (k : Nat) (hk : 1 ≤ k ∧ k ≤ 4) (n : Bool) (m : Nat) (hm : m ≤ 9218868437227405312) : FloatKind.f64.encode ((FloatKind.f64.decode (Fq.wD n m)).integral (wayOf k)) = Fq.wD n (cR K k n m) := by
  show Ieee.double.write ((Ieee.double.read (Fq.wD n m)).integral _) = _
  unfold cR
  by_cases ci : m = 9218868437227405312
  · rw [if_pos ci, ci, Fq.read_inf _ _ Fq.binfD (by rw [Fq.rgD n _ (by omega), Fq.infD]), Fq.ngD n _ (by omega)]
    unfold Ieee.Datum.integral Ieee.Format.write
    simp only
    rw [wdD9, Fq.infD]
  rw [if_neg ci]
  rw [Fq.read_fin _ _ (by rw [Fq.rgD n m (by omega), Fq.infD]; omega), Fq.rgD n m (by omega), Fq.ngD n m (by omega), lpD9]
  unfold Ieee.Datum.integral Ieee.Format.write
  simp only
  rw [cut_way k hk, near_w _ _ _ K (by omega)]
  have e1 : cutN k n (Fq.mM Ieee.double m <<< (-1074 + (Fq.eE Ieee.double m : Int)).toNat) (2 ^ (-(-1074 + (Fq.eE Ieee.double m : Int))).toNat) = cutN k n (Fq.vV Ieee.double m) (2 ^ K) := by
    rw [Nat.shiftLeft_eq]
    show _ = cutN k n (Fq.mM Ieee.double m * 2 ^ Fq.eE Ieee.double m) (2 ^ K)
    generalize Fq.mM Ieee.double m = M
    generalize Fq.eE Ieee.double m = E
    by_cases c : K ≤ E
    · rw [show (-1074 + (E : Int)).toNat = E - K from by omega, show (-(-1074 + (E : Int))).toNat = 0 from by omega, Nat.pow_zero]
      have h := cutN_scale k n (M * 2 ^ (E - K)) 1 (2 ^ K) (Nat.two_pow_pos K)
      rw [Nat.one_mul, Nat.mul_assoc, ← Nat.pow_add, show E - K + K = E from by omega] at h
      exact h.symm
    · rw [show (-1074 + (E : Int)).toNat = 0 from by omega, show (-(-1074 + (E : Int))).toNat = K - E from by omega, Nat.pow_zero, Nat.mul_one]
      have h := cutN_scale k n M (2 ^ (K - E)) (2 ^ E) (Nat.two_pow_pos E)
      rw [← Nat.pow_add, show K - E + E = K from by omega] at h
      exact h.symm
  rw [e1]
  obtain ⟨v, lt⟩ := cut_fin K hK k n m (by omega)
  generalize cutN k n (Fq.vV Ieee.double m) (2 ^ K) * 2 ^ K = X at *
  have h1 := rU_vV 0 (rgU 53 X) lt
  rw [v] at h1
  have h2 := fin_vV 0 (rgU 53 X) lt
  rw [v] at h2
  rw [h1, h2]
def plV (V : Int) : Int := if V < 0 then -((rgU 53 V.natAbs : Nat) : Int) else ((rgU 53 V.natAbs : Nat) : Int)
def stZ (K k : Nat) (z : Int) : Int := if k = 0 then (if z < 0 then -4607182418800017408 else if z = 0 then 0 else 4607182418800017408) else if z = 9218868437227405312 ∨ z = -9218868437227405312 then z else plV (stV k (2 ^ K) (vZ z))
theorem vZ_lt7 (x y : Int) (h : x < y) : vZ x < vZ y := by
  have p : ∀ z : Int, 0 ≤ z → vZ z = ((Fq.vV Ieee.double z.natAbs : Nat) : Int) := vZ_pos
  have q : ∀ a b : Nat, a < b → Fq.vV Ieee.double a < Fq.vV Ieee.double b := fun a b g => Fq.vV_lt _ g
  rcases Int.lt_or_le x 0 with c | c
  · have e := vZ_neg (-x)
    rw [Int.neg_neg] at e
    rw [e, p (-x) (by omega)]
    rcases Int.lt_or_le y 0 with c2 | c2
    · have e2 := vZ_neg (-y)
      rw [Int.neg_neg] at e2
      rw [e2, p (-y) (by omega)]
      have := q (-y).natAbs (-x).natAbs (by omega)
      omega
    · rw [p y c2]
      have := q 0 (-x).natAbs (by omega)
      omega
  · rw [p x c, p y (by omega)]
    have := q x.natAbs y.natAbs (by omega)
    omega
theorem vZ_iff (x y : Int) : vZ x ≤ vZ y ↔ x ≤ y := by
  constructor
  · intro h
    rcases Int.lt_or_le y x with c | c
    · have := vZ_lt7 _ _ c; omega
    · exact c
  · intro h
    rcases Int.lt_or_le x y with c | c
    · have := vZ_lt7 _ _ c; omega
    · have : x = y := by omega
      rw [this]; exact Int.le_refl _
theorem vZ_0 : vZ 0 = 0 := by rw [vZ_pos 0 (by omega)]; exact congrArg _ vV0X
theorem rgU0 : rgU 53 0 = 0 := rgU_zero _
theorem stZ_word (K : Nat) (k : Nat) (hk : k ≠ 0) (z : Int) (hz : BdZ z) : Fq.plz (decide (z < 0)) (cR K k (decide (z < 0)) z.natAbs) = stZ K k z := by
  unfold stZ cR BdZ at *
  rw [if_neg hk]
  by_cases ci : z = 9218868437227405312 ∨ z = -9218868437227405312
  · rw [if_pos ci, if_pos (by omega)]; unfold Fq.plz; by_cases c : z < 0 <;> simp [c] <;> omega
  rw [if_neg ci, if_neg (by omega)]
  unfold plV stV Fq.plz
  rw [if_neg hk]
  by_cases c : z < 0
  · have e := vZ_neg (-z)
    rw [Int.neg_neg, vZ_pos (-z) (by omega), Int.natAbs_neg] at e
    have hv : vZ z < 0 := by have := vZ_lt7 z 0 c; rw [vZ_0] at this; exact this
    rw [decide_eq_true c, if_pos rfl, if_pos hv, e, Int.natAbs_neg, Int.natAbs_natCast]
    generalize cutN k true (Fq.vV Ieee.double z.natAbs) (2 ^ K) * 2 ^ K = X
    by_cases x0 : X = 0
    · rw [x0, rgU0]; simp; rw [rgU0]; rfl
    · rw [if_pos (by omega), Int.natAbs_neg, Int.natAbs_natCast]
  · have e := vZ_pos z (by omega)
    rw [decide_eq_false c, if_neg (by decide), e, if_neg (show ¬ ((Fq.vV Ieee.double z.natAbs : Nat) : Int) < 0 by omega), Int.natAbs_natCast]
    generalize cutN k false (Fq.vV Ieee.double z.natAbs) (2 ^ K) * 2 ^ K = X
    rw [if_neg (by omega), Int.natAbs_natCast]
theorem stZ_val (K : Nat) (hK : K = 1074) (k : Nat) (hk : k ≠ 0) (z : Int) (hz : -9218868437227405312 < z ∧ z < 9218868437227405312) : vZ (stZ K k z) = stV k (2 ^ K) (vZ z) ∧ -9218868437227405312 < stZ K k z ∧ stZ K k z < 9218868437227405312 := by
  have hw := stZ_word K k hk z (by unfold BdZ; omega)
  rw [← hw]
  unfold stV cR
  rw [if_neg hk, if_neg (show ¬ z.natAbs = 9218868437227405312 by omega)]
  by_cases c : z < 0
  · have e := vZ_neg (-z)
    rw [Int.neg_neg, vZ_pos (-z) (by omega), Int.natAbs_neg] at e
    have hv : vZ z < 0 := by have := vZ_lt7 z 0 c; rw [vZ_0] at this; exact this
    obtain ⟨v, lt⟩ := cut_fin K hK k true z.natAbs (by omega)
    rw [decide_eq_true c, if_pos hv, e, Int.natAbs_neg, Int.natAbs_natCast]
    generalize cutN k true (Fq.vV Ieee.double z.natAbs) (2 ^ K) * 2 ^ K = X at *
    generalize rgU 53 X = R at *
    unfold Fq.plz
    rw [if_pos rfl, vZ_neg, vZ_pos (R : Int) (by omega), Int.natAbs_natCast, v]
    exact ⟨rfl, by omega, by omega⟩
  · have e := vZ_pos z (by omega)
    obtain ⟨v, lt⟩ := cut_fin K hK k false z.natAbs (by omega)
    rw [decide_eq_false c, e, if_neg (show ¬ ((Fq.vV Ieee.double z.natAbs : Nat) : Int) < 0 by omega), Int.natAbs_natCast]
    generalize cutN k false (Fq.vV Ieee.double z.natAbs) (2 ^ K) * 2 ^ K = X at *
    generalize rgU 53 X = R at *
    unfold Fq.plz
    rw [if_neg (by decide), vZ_pos (R : Int) (by omega), Int.natAbs_natCast, v]
    exact ⟨rfl, by omega, by omega⟩
theorem stZ_inf (K k : Nat) (hk : k ≠ 0) (z : Int) (h : z = 9218868437227405312 ∨ z = -9218868437227405312) : stZ K k z = z := by
  unfold stZ; rw [if_neg hk, if_pos h]
theorem stZ_bd (K : Nat) (hK : K = 1074) (k : Nat) (z : Int) (hz : BdZ z) : BdZ (stZ K k z) := by
  unfold BdZ at *
  by_cases c : k = 0
  · unfold stZ; rw [if_pos c]; split
    · omega
    · split <;> omega
  by_cases ci : z = 9218868437227405312 ∨ z = -9218868437227405312
  · rw [stZ_inf K k c z ci]; omega
  · have := (stZ_val K hK k c z (by omega)).2; omega
theorem stZ_mono (K : Nat) (hK : K = 1074) (k : Nat) (x y : Int) (hx : BdZ x) (hy : BdZ y) (h : x ≤ y) : stZ K k x ≤ stZ K k y := by
  have bx := stZ_bd K hK k x hx
  have b9 := stZ_bd K hK k y hy
  unfold BdZ at *
  by_cases c : k = 0
  · unfold stZ; rw [if_pos c, if_pos c]
    by_cases a : x < 0 <;> by_cases b : y < 0 <;> by_cases a0 : x = 0 <;> by_cases b0 : y = 0 <;> simp [a, b, a0, b0] <;> omega
  by_cases cx : x = -9218868437227405312
  · rw [stZ_inf K k c x (Or.inr cx), cx]; omega
  by_cases cy : y = 9218868437227405312
  · rw [stZ_inf K k c y (Or.inl cy), cy]; omega
  have vx := stZ_val K hK k c x (by omega)
  have vy := stZ_val K hK k c y (by omega)
  apply (vZ_iff _ _).1
  rw [vx.1, vy.1]
  exact stV_mono k _ (Nat.two_pow_pos K) _ _ ((vZ_iff _ _).2 h)
theorem stZ_vd (K : Nat) (hK : K = 1074) (k : Nat) (L H : Int) (h : VdZ L H) (n : L ≠ 9218868437227405312) : VdZ (stZ K k L) (stZ K k H) := by
  have m := stZ_mono K hK k L H h.lo h.hi
  have b1 := stZ_bd K hK k L h.lo
  have b2 := stZ_bd K hK k H h.hi
  unfold VdZ BdZ at *
  have hh : L ≤ H ∧ -9218868437227405312 < H := by omega
  replace m := m hh.1
  right
  by_cases c : k = 0
  · unfold stZ at *; rw [if_pos c] at *
    refine ⟨?_, ?_, ?_, ?_, ?_⟩ <;> (first | omega | (rw [if_pos c]; split <;> (try split) <;> omega))
  have fL : stZ K k L < 9218868437227405312 := by
    by_cases ci : L = -9218868437227405312
    · rw [stZ_inf K k c L (Or.inr ci)]; omega
    · exact (stZ_val K hK k c L (by omega)).2.2
  have fH : -9218868437227405312 < stZ K k H := by
    by_cases ci : H = 9218868437227405312
    · rw [stZ_inf K k c H (Or.inl ci)]; omega
    · exact (stZ_val K hK k c H (by omega)).2.1
  omega
end Go.Proofs.Ytbbmoaiilnfmgaa
