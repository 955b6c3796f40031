import Derived.Test.YtnjlcfpkhgmjeaaGreatDoorKMR14
import Derived.Test.YtnjlcfpkhgmjeaaGreatDoorKXQF
namespace Go.Proofs.YtnjlcfpkhgmjeaaGreatDoor
open Go.RowKit
theorem bitLen_blen (o : Nat) (h0 : o ≠ 0) (h : o < 18446744073709551616) : Lib.bitLen o = blen o := by
  obtain ⟨a1, a2, a3, a4⟩ := Fq.bitLen_bd o h0 h
  have := blen_uniq o (Lib.bitLen o - 1) a3 (by rw [show Lib.bitLen o - 1 + 1 = Lib.bitLen o from by omega]; exact a4)
  omega
def pW (s : Nat) (neg : Bool) (m : Nat) : Nat := if m = 0 then 0 else if neg then s + m else m
theorem cut61 (d : Int) (sig c : Nat) (hs : sig < 1152921504606846976) (kp : Nat) (hk : kp = sig / 2 ^ c + (upw d (sig / 2 ^ c) (sig % 2 ^ c) (2 ^ c)).toNat) :
    kp = sig / 2 ^ min c 61 + (upw d (sig / 2 ^ min c 61) (sig % 2 ^ min c 61) (2 ^ min c 61)).toNat := by
  by_cases h : c ≤ 61
  · rw [Nat.min_eq_left h]; exact hk
  · rw [Nat.min_eq_right (by omega)]
    have h61 : (2 : Nat) ^ 61 ≤ 2 ^ c := Nat.pow_le_pow_right (by omega) (by omega)
    have e61 : (2 : Nat) ^ 61 = 2305843009213693952 := by decide
    rw [hk, Nat.div_eq_of_lt (by omega : sig < 2 ^ c), Nat.mod_eq_of_lt (by omega : sig < 2 ^ c), Nat.div_eq_of_lt (by omega : sig < 2 ^ 61), Nat.mod_eq_of_lt (by omega : sig < 2 ^ 61), upw_small d 0 sig (2 ^ c) (2 ^ 61) (by omega) (by omega)]
theorem jrD_rg (o : Nat) (E : Int) (h0 : o ≠ 0) (h : o < 18446744073709551616) (hj : Fq.jokD o E = true) : Fq.jrD o E = rgU 53 (o * 2 ^ (E + 1074).toNat) := by
  obtain ⟨a1, a2, a3⟩ := (Fq.jokD_iff o E).1 hj
  have hb := bitLen_blen o h0 h
  have hr := rgU_mul 53 o (E + 1074).toNat (Fq.jshD o E) h0 (by unfold Fq.jshD; rw [hb]) (by omega)
  rw [hr]
  unfold Fq.jrD
  rw [show (2 : Nat) ^ (53 - 1) = 4503599627370496 from by decide]
theorem joinPD (kp Lx U : Nat) (last : Int) (hk0 : kp ≠ 0) (hk : kp ≤ 9007199254740992) (hl : last = (Lx : Int) - 1074) (hU : U = kp * 2 ^ Lx) :
    ∃ o k : Nat, o % 2 = 1 ∧ kp = o * 2 ^ k ∧ o * 2 ^ k < 18446744073709551616 ∧ (Fq.jokD o (last + (k : Int)) = true ↔ blen U ≤ 2098) ∧ (blen U ≤ 2098 → Fq.jrD o (last + (k : Int)) = rgU 53 U ∧ rgU 53 U ≠ 0) := by
  obtain ⟨o, k, ho, e⟩ := odd_part kp hk0
  have hp : 0 < 2 ^ k := Nat.pow_pos (by omega)
  have hok : o ≤ kp := by rw [e]; exact Nat.le_mul_of_pos_right _ hp
  have hb := bitLen_blen o (by omega) (by omega)
  have hbl : blen o ≤ 53 := by
    by_cases c : kp = 9007199254740992
    · by_cases c1 : o = 1
      · rw [c1, blen_uniq 1 0 (by decide) (by decide)]; omega
      · have h1 : k ≠ 0 := by
          intro h
          rw [h, Nat.pow_zero, Nat.mul_one] at e
          omega
        have h2 : 2 * o ≤ kp := by
          rw [e, Nat.mul_comm 2]
          refine Nat.mul_le_mul_left _ ?_
          have : (2 : Nat) ^ 1 ≤ 2 ^ k := Nat.pow_le_pow_right (by omega) (by omega)
          simpa using this
        exact blen_lt o 53 (by rw [show (2 : Nat) ^ 53 = 9007199254740992 from by decide]; omega)
    · exact blen_lt o 53 (by rw [show (2 : Nat) ^ 53 = 9007199254740992 from by decide]; omega)
  have hE : (last + (k : Int) + 1074).toNat = k + Lx := by omega
  have hUo : U = o * 2 ^ (last + (k : Int) + 1074).toNat := by rw [hU, e, hE, Nat.pow_add, Nat.mul_assoc]
  have hbU : blen U = blen o + (k + Lx) := by rw [hUo, hE, blen_mul _ _ (by omega)]
  have hiff : Fq.jokD o (last + (k : Int)) = true ↔ blen U ≤ 2098 := by
    rw [Fq.jokD_iff, hb, hbU]
    omega
  refine ⟨o, k, ho, e, by rw [← e]; omega, hiff, fun h => ⟨?_, ?_⟩⟩
  · rw [jrD_rg o _ (by omega) (by omega) (hiff.2 h), ← hUo]
  · intro h9
    unfold rgU at h9
    have hU0 : U ≠ 0 := by rw [hUo]; exact Nat.ne_of_gt (Nat.mul_pos (by omega) (Nat.pow_pos (by omega)))
    have h1 := (blen_spec U hU0).1
    have h2 : U / 2 ^ (blen U - 53) = 0 := (Nat.add_eq_zero_iff.1 h9).2
    have h3 : U < 2 ^ (blen U - 53) := by
      by_cases c : U < 2 ^ (blen U - 53)
      · exact c
      · exact absurd h2 (Nat.ne_of_gt (Nat.div_pos (by omega) (Nat.pow_pos (by omega))))
    have h4 : (2 : Nat) ^ (blen U - 53) ≤ 2 ^ (blen U - 1) := Nat.pow_le_pow_right (by omega) (by omega)
    omega
theorem dirs (A : Nat) : (A < rU 0 53 A 1 → rgU 53 (rU (-1) 53 A 1) + 1 = rgU 53 (rU 0 53 A 1)) ∧ (rU 0 53 A 1 ≤ A → rgU 53 (rU (-1) 53 A 1) = rgU 53 (rU 0 53 A 1)) ∧ (rU 0 53 A 1 < A → rgU 53 (rU 1 53 A 1) = rgU 53 (rU 0 53 A 1) + 1) ∧ (A ≤ rU 0 53 A 1 → rgU 53 (rU 1 53 A 1) = rgU 53 (rU 0 53 A 1)) := by
  obtain ⟨E, hE⟩ : ∃ E, E = rE 53 A 1 := ⟨_, rfl⟩
  obtain ⟨q, hq⟩ : ∃ q, q = rS 53 A 1 := ⟨_, rfl⟩
  obtain ⟨r, hr⟩ : ∃ r, r = rR 53 A 1 := ⟨_, rfl⟩
  obtain ⟨T, hT⟩ : ∃ T, T = 2 ^ E := ⟨_, rfl⟩
  have hTp : 0 < T := by rw [hT]; exact Nat.two_pow_pos E
  have hA : A = q * T + r := by
    rw [hq, hr, hT, hE]; unfold rS rR; rw [Nat.one_mul, Nat.mul_comm]; exact (Nat.div_add_mod _ _).symm
  have hrl : r < T := by rw [hr, hT, hE]; unfold rR; rw [Nat.one_mul]; exact Nat.mod_lt _ (Nat.two_pow_pos _)
  have h0 := rung_of A 0 E (q + (upw 0 q r T).toNat) hE (by rw [hq, hr, hT, hE, Nat.one_mul])
  have h1 := rung_of A 1 E (q + (upw 1 q r T).toNat) hE (by rw [hq, hr, hT, hE, Nat.one_mul])
  have h2 := rung_of A (-1) E (q + (upw (-1) q r T).toNat) hE (by rw [hq, hr, hT, hE, Nat.one_mul])
  rw [← hT] at h0 h1 h2
  have e1 : upw 1 q r T = decide (0 < r) := by unfold upw; simp
  have e2 : upw (-1) q r T = false := by unfold upw; simp
  rw [e1] at h1
  rw [e2] at h2
  rw [h0.2.2.2.2.1, h1.2.2.2.2.1, h2.2.2.2.2.1, h0.1]
  have hexp : ∀ b : Bool, (q + b.toNat) * T = q * T + b.toNat * T := fun b => Nat.add_mul _ _ _
  rw [hexp]
  have hno : upw 0 q 0 T = false := upw_none _ _ _ hTp
  cases hu : upw 0 q r T
  · simp only [Bool.toNat_false, Nat.zero_mul, Nat.add_zero]
    by_cases c : 0 < r
    · rw [decide_eq_true c]
      simp only [Bool.toNat_true]
      refine ⟨fun h => by omega, fun _ => trivial, fun _ => by omega, fun h => by omega⟩
    · rw [decide_eq_false c]
      simp only [Bool.toNat_false, Nat.add_zero]
      refine ⟨fun h => by omega, fun _ => trivial, fun h => by omega, fun _ => trivial⟩
  · have hr0 : 0 < r := by
      rcases Nat.eq_zero_or_pos r with h | h
      · rw [h, hno] at hu; cases hu
      · exact h
    rw [decide_eq_true hr0]
    simp only [Bool.toNat_true, Bool.toNat_false, Nat.one_mul, Nat.add_zero]
    refine ⟨fun _ => by omega, fun h => by omega, fun h => by omega, fun _ => trivial⟩
theorem dir_oth (A : Nat) (d : Int) (h1 : d ≠ 1) (h2 : d ≠ -1) : rU d 53 A 1 = rU 0 53 A 1 := by
  unfold rU
  have e : ∀ S r w : Nat, upw d S r w = upw 0 S r w := fun S r w => by unfold upw; rw [if_neg h1, if_neg h2, if_neg (by decide), if_neg (by decide)]
  rw [e]
def sumW (d V : Int) : Nat := if V = 0 then 0 else mdW (decide (V < 0)) (finU 53 2098 9218868437227405311 9218868437227405312 (dirN (decide (V < 0)) d) (rU (dirN (decide (V < 0)) d) 53 V.natAbs 1))
theorem rU_blen (A : Nat) (d : Int) (k : Nat) (hk : 53 ≤ k) (h : A < 2 ^ k) : blen (rU d 53 A 1) ≤ k + 1 := by
  obtain ⟨E, hE⟩ : ∃ E, E = rE 53 A 1 := ⟨_, rfl⟩
  obtain ⟨K, hK⟩ : ∃ K, K = rS 53 A 1 + (upw d (rS 53 A 1) (rR 53 A 1) (1 * 2 ^ rE 53 A 1)).toNat := ⟨_, rfl⟩
  obtain ⟨h1, h2, h3, h4, h5, _⟩ := rung_of A d E K hE hK
  rw [h1]
  have hEk : E ≤ k - 53 := by
    rw [hE]; unfold rE; rw [Nat.div_one]
    have := (blen_le_iff A k).2 h
    omega
  rw [blen_le_iff]
  have hp : 2 ^ E ≤ 2 ^ (k - 53) := Nat.pow_le_pow_right (by omega) hEk
  have e1 : 2 ^ (k + 1) = 2 ^ 54 * 2 ^ (k - 53) := by rw [← Nat.pow_add]; congr 1; omega
  rw [e1, show (2 : Nat) ^ 54 = 18014398509481984 from by decide]
  have hp0 := Nat.two_pow_pos (k - 53)
  calc K * 2 ^ E ≤ 9007199254740992 * 2 ^ (k - 53) := Nat.mul_le_mul h2 hp
    _ < 18014398509481984 * 2 ^ (k - 53) := Nat.mul_lt_mul_of_pos_right (by decide) hp0
theorem fin_small (A : Nat) (d d2 : Int) (k : Nat) (hk : 53 ≤ k) (hk2 : k ≤ 2097) (h : A < 2 ^ k) : finU 53 2098 9218868437227405311 9218868437227405312 d2 (rU d 53 A 1) = rgU 53 (rU d 53 A 1) ∧ rgU 53 (rU d 53 A 1) < 9218868437227405312 := by
  have hb := rU_blen A d k hk h
  have hb2 : blen (rU d 53 A 1) ≤ 2098 := by omega
  constructor
  · unfold finU; rw [if_pos hb2]
  · have h9 := rung_of A d _ _ rfl rfl
    rw [h9.2.2.2.2.1]; exact h9.2.2.2.2.2.1 hb2
theorem op_nr (V : Int) (sz : Bool) (k : Nat) (hk : 53 ≤ k) (hk2 : k ≤ 2097) (h : V.natAbs < 2 ^ k) : ∃ s r T, Fq.wD (if V = 0 then sz else decide (V < 0)) (finU 53 2098 9218868437227405311 9218868437227405312 0 (rU 0 53 V.natAbs 1)) = Fq.wD s r ∧ r < 9218868437227405312 ∧ Nr V (Iv s r) T ∧ r = rgU 53 (rU 0 53 V.natAbs 1) ∧ s = (if V = 0 then sz else decide (V < 0)) ∧ (Iv s r).natAbs < 2 ^ (k + 1) := by
  obtain ⟨h1, h2⟩ := fin_small V.natAbs 0 0 k hk hk2 h
  have hval : Iv (if V = 0 then sz else decide (V < 0)) (rgU 53 (rU 0 53 V.natAbs 1)) = if V < 0 then -((rU 0 53 V.natAbs 1 : Nat) : Int) else ((rU 0 53 V.natAbs 1 : Nat) : Int) := by
    unfold Iv
    rw [vV_rung]
    by_cases c : V = 0
    · have h0 : rU 0 53 V.natAbs 1 = 0 := by
        rw [c]
        unfold rU rS rR
        rw [Int.natAbs_zero, Nat.zero_div, Nat.zero_mod, upw_none _ _ _ (by rw [Nat.one_mul]; exact Nat.two_pow_pos _)]
        simp
      have hn : ¬ V < 0 := by rw [c]; decide
      rw [h0, if_neg hn]
      simp
    · rw [if_neg c]
      by_cases c2 : V < 0
      · rw [decide_eq_true c2, if_pos rfl, if_pos c2]
      · rw [decide_eq_false c2, if_neg (by simp), if_neg c2]
  refine ⟨_, _, 2 ^ rE 53 V.natAbs 1, by rw [h1], h2, ?_, rfl, rfl, ?_⟩
  · rw [hval]
    have hn := rn_nr V.natAbs
    by_cases c2 : V < 0
    · rw [if_pos c2]
      have e : V = -((V.natAbs : Nat) : Int) := by omega
      have hn2 := hn.neg
      rw [← e] at hn2
      exact hn2
    · rw [if_neg c2]
      have e : ((V.natAbs : Nat) : Int) = V := by omega
      rw [e] at hn
      exact hn
  · rw [hval]
    have hb := (blen_le_iff _ _).1 (rU_blen V.natAbs 0 k hk h)
    split
    · rw [Int.natAbs_neg, Int.natAbs_natCast]; exact hb
    · rw [Int.natAbs_natCast]; exact hb
theorem iv_fl (n : Bool) (m : Nat) : FL (Iv n m) := by
  have h : FL ((Fq.vV Ieee.double m : Nat) : Int) := by
    unfold Fq.vV
    refine ⟨Fq.eE Ieee.double m, by rw [Int.natCast_mul, castpow]; exact Int.dvd_mul_left _ _, ?_⟩
    rw [Int.natAbs_natCast]
    refine Nat.mul_le_mul_right _ ?_
    unfold Fq.mM
    rw [Fq.binD]
    split <;> omega
  unfold Iv
  cases n
  · exact h
  · exact h.neg
theorem iv_not (n : Bool) (m : Nat) : Iv (!n) m = -Iv n m := by unfold Iv; cases n <;> simp
theorem sub_w (n n' : Bool) (m m' : Nat) (h : m < 9218868437227405312) (h' : m' < 9218868437227405312) (V : Int) (hV : V = Iv n m - Iv n' m') :
    FloatKind.f64.format.sub (Fq.wD n m) (Fq.wD n' m') = some (Fq.wD (if V = 0 then n && !n' else decide (V < 0)) (finU 53 2098 9218868437227405311 9218868437227405312 0 (rU 0 53 V.natAbs 1))) := by
  have h1 := add_w n (!n') m m' h h' V (by rw [iv_not, hV]; omega)
  rw [← h1]
  show Ieee.double.sub _ _ = Ieee.double.add _ _
  unfold Ieee.Format.sub Ieee.Format.add
  rw [Fq.read_fin _ (Fq.wD n' m') (by rw [Fq.rgD n' m' (by omega), Fq.infD]; exact h'), Fq.read_fin _ (Fq.wD (!n') m') (by rw [Fq.rgD (!n') m' (by omega), Fq.infD]; exact h'), Fq.rgD n' m' (by omega), Fq.rgD (!n') m' (by omega), Fq.ngD n' m' (by omega), Fq.ngD (!n') m' (by omega)]
  rfl
theorem lt_add9 {a b : Int} {K L : Nat} (ha : a.natAbs < 2 ^ K) (hb : b.natAbs < 2 ^ L) (h : L ≤ K) : (a + b).natAbs < 2 ^ (K + 1) ∧ (a - b).natAbs < 2 ^ (K + 1) := by
  have h1 : 2 ^ L ≤ 2 ^ K := Nat.pow_le_pow_right (by omega) h
  have h2 : 2 ^ (K + 1) = 2 * 2 ^ K := by rw [Nat.pow_succ]; omega
  omega
theorem lt_sub9 {a b : Int} {K L : Nat} (ha : a.natAbs < 2 ^ K) (hb : b.natAbs < 2 ^ L) (h : K ≤ L) : (a + b).natAbs < 2 ^ (L + 1) ∧ (a - b).natAbs < 2 ^ (L + 1) := by
  have h1 : 2 ^ K ≤ 2 ^ L := Nat.pow_le_pow_right (by omega) h
  have h2 : 2 ^ (L + 1) = 2 * 2 ^ L := by rw [Nat.pow_succ]; omega
  omega
theorem two_words (n n' : Bool) (m m' K : Nat) (hK : 53 ≤ K) (hK2 : K + 12 ≤ 2097) (hm : m < 9218868437227405312) (hm' : m' < 9218868437227405312) (hx : (Iv n m).natAbs < 2 ^ K) (hy : (Iv n' m').natAbs < 2 ^ K) (V : Int) (hV : V = Iv n m + Iv n' m') :
    ∃ (s p a b c o : Bool) (r pr ar br cr ro : Nat), FloatKind.f64.format.add (Fq.wD n m) (Fq.wD n' m') = some (Fq.wD s r) ∧ FloatKind.f64.format.sub (Fq.wD s r) (Fq.wD n m) = some (Fq.wD p pr) ∧ FloatKind.f64.format.sub (Fq.wD s r) (Fq.wD p pr) = some (Fq.wD a ar) ∧ FloatKind.f64.format.sub (Fq.wD n m) (Fq.wD a ar) = some (Fq.wD b br) ∧ FloatKind.f64.format.sub (Fq.wD n' m') (Fq.wD p pr) = some (Fq.wD c cr) ∧ FloatKind.f64.format.add (Fq.wD b br) (Fq.wD c cr) = some (Fq.wD o ro) ∧ r < 9218868437227405312 ∧ ro < 9218868437227405312 ∧ r = rgU 53 (rU 0 53 V.natAbs 1) ∧ s = (if V = 0 then n && n' else decide (V < 0)) ∧ Iv o ro = V - Iv s r := by
  have hv : V.natAbs < 2 ^ (K + 1) := by rw [hV]; exact (lt_add9 hx hy (Nat.le_refl _)).1
  obtain ⟨s, r, T0, w0, r0, n0, e0, e0', l0⟩ := op_nr V (n && n') (K + 1) (by omega) (by omega) hv
  obtain ⟨p, pr, T1, w1, r1, n1, _, _, l1⟩ := op_nr (Iv s r - Iv n m) (s && !n) (K + 3) (by omega) (by omega) (lt_add9 l0 hx (by omega)).2
  obtain ⟨a, ar, T2, w2, r2, n2, _, _, l2⟩ := op_nr (Iv s r - Iv p pr) (s && !p) (K + 5) (by omega) (by omega) (lt_sub9 l0 l1 (by omega)).2
  obtain ⟨b, br, T3, w3, r3, n3, _, _, l3⟩ := op_nr (Iv n m - Iv a ar) (n && !a) (K + 7) (by omega) (by omega) (lt_sub9 hx l2 (by omega)).2
  obtain ⟨c, cr, T4, w4, r4, n4, _, _, l4⟩ := op_nr (Iv n' m' - Iv p pr) (n' && !p) (K + 5) (by omega) (by omega) (lt_sub9 hy l1 (by omega)).2
  obtain ⟨o, ro, T5, w5, r5, n5, _, _, l5⟩ := op_nr (Iv b br + Iv c cr) (b && c) (K + 9) (by omega) (by omega) (lt_add9 l3 l4 (by omega)).1
  have hex := twoSum_exact (iv_fl n m) (iv_fl n' m') (by rw [← hV]; exact n0) n1 n2 n3 n4 n5
  refine ⟨s, p, a, b, c, o, r, pr, ar, br, cr, ro, ?_, ?_, ?_, ?_, ?_, ?_, r0, r5, e0, e0', by rw [hV]; exact hex⟩
  · rw [add_w n n' m m' hm hm' V hV, w0]
  · rw [sub_w s n r m r0 hm _ rfl, w1]
  · rw [sub_w s p r pr r0 r1 _ rfl, w2]
  · rw [sub_w n a m ar hm r2 _ rfl, w3]
  · rw [sub_w n' p m' pr hm' r1 _ rfl, w4]
  · rw [add_w b c br cr r3 r4 _ rfl, w5]
theorem vV_pos (m : Nat) : Fq.vV Ieee.double m = 0 ↔ m = 0 := by
  unfold Fq.vV Fq.mM Fq.eE
  rw [Fq.binD]
  by_cases c : m < 4503599627370496
  · rw [if_pos c, if_pos c]; simp
  · rw [if_neg c, if_neg c]
    have hp := Nat.two_pow_pos (m / 4503599627370496 - 1)
    constructor
    · intro h
      rcases Nat.mul_eq_zero.1 h with h | h <;> omega
    · intro h; omega
theorem iv_plz (n : Bool) (m : Nat) : (Iv n m < 0 ↔ Fq.plz n m < 0) ∧ (0 < Iv n m ↔ 0 < Fq.plz n m) := by
  have h := vV_pos m
  unfold Iv Fq.plz
  cases n <;> simp <;> omega
theorem step_w (d V : Int) (s o sz : Bool) (r ro K : Nat) (hK : 53 ≤ K) (hK2 : K ≤ 2096) (hv : V.natAbs < 2 ^ K) (hr : r = rgU 53 (rU 0 53 V.natAbs 1)) (hs : s = (if V = 0 then sz else decide (V < 0))) (ho : Iv o ro = V - Iv s r) :
    (d = -1 → Fq.plz o ro < 0 → Fq.plz s r ≠ -9218868437227405312 ∧ Fq.fD (Fq.plz s r - 1) = sumW d V) ∧ (d = 1 → 0 < Fq.plz o ro → Fq.plz s r ≠ 9218868437227405312 ∧ Fq.fD (Fq.plz s r + 1) = sumW d V) ∧ (¬ (d = -1 ∧ Fq.plz o ro < 0) → ¬ (d = 1 ∧ 0 < Fq.plz o ro) → Fq.wD (s && !(r == 0)) r = sumW d V) := by
  obtain ⟨hp1, hp2⟩ := iv_plz o ro
  rw [← hp1, ← hp2, ho]
  obtain ⟨D1, D2, D3, D4⟩ := dirs V.natAbs
  have hfin : ∀ dd d2 : Int, finU 53 2098 9218868437227405311 9218868437227405312 d2 (rU dd 53 V.natAbs 1) = rgU 53 (rU dd 53 V.natAbs 1) ∧ rgU 53 (rU dd 53 V.natAbs 1) < 9218868437227405312 := fun dd d2 => fin_small V.natAbs dd d2 K hK (by omega) hv
  have hU := vV_rung V.natAbs 0
  rw [← hr] at hU D1 D2 D3 D4
  have hrl : r < 9218868437227405312 := by rw [hr]; exact (hfin 0 0).2
  have hfs : ∀ dd, rgU 53 (rU dd 53 V.natAbs 1) < 9218868437227405312 := fun dd => (hfin dd 0).2
  by_cases c0 : V = 0
  · have h0 : rU 0 53 V.natAbs 1 = 0 := by
      rw [c0]
      unfold rU rS rR
      rw [Int.natAbs_zero, Nat.zero_div, Nat.zero_mod, upw_none _ _ _ (by rw [Nat.one_mul]; exact Nat.two_pow_pos _)]
      simp
    have hr0 : r = 0 := by rw [hr, h0, rgU_zero]
    have hi : Iv s r = 0 := by
      rw [hr0]; unfold Iv
      have : Fq.vV Ieee.double 0 = 0 := (vV_pos 0).2 rfl
      rw [this]; cases s <;> simp
    rw [hi, c0]
    refine ⟨fun _ h => absurd h (by decide), fun _ h => absurd h (by decide), fun _ _ => ?_⟩
    unfold sumW
    rw [if_pos rfl, hr0]; unfold Fq.wD; simp
  · have hsn : s = decide (V < 0) := by rw [hs, if_neg c0]
    have hmd : ∀ x : Nat, x ≠ 0 → mdW s x = Fq.wD s x := fun x hx => by unfold mdW Fq.wD; rw [if_neg hx]
    have hsum : ∀ dm : Int, dm = dirN s d → sumW d V = mdW s (rgU 53 (rU dm 53 V.natAbs 1)) := fun dm hdm => by
      unfold sumW; rw [if_neg c0, ← hsn, ← hdm, (hfin dm dm).1]
    have hr1 : r ≠ 0 := by
      intro h
      rw [h, (vV_pos 0).2 rfl] at hU
      have hn := (rn_nr V.natAbs).near
      rw [← hU] at hn
      have hl := (rn_nr V.natAbs).low
      omega
    have hiv : Iv s r = if V < 0 then -((rU 0 53 V.natAbs 1 : Nat) : Int) else ((rU 0 53 V.natAbs 1 : Nat) : Int) := by
      unfold Iv; rw [hU, hsn]
      by_cases c : V < 0
      · rw [decide_eq_true c, if_pos rfl, if_pos c]
      · rw [decide_eq_false c, if_neg (by simp), if_neg c]
    have hfd : ∀ x : Nat, x ≠ 0 → ∀ P : Int, P = Fq.plz s x → Fq.fD P = mdW s x := fun x hx P hP => by
      rw [hmd x hx, hP]; unfold Fq.fD Fq.plz Fq.wD
      cases s
      · simp
      · simp; omega
    have hother : ∀ dm : Int, dm = dirN s d → rgU 53 (rU dm 53 V.natAbs 1) = r → Fq.wD (s && !(r == 0)) r = sumW d V := fun dm h1 h2 => by
      rw [hsum dm h1, h2, hmd r hr1]
      congr 1
      simp [hr1]
    by_cases c : V < 0
    · rw [decide_eq_true c] at hsn
      rw [hiv, if_pos c]
      subst hsn
      have dN : dirN true d = -d := rfl
      refine ⟨fun hd h => ?_, fun hd h => ?_, fun h1 h2 => ?_⟩
      · have e := D3 (by omega)
        have hl := hfs 1
        refine ⟨by unfold Fq.plz; first | (simp; done) | (simp; omega), ?_⟩
        rw [hsum 1 (by rw [dN, hd]; rfl), e]
        exact hfd (r + 1) (by omega) _ (by unfold Fq.plz; first | (simp; done) | (simp; omega))
      · have e := D1 (by omega)
        refine ⟨by unfold Fq.plz; first | (simp; done) | (simp; omega), ?_⟩
        rw [hsum (-1) (by rw [dN, hd])]
        by_cases cz : rgU 53 (rU (-1) 53 V.natAbs 1) = 0
        · rw [cz]
          have : r = 1 := by omega
          rw [this]; rfl
        · exact hfd _ cz _ (by unfold Fq.plz; first | (simp; done) | (simp; omega))
      · by_cases d1 : d = -1
        · exact hother 1 (by rw [dN, d1]; rfl) (D4 (by have := mt (fun h => h1 ⟨d1, h⟩); omega))
        · by_cases d2 : d = 1
          · exact hother (-1) (by rw [dN, d2]) (D2 (by have := mt (fun h => h2 ⟨d2, h⟩); omega))
          · exact hother (-d) dN.symm (by rw [dir_oth _ _ (by omega) (by omega), hr])
    · rw [decide_eq_false c] at hsn
      rw [hiv, if_neg c]
      subst hsn
      have dN : dirN false d = d := rfl
      refine ⟨fun hd h => ?_, fun hd h => ?_, fun h1 h2 => ?_⟩
      · have e := D1 (by omega)
        refine ⟨by unfold Fq.plz; first | (simp; done) | (simp; omega), ?_⟩
        rw [hsum (-1) (by rw [dN, hd])]
        by_cases cz : rgU 53 (rU (-1) 53 V.natAbs 1) = 0
        · rw [cz]
          have : r = 1 := by omega
          rw [this]; rfl
        · exact hfd _ cz _ (by unfold Fq.plz; first | (simp; done) | (simp; omega))
      · have e := D3 (by omega)
        have hl := hfs 1
        refine ⟨by unfold Fq.plz; first | (simp; done) | (simp; omega), ?_⟩
        rw [hsum 1 (by rw [dN, hd]), e]
        exact hfd (r + 1) (by omega) _ (by unfold Fq.plz; simp)
      · by_cases d1 : d = -1
        · exact hother (-1) (by rw [dN, d1]) (D2 (by have := mt (fun h => h1 ⟨d1, h⟩); omega))
        · by_cases d2 : d = 1
          · exact hother 1 (by rw [dN, d2]) (D4 (by have := mt (fun h => h2 ⟨d2, h⟩); omega))
          · exact hother d dN.symm (by rw [dir_oth _ _ d2 d1, hr])
end Go.Proofs.YtnjlcfpkhgmjeaaGreatDoor
