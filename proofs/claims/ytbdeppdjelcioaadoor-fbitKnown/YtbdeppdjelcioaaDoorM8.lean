import Derived.Test.YtbdeppdjelcioaaDoorM
import Derived.Test.YtbdeppdjelcioaaDoorM5
import Derived.Test.YtbdeppdjelcioaaDoorM6
import Derived.Test.YtbdeppdjelcioaaDoorM7
import Derived.Laws.FloatArith
namespace Go.Proofs.YtbdeppdjelcioaaDoor
open Go.RowKit
open Ieee
/-- a quotient with its rest, rounded to the nearest, ties to even -/
def rndN (s l u : Nat) : Nat := if u < 2 * l ∨ (u = 2 * l ∧ s % 2 = 1) then s + 1 else s
theorem evn_rnd (mag e s l : Nat) (h1 : mag / 2 ^ e = s) (h2 : mag % 2 ^ e = l) : evn mag e = rndN s l (2 ^ e) := by
  unfold evn rndN
  rw [h1, h2]
  by_cases c1 : 2 ^ e < 2 * l
  · simp [c1]
  · by_cases c2 : 2 ^ e = 2 * l
    · by_cases c3 : s % 2 = 1
      · simp [c2, c3]
      · simp [c2, c3]
    · simp [c1, c2]
/-- the rung of an integer that is told as s 2^e + l -/
theorem near_any (f : Format) (neg : Bool) (mag s e l : Nat) (h0 : mag ≠ 0) (hm : s * 2 ^ e + l = mag) (hl : l < 2 ^ e) (hs : s < 2 * f.binade) (he : e = 0 ∨ f.binade ≤ s)
    (hp : f.leastPlace ≤ -(f.fractionBits : Int)) (hi : mag.log2 + (-f.leastPlace).toNat + 3 ≤ 2 ^ f.exponentBits - 1) :
    nrung f neg mag < f.infRung ∧ vV f (nrung f neg mag) = rndN s l (2 ^ e) * 2 ^ (e + (-f.leastPlace).toNat) := by
  have hBf : f.binade = 2 ^ f.fractionBits := rfl
  have hpe := Nat.two_pow_pos e
  have hdiv : mag / 2 ^ e = s := by rw [← hm, Nat.mul_comm, Nat.mul_add_div hpe, Nat.div_eq_of_lt hl, Nat.add_zero]
  have hmod : mag % 2 ^ e = l := by rw [← hm, Nat.mul_comm, Nat.mul_add_mod, Nat.mod_eq_of_lt hl]
  by_cases c : e = 0
  · subst c
    rw [Nat.pow_zero] at hl
    have hl0 : l = 0 := by omega
    subst hl0
    rw [Nat.pow_zero, Nat.mul_one, Nat.add_zero] at hm
    subst hm
    obtain ⟨b1, b2⟩ := near_small f neg s h0 (by rw [Nat.pow_succ, ← hBf]; omega) hp (by omega)
    refine ⟨b1, ?_⟩
    rw [b2, Nat.zero_add]
    congr 1
  · have hs2 : f.binade ≤ s := by omega
    have hL : mag.log2 = f.fractionBits + e := by
      refine (Nat.log2_eq_iff h0).2 ⟨?_, ?_⟩
      · rw [Nat.pow_add, ← hBf, ← hm]
        exact Nat.le_trans (Nat.mul_le_mul_right _ hs2) (Nat.le_add_right _ _)
      · rw [show f.fractionBits + e + 1 = f.fractionBits + 1 + e from by omega, Nat.pow_add]
        refine (Nat.div_lt_iff_lt_mul hpe).1 ?_
        rw [hdiv, Nat.pow_succ, ← hBf]; omega
    have hw : 2 ^ (f.fractionBits + 1) ≤ mag := by
      refine (Nat.le_log2 h0).1 ?_
      omega
    obtain ⟨d, hd, hd0, k1, k2, b1, b2⟩ := near_wide f neg mag hw (by omega) hi
    have hde : d = e := by omega
    subst hde
    exact ⟨b1, by rw [b2, evn_rnd mag d s l hdiv hmod]⟩
theorem rnd_exact (s l e L : Nat) (hl : l < 2 ^ e) : rndN s l (2 ^ e) * 2 ^ (e + L) = (s * 2 ^ e + l) * 2 ^ L ↔ l = 0 := by
  have hpe := Nat.two_pow_pos e
  rw [Nat.pow_add, ← Nat.mul_assoc]
  constructor
  · intro h
    have h2 := Nat.eq_of_mul_eq_mul_right (Nat.two_pow_pos L) h
    unfold rndN at h2
    split at h2
    · rw [Nat.add_mul] at h2; omega
    · omega
  · intro h
    subst h
    unfold rndN
    rw [if_neg (by omega), Nat.add_zero]
theorem rnd_le (s l u b : Nat) (h : s < b) : rndN s l u ≤ b := by unfold rndN; split <;> omega
theorem rnd_ge (s l u : Nat) : s ≤ rndN s l u := by unfold rndN; split <;> omega
theorem log2_63 (mag : Nat) (h0 : mag ≠ 0) (h : mag ≤ 9223372036854775808) : mag.log2 ≤ 63 := by
  have h64 : (2 : Nat) ^ 64 = 18446744073709551616 := by decide
  have := (Nat.log2_lt h0 (k := 64)).2 (by rw [h64]; omega)
  omega

def exqD (z : Int) : Bool := decide (vlD (zr double z) = z.natAbs * unD)
/-- FromInt's loop -/
def GD (mag : Nat) (s e l u : Int) : Prop := 0 ≤ s ∧ 0 ≤ e ∧ 0 ≤ l ∧ l < u ∧ u = ((2 ^ e.toNat : Nat) : Int) ∧ s * u + l = (mag : Int) ∧ (e = 0 ∨ 4503599627370496 ≤ s) ∧ e ≤ 63
theorem GD_bound (mag : Nat) (s e l u : Int) (h : GD mag s e l u) (hm : mag ≤ 9223372036854775808) (hs : 9007199254740992 ≤ s) : 9007199254740992 * u ≤ 9223372036854775808 ∧ e < 63 := by
  obtain ⟨a1, a2, a3, a4, a5, a6, a7, a8⟩ := h
  have hu : 0 < u := by omega
  have h1 : 9007199254740992 * u ≤ s * u := Int.mul_le_mul_of_nonneg_right hs (by omega)
  refine ⟨by omega, ?_⟩
  by_cases c : e < 63
  · exact c
  · exfalso
    have : e.toNat = 63 := by omega
    rw [this] at a5
    have h2 : u = 9223372036854775808 := by rw [a5]; decide
    omega
theorem GD_step (mag : Nat) (s e l u : Int) (h : GD mag s e l u) (hm : mag ≤ 9223372036854775808) (hs : 9007199254740992 ≤ s) : GD mag (s / 2) (e + 1) (l + s % 2 * u) (u * 2) := by
  have hb := (GD_bound mag s e l u h hm hs).2
  obtain ⟨a1, a2, a3, a4, a5, a6, a7, a8⟩ := h
  have hu : 0 < u := by omega
  have hs2 : s = 2 * (s / 2) + s % 2 := by omega
  have hmu : 0 ≤ s % 2 * u := Int.mul_nonneg (by omega) (by omega)
  have hml : s % 2 * u ≤ u := by
    have : s % 2 * u ≤ 1 * u := Int.mul_le_mul_of_nonneg_right (by omega) (by omega)
    omega
  have hsum : s * u = s / 2 * (u * 2) + s % 2 * u := by
    have e1 : s / 2 * (u * 2) = 2 * (s / 2) * u := by rw [Int.mul_comm u 2, ← Int.mul_assoc, Int.mul_comm (s / 2) 2]
    rw [e1, ← Int.add_mul, ← hs2]
  refine ⟨by omega, by omega, by omega, by omega, ?_, by omega, Or.inr (by omega), by omega⟩
  rw [a5, show (e + 1).toNat = e.toNat + 1 from by omega, Nat.pow_succ]; push_cast; rfl
theorem GD_end (z : Int) (hz : z ≠ 0) (hm : z.natAbs ≤ 9223372036854775808) (s e l u : Int) (h : GD z.natAbs s e l u) (hs : s < 9007199254740992) :
    ∃ r : Nat, (r : Int) = (if u < 2 * l ∨ (u = 2 * l ∧ s % 2 = 1) then s + 1 else s) ∧ 0 < r ∧ r ≤ 9007199254740992 ∧ zr double z < 9218868437227405312 ∧ r * 2 ^ (e + 1074).toNat = vlD (zr double z) ∧ exqD z = (l == 0) := by
  obtain ⟨a1, a2, a3, a4, a5, a6, a7, a8⟩ := h
  obtain ⟨mag, hmag⟩ : ∃ mag : Nat, mag = z.natAbs := ⟨_, rfl⟩
  rw [← hmag] at hm a6
  have hm0 : mag ≠ 0 := by omega
  have hzr : zr double z = nrung double (decide (z < 0)) mag := by unfold zr; rw [if_neg hz, hmag]
  obtain ⟨S, hS⟩ := Int.eq_ofNat_of_zero_le a1
  obtain ⟨E, hE⟩ := Int.eq_ofNat_of_zero_le a2
  obtain ⟨l', hl'⟩ := Int.eq_ofNat_of_zero_le a3
  subst hS; subst hE; subst hl'
  rw [Int.toNat_natCast] at a5
  have q1 : S * 2 ^ E + l' = mag := by
    rw [a5] at a6; exact_mod_cast a6
  have q2 : l' < 2 ^ E := by rw [a5] at a4; exact_mod_cast a4
  have hex : (2 : Nat) ^ double.exponentBits - 1 = 2047 := by decide
  have hlog := log2_63 mag hm0 hm
  have hlp : (-double.leastPlace).toNat = 1074 := by rw [lpD]; rfl
  obtain ⟨b1, b2⟩ := near_any double (decide (z < 0)) mag S E l' hm0 q1 q2 (by rw [binD]; omega) (by rw [binD]; omega) (by rw [lpD]; decide) (by rw [hlp, hex]; omega)
  rw [infD] at b1
  rw [hlp] at b2
  have hv : vlD (zr double z) = rndN S l' (2 ^ E) * 2 ^ (E + 1074) := by rw [hzr]; exact b2
  refine ⟨rndN S l' (2 ^ E), ?_, ?_, rnd_le _ _ _ _ (by omega), by rw [hzr]; exact b1, ?_, ?_⟩
  · unfold rndN
    by_cases c : 2 ^ E < 2 * l' ∨ (2 ^ E = 2 * l' ∧ S % 2 = 1)
    · rw [if_pos c, if_pos (by rw [a5]; omega)]; omega
    · rw [if_neg c, if_neg (by rw [a5]; omega)]
  · have := rnd_ge S l' (2 ^ E)
    by_cases c : S = 0
    · exfalso
      rcases a7 with a7 | a7
      · have : E = 0 := by omega
        subst this; subst c; simp at q1 q2; omega
      · omega
    · omega
  · rw [hv, show ((E : Int) + 1074).toNat = E + 1074 from by omega]
  · have hx := rnd_exact S l' E 1074 q2
    rw [← hv, q1] at hx
    unfold exqD
    rw [← hmag, unD_two]
    by_cases c : l' = 0
    · rw [decide_eq_true (hx.2 c)]; subst c; rfl
    · rw [decide_eq_false (fun hh => c (hx.1 hh))]
      have : ¬ ((l' : Int) = 0) := by omega
      simp [c]
theorem zrD_lt (z : Int) (h1 : -9223372036854775808 ≤ z) (h2 : z < 9223372036854775808) : zr double z < 9218868437227405312 := by
  by_cases c : z = 0
  · subst c; exact (by decide : (0 : Nat) < 9218868437227405312)
  · by_cases d : z.natAbs < 9007199254740992
    · have hm : z.natAbs ≠ 0 := by omega
      have hlp : (-double.leastPlace).toNat = 1074 := by rw [lpD]; rfl
      have hex : (2 : Nat) ^ double.exponentBits - 1 = 2047 := by decide
      have hb : (2 : Nat) ^ (double.fractionBits + 1) = 9007199254740992 := by decide
      have := (near_small double (decide (z < 0)) z.natAbs hm (by rw [hb]; exact d) (by rw [lpD]; decide) (by rw [hlp, hex]; omega)).1
      rw [infD] at this
      unfold zr; rw [if_neg c]; exact this
    · have hm : z.natAbs ≠ 0 := by omega
      have hlp : (-double.leastPlace).toNat = 1074 := by rw [lpD]; rfl
      have hex : (2 : Nat) ^ double.exponentBits - 1 = 2047 := by decide
      have hb : (2 : Nat) ^ (double.fractionBits + 1) = 9007199254740992 := by decide
      have hlog := log2_63 z.natAbs hm (by omega)
      obtain ⟨d', _, _, _, _, b1, _⟩ := near_wide double (decide (z < 0)) z.natAbs (by rw [hb]; omega) (by rw [lpD]; decide) (by rw [hlp, hex]; omega)
      rw [infD] at b1
      unfold zr; rw [if_neg c]; exact b1
/-- Of's answer -/
theorem ofD (z : Int) (h1 : -9223372036854775808 ≤ z) (h2 : z < 9223372036854775808) :
    (wokD (decide (z < 0)) (zr double z) && (if wokD (decide (z < 0)) (zr double z) then wvD (decide (z < 0)) (zr double z) else 0) == z) = exqD z := by
  obtain ⟨m, hm⟩ : ∃ m, m = zr double z := ⟨_, rfl⟩
  have hp := unD_pos
  have hdm := Nat.div_add_mod (vlD m) unD
  have ht := vlD_top
  unfold exqD
  rw [← hm]
  by_cases c : vlD m = z.natAbs * unD
  · rw [decide_eq_true c]
    have e1 : tqD m = z.natAbs := by unfold tqD; rw [c, Nat.mul_div_cancel _ hp]
    have e2 : vlD m % unD = 0 := by rw [c, Nat.mul_mod_left]
    have e3 : inrD (decide (z < 0)) m = true := by
      unfold inrD
      by_cases d : z.natAbs < 9223372036854775808
      · have hlt : vlD m < vlD 4890909195324358656 := by rw [c, ht]; exact Nat.mul_lt_mul_of_pos_right d hp
        have : m < 4890909195324358656 := (vV_lt_iff double m 4890909195324358656).1 hlt
        simp [this]
      · have hz : z = -9223372036854775808 := by omega
        have hn : z.natAbs = 9223372036854775808 := by omega
        have heq : vlD m = vlD 4890909195324358656 := by rw [c, ht, hn]
        have : m = 4890909195324358656 := (vV_inj double m 4890909195324358656).1 heq
        simp [this]; omega
    have e4 : wokD (decide (z < 0)) m = true := by unfold wokD; rw [e3, decide_eq_true e2]; rfl
    have e5 : wvD (decide (z < 0)) m = z := by
      unfold wvD; rw [e1]
      by_cases d : z < 0
      · simp only [d, decide_true, if_true]; omega
      · simp only [d, decide_false, Bool.false_eq_true, if_false]; omega
    rw [e4, e5]; simp
  · rw [decide_eq_false c]
    by_cases d : wokD (decide (z < 0)) m = true
    · rw [d]
      simp only [if_true, Bool.true_and]
      have d2 : vlD m % unD = 0 := by
        unfold wokD at d; simp only [Bool.and_eq_true, decide_eq_true_eq] at d; exact d.2
      have : wvD (decide (z < 0)) m ≠ z := by
        intro hh
        have : tqD m = z.natAbs := by
          unfold wvD at hh
          by_cases d3 : z < 0
          · simp only [d3, decide_true, if_true] at hh; omega
          · simp only [d3, decide_false, Bool.false_eq_true, if_false] at hh; omega
        apply c
        unfold tqD at this
        rw [← this]
        rw [d2, Nat.add_zero, Nat.mul_comm] at hdm
        exact hdm.symm
      simp [this]
    · simp only [Bool.not_eq_true] at d
      rw [d]; rfl

def exqS (z : Int) : Bool := decide (vlS (zr single z) = z.natAbs * unS)
/-- FromInt's loop -/
def GS (mag : Nat) (s e l u : Int) : Prop := 0 ≤ s ∧ 0 ≤ e ∧ 0 ≤ l ∧ l < u ∧ u = ((2 ^ e.toNat : Nat) : Int) ∧ s * u + l = (mag : Int) ∧ (e = 0 ∨ 8388608 ≤ s) ∧ e ≤ 63
theorem GS_bound (mag : Nat) (s e l u : Int) (h : GS mag s e l u) (hm : mag ≤ 9223372036854775808) (hs : 16777216 ≤ s) : 16777216 * u ≤ 9223372036854775808 ∧ e < 63 := by
  obtain ⟨a1, a2, a3, a4, a5, a6, a7, a8⟩ := h
  have hu : 0 < u := by omega
  have h1 : 16777216 * u ≤ s * u := Int.mul_le_mul_of_nonneg_right hs (by omega)
  refine ⟨by omega, ?_⟩
  by_cases c : e < 63
  · exact c
  · exfalso
    have : e.toNat = 63 := by omega
    rw [this] at a5
    have h2 : u = 9223372036854775808 := by rw [a5]; decide
    omega
theorem GS_step (mag : Nat) (s e l u : Int) (h : GS mag s e l u) (hm : mag ≤ 9223372036854775808) (hs : 16777216 ≤ s) : GS mag (s / 2) (e + 1) (l + s % 2 * u) (u * 2) := by
  have hb := (GS_bound mag s e l u h hm hs).2
  obtain ⟨a1, a2, a3, a4, a5, a6, a7, a8⟩ := h
  have hu : 0 < u := by omega
  have hs2 : s = 2 * (s / 2) + s % 2 := by omega
  have hmu : 0 ≤ s % 2 * u := Int.mul_nonneg (by omega) (by omega)
  have hml : s % 2 * u ≤ u := by
    have : s % 2 * u ≤ 1 * u := Int.mul_le_mul_of_nonneg_right (by omega) (by omega)
    omega
  have hsum : s * u = s / 2 * (u * 2) + s % 2 * u := by
    have e1 : s / 2 * (u * 2) = 2 * (s / 2) * u := by rw [Int.mul_comm u 2, ← Int.mul_assoc, Int.mul_comm (s / 2) 2]
    rw [e1, ← Int.add_mul, ← hs2]
  refine ⟨by omega, by omega, by omega, by omega, ?_, by omega, Or.inr (by omega), by omega⟩
  rw [a5, show (e + 1).toNat = e.toNat + 1 from by omega, Nat.pow_succ]; push_cast; rfl
theorem GS_end (z : Int) (hz : z ≠ 0) (hm : z.natAbs ≤ 9223372036854775808) (s e l u : Int) (h : GS z.natAbs s e l u) (hs : s < 16777216) :
    ∃ r : Nat, (r : Int) = (if u < 2 * l ∨ (u = 2 * l ∧ s % 2 = 1) then s + 1 else s) ∧ 0 < r ∧ r ≤ 16777216 ∧ zr single z < 2139095040 ∧ r * 2 ^ (e + 149).toNat = vlS (zr single z) ∧ exqS z = (l == 0) := by
  obtain ⟨a1, a2, a3, a4, a5, a6, a7, a8⟩ := h
  obtain ⟨mag, hmag⟩ : ∃ mag : Nat, mag = z.natAbs := ⟨_, rfl⟩
  rw [← hmag] at hm a6
  have hm0 : mag ≠ 0 := by omega
  have hzr : zr single z = nrung single (decide (z < 0)) mag := by unfold zr; rw [if_neg hz, hmag]
  obtain ⟨S, hS⟩ := Int.eq_ofNat_of_zero_le a1
  obtain ⟨E, hE⟩ := Int.eq_ofNat_of_zero_le a2
  obtain ⟨l', hl'⟩ := Int.eq_ofNat_of_zero_le a3
  subst hS; subst hE; subst hl'
  rw [Int.toNat_natCast] at a5
  have q1 : S * 2 ^ E + l' = mag := by
    rw [a5] at a6; exact_mod_cast a6
  have q2 : l' < 2 ^ E := by rw [a5] at a4; exact_mod_cast a4
  have hex : (2 : Nat) ^ single.exponentBits - 1 = 255 := by decide
  have hlog := log2_63 mag hm0 hm
  have hlp : (-single.leastPlace).toNat = 149 := by rw [lpS]; rfl
  obtain ⟨b1, b2⟩ := near_any single (decide (z < 0)) mag S E l' hm0 q1 q2 (by rw [binS]; omega) (by rw [binS]; omega) (by rw [lpS]; decide) (by rw [hlp, hex]; omega)
  rw [infS] at b1
  rw [hlp] at b2
  have hv : vlS (zr single z) = rndN S l' (2 ^ E) * 2 ^ (E + 149) := by rw [hzr]; exact b2
  refine ⟨rndN S l' (2 ^ E), ?_, ?_, rnd_le _ _ _ _ (by omega), by rw [hzr]; exact b1, ?_, ?_⟩
  · unfold rndN
    by_cases c : 2 ^ E < 2 * l' ∨ (2 ^ E = 2 * l' ∧ S % 2 = 1)
    · rw [if_pos c, if_pos (by rw [a5]; omega)]; omega
    · rw [if_neg c, if_neg (by rw [a5]; omega)]
  · have := rnd_ge S l' (2 ^ E)
    by_cases c : S = 0
    · exfalso
      rcases a7 with a7 | a7
      · have : E = 0 := by omega
        subst this; subst c; simp at q1 q2; omega
      · omega
    · omega
  · rw [hv, show ((E : Int) + 149).toNat = E + 149 from by omega]
  · have hx := rnd_exact S l' E 149 q2
    rw [← hv, q1] at hx
    unfold exqS
    rw [← hmag, unS_two]
    by_cases c : l' = 0
    · rw [decide_eq_true (hx.2 c)]; subst c; rfl
    · rw [decide_eq_false (fun hh => c (hx.1 hh))]
      have : ¬ ((l' : Int) = 0) := by omega
      simp [c]
theorem zrS_lt (z : Int) (h1 : -9223372036854775808 ≤ z) (h2 : z < 9223372036854775808) : zr single z < 2139095040 := by
  by_cases c : z = 0
  · subst c; exact (by decide : (0 : Nat) < 2139095040)
  · by_cases d : z.natAbs < 16777216
    · have hm : z.natAbs ≠ 0 := by omega
      have hlp : (-single.leastPlace).toNat = 149 := by rw [lpS]; rfl
      have hex : (2 : Nat) ^ single.exponentBits - 1 = 255 := by decide
      have hb : (2 : Nat) ^ (single.fractionBits + 1) = 16777216 := by decide
      have := (near_small single (decide (z < 0)) z.natAbs hm (by rw [hb]; exact d) (by rw [lpS]; decide) (by rw [hlp, hex]; omega)).1
      rw [infS] at this
      unfold zr; rw [if_neg c]; exact this
    · have hm : z.natAbs ≠ 0 := by omega
      have hlp : (-single.leastPlace).toNat = 149 := by rw [lpS]; rfl
      have hex : (2 : Nat) ^ single.exponentBits - 1 = 255 := by decide
      have hb : (2 : Nat) ^ (single.fractionBits + 1) = 16777216 := by decide
      have hlog := log2_63 z.natAbs hm (by omega)
      obtain ⟨d', _, _, _, _, b1, _⟩ := near_wide single (decide (z < 0)) z.natAbs (by rw [hb]; omega) (by rw [lpS]; decide) (by rw [hlp, hex]; omega)
      rw [infS] at b1
      unfold zr; rw [if_neg c]; exact b1
/-- Of's answer -/
theorem ofS (z : Int) (h1 : -9223372036854775808 ≤ z) (h2 : z < 9223372036854775808) :
    (wokS (decide (z < 0)) (zr single z) && (if wokS (decide (z < 0)) (zr single z) then wvS (decide (z < 0)) (zr single z) else 0) == z) = exqS z := by
  obtain ⟨m, hm⟩ : ∃ m, m = zr single z := ⟨_, rfl⟩
  have hp := unS_pos
  have hdm := Nat.div_add_mod (vlS m) unS
  have ht := vlS_top
  unfold exqS
  rw [← hm]
  by_cases c : vlS m = z.natAbs * unS
  · rw [decide_eq_true c]
    have e1 : tqS m = z.natAbs := by unfold tqS; rw [c, Nat.mul_div_cancel _ hp]
    have e2 : vlS m % unS = 0 := by rw [c, Nat.mul_mod_left]
    have e3 : inrS (decide (z < 0)) m = true := by
      unfold inrS
      by_cases d : z.natAbs < 9223372036854775808
      · have hlt : vlS m < vlS 1593835520 := by rw [c, ht]; exact Nat.mul_lt_mul_of_pos_right d hp
        have : m < 1593835520 := (vV_lt_iff single m 1593835520).1 hlt
        simp [this]
      · have hz : z = -9223372036854775808 := by omega
        have hn : z.natAbs = 9223372036854775808 := by omega
        have heq : vlS m = vlS 1593835520 := by rw [c, ht, hn]
        have : m = 1593835520 := (vV_inj single m 1593835520).1 heq
        simp [this]; omega
    have e4 : wokS (decide (z < 0)) m = true := by unfold wokS; rw [e3, decide_eq_true e2]; rfl
    have e5 : wvS (decide (z < 0)) m = z := by
      unfold wvS; rw [e1]
      by_cases d : z < 0
      · simp only [d, decide_true, if_true]; omega
      · simp only [d, decide_false, Bool.false_eq_true, if_false]; omega
    rw [e4, e5]; simp
  · rw [decide_eq_false c]
    by_cases d : wokS (decide (z < 0)) m = true
    · rw [d]
      simp only [if_true, Bool.true_and]
      have d2 : vlS m % unS = 0 := by
        unfold wokS at d; simp only [Bool.and_eq_true, decide_eq_true_eq] at d; exact d.2
      have : wvS (decide (z < 0)) m ≠ z := by
        intro hh
        have : tqS m = z.natAbs := by
          unfold wvS at hh
          by_cases d3 : z < 0
          · simp only [d3, decide_true, if_true] at hh; omega
          · simp only [d3, decide_false, Bool.false_eq_true, if_false] at hh; omega
        apply c
        unfold tqS at this
        rw [← this]
        rw [d2, Nat.add_zero, Nat.mul_comm] at hdm
        exact hdm.symm
      simp [this]
    · simp only [Bool.not_eq_true] at d
      rw [d]; rfl
end Go.Proofs.YtbdeppdjelcioaaDoor
