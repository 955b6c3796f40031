import Derived.Test.YtkjcdhbhhiaaiaaM
import Derived.Test.YtkjcdhbhhiaaiaaM5
import Derived.Test.YtkjcdhbhhiaaiaaM6
import Derived.Test.YtkjcdhbhhiaaiaaM7
import Derived.Test.YtkjcdhbhhiaaiaaM8
import Derived.Laws.FloatArith
namespace Go.Proofs.Ytkjcdhbhhiaaiaa
open Go.RowKit
open Ieee
theorem nrung_neg (f : Format) (a b : Bool) (mag : Nat) : nrung f a mag = nrung f b mag := by
  unfold nrung Toward.cut
  rfl
theorem dec_mag (f : Format) (mag : Nat) (h0 : mag ≠ 0) : ∃ s e l : Nat, s * 2 ^ e + l = mag ∧ l < 2 ^ e ∧ s < 2 * f.binade ∧ (e = 0 ∨ f.binade ≤ s) ∧ e = mag.log2 - f.fractionBits := by
  obtain ⟨e, he⟩ : ∃ e, e = mag.log2 - f.fractionBits := ⟨_, rfl⟩
  have hpe := Nat.two_pow_pos e
  have hBf : f.binade = 2 ^ f.fractionBits := rfl
  have hhi : mag < 2 ^ (mag.log2 + 1) := Nat.lt_log2_self
  have hlo := Nat.log2_self_le h0
  refine ⟨mag / 2 ^ e, e, mag % 2 ^ e, by rw [Nat.mul_comm]; exact Nat.div_add_mod mag (2 ^ e), Nat.mod_lt _ hpe, ?_, ?_, he⟩
  · refine (Nat.div_lt_iff_lt_mul hpe).2 ?_
    rw [hBf, Nat.mul_comm 2, ← Nat.pow_succ, ← Nat.pow_add]
    exact Nat.lt_of_lt_of_le hhi (Nat.pow_le_pow_right (by decide) (by omega))
  · by_cases c : e = 0
    · exact Or.inl c
    · right
      rw [hBf]; refine (Nat.le_div_iff_mul_le hpe).2 ?_
      rw [← Nat.pow_add, show f.fractionBits + e = mag.log2 from by omega]; exact hlo
theorem rnd_mono (s s' l l' u : Nat) (h : s < s' ∨ (s = s' ∧ l ≤ l')) : rndN s l u ≤ rndN s' l' u := by
  rcases h with h | ⟨rfl, h⟩
  · exact Nat.le_trans (rnd_le s l u s' h) (rnd_ge s' l' u)
  · unfold rndN
    (repeat' split) <;> omega
/-- the rung rises with the magnitude -/
theorem nrung_mono (f : Format) (a b : Bool) (x y : Nat) (h0 : x ≠ 0) (h : x ≤ y) (hp : f.leastPlace ≤ -(f.fractionBits : Int)) (hi : y.log2 + (-f.leastPlace).toNat + 3 ≤ 2 ^ f.exponentBits - 1) :
    nrung f a x ≤ nrung f b y := by
  have hy0 : y ≠ 0 := by omega
  have hlog : x.log2 ≤ y.log2 := (Nat.le_log2 hy0).2 (Nat.le_trans (Nat.log2_self_le h0) h)
  obtain ⟨s, e, l, a1, a2, a3, a4, a5⟩ := dec_mag f x h0
  obtain ⟨s', e', l', b1, b2, b3, b4, b5⟩ := dec_mag f y hy0
  obtain ⟨-, v1⟩ := near_any f a x s e l h0 a1 a2 a3 a4 hp (by omega)
  obtain ⟨-, v2⟩ := near_any f b y s' e' l' hy0 b1 b2 b3 b4 hp (by omega)
  have hle : vV f (nrung f a x) ≤ vV f (nrung f b y) := by
    rw [v1, v2]
    by_cases c : e = e'
    · subst c
      refine Nat.mul_le_mul_right _ (rnd_mono s s' l l' _ ?_)
      have hpe := Nat.two_pow_pos e
      rcases (by omega : s < s' ∨ s = s' ∨ s' < s) with d | d | d
      · exact Or.inl d
      · subst d; exact Or.inr ⟨rfl, by omega⟩
      · exfalso
        have : (s' + 1) * 2 ^ e ≤ s * 2 ^ e := Nat.mul_le_mul_right _ d
        rw [Nat.add_mul] at this; omega
    · have hlt : e < e' := by omega
      have h1 : rndN s l (2 ^ e) * 2 ^ (e + (-f.leastPlace).toNat) ≤ 2 * f.binade * 2 ^ (e + (-f.leastPlace).toNat) := Nat.mul_le_mul_right _ (rnd_le _ _ _ _ a3)
      have h2 : f.binade * 2 ^ (e' + (-f.leastPlace).toNat) ≤ rndN s' l' (2 ^ e') * 2 ^ (e' + (-f.leastPlace).toNat) := Nat.mul_le_mul_right _ (Nat.le_trans (by omega) (rnd_ge _ _ _))
      have h3 : 2 * f.binade * 2 ^ (e + (-f.leastPlace).toNat) ≤ f.binade * 2 ^ (e' + (-f.leastPlace).toNat) := by
        rw [Nat.mul_comm 2, Nat.mul_assoc, Nat.mul_comm 2, ← Nat.pow_succ]
        exact Nat.mul_le_mul_left _ (Nat.pow_le_pow_right (by decide) (by omega))
      omega
  rcases Nat.lt_or_ge (nrung f b y) (nrung f a x) with d | d
  · have := vV_lt f d; omega
  · exact d
theorem diffU {a b : Int} (h : b ≤ a) (ha : a < 9223372036854775808) (ha2 : -9223372036854775808 ≤ a) (hb : -9223372036854775808 ≤ b) (hb2 : b < 9223372036854775808) : IntKind.u64.wrap (IntKind.u64.wrap a - IntKind.u64.wrap b) = a - b := by
  rw [IntKind.wrap_u64, IntKind.wrap_u64, IntKind.wrap_u64]; omega

theorem exqD_min : exqD (-9223372036854775808) = true := by
  have hlp : (-double.leastPlace).toNat = 1074 := by rw [lpD]; rfl
  have hex : (2 : Nat) ^ double.exponentBits - 1 = 2047 := by decide
  obtain ⟨mg, hmg⟩ : ∃ mg : Nat, mg = 9223372036854775808 := ⟨_, rfl⟩
  have hlog := log2_63 mg (by omega) (by omega)
  have hse : 4503599627370496 * 2 ^ 11 + 0 = mg := by rw [hmg]
  have hbi := binD
  have m1 : ∀ b : Nat, b = 4503599627370496 → 4503599627370496 < 2 * b ∧ (11 = 0 ∨ b ≤ 4503599627370496) := fun b hb => by omega
  obtain ⟨-, v1⟩ := near_any double true mg 4503599627370496 11 0 (by omega) hse (by decide) (m1 _ hbi).1 (m1 _ hbi).2 (by rw [lpD]; decide) (by rw [hlp, hex]; omega)
  rw [hlp] at v1
  have hzr : zr double (-9223372036854775808) = nrung double true mg := by unfold zr; rw [if_neg (by decide), hmg]; rfl
  have hv : vlD (zr double (-9223372036854775808)) = rndN 4503599627370496 0 (2 ^ 11) * 2 ^ (11 + 1074) := by rw [hzr]; exact v1
  have hx := (rnd_exact 4503599627370496 0 11 1074 (by decide)).2 rfl
  have hn : (-9223372036854775808 : Int).natAbs = 4503599627370496 * 2 ^ 11 + 0 := by decide
  unfold exqD
  rw [hn, unD_two]
  exact decide_eq_true (hv.trans hx)
theorem exqD_zero : exqD 0 = true := by
  unfold exqD
  have : zr double 0 = 0 := rfl
  rw [this, show vlD 0 = 0 from vV_zero double]; simp

theorem exqS_min : exqS (-9223372036854775808) = true := by
  have hlp : (-single.leastPlace).toNat = 149 := by rw [lpS]; rfl
  have hex : (2 : Nat) ^ single.exponentBits - 1 = 255 := by decide
  obtain ⟨mg, hmg⟩ : ∃ mg : Nat, mg = 9223372036854775808 := ⟨_, rfl⟩
  have hlog := log2_63 mg (by omega) (by omega)
  have hse : 8388608 * 2 ^ 40 + 0 = mg := by rw [hmg]
  have hbi := binS
  have m1 : ∀ b : Nat, b = 8388608 → 8388608 < 2 * b ∧ (40 = 0 ∨ b ≤ 8388608) := fun b hb => by omega
  obtain ⟨-, v1⟩ := near_any single true mg 8388608 40 0 (by omega) hse (by decide) (m1 _ hbi).1 (m1 _ hbi).2 (by rw [lpS]; decide) (by rw [hlp, hex]; omega)
  rw [hlp] at v1
  have hzr : zr single (-9223372036854775808) = nrung single true mg := by unfold zr; rw [if_neg (by decide), hmg]; rfl
  have hv : vlS (zr single (-9223372036854775808)) = rndN 8388608 0 (2 ^ 40) * 2 ^ (40 + 149) := by rw [hzr]; exact v1
  have hx := (rnd_exact 8388608 0 40 149 (by decide)).2 rfl
  have hn : (-9223372036854775808 : Int).natAbs = 8388608 * 2 ^ 40 + 0 := by decide
  unfold exqS
  rw [hn, unS_two]
  exact decide_eq_true (hv.trans hx)
theorem exqS_zero : exqS 0 = true := by
  unfold exqS
  have : zr single 0 = 0 := rfl
  rw [this, show vlS 0 = 0 from vV_zero single]; simp

theorem zrD_neg (z : Int) : zr double (-z) = zr double z := by
  unfold zr
  by_cases c : z = 0
  · subst c; rfl
  · rw [if_neg c, if_neg (by omega), Int.natAbs_neg]; exact nrung_neg _ _ _ _
theorem zrD_mono (a b : Int) (h : a.natAbs ≤ b.natAbs) (hb : b.natAbs ≤ 9223372036854775808) : zr double a ≤ zr double b := by
  unfold zr
  by_cases c : a = 0
  · rw [if_pos c]; exact Nat.zero_le _
  · rw [if_neg c, if_neg (by omega)]
    have hlp : (-double.leastPlace).toNat = 1074 := by rw [lpD]; rfl
    have hex : (2 : Nat) ^ double.exponentBits - 1 = 2047 := by decide
    have hlog := log2_63 b.natAbs (by omega) hb
    exact nrung_mono double _ _ _ _ (by omega) h (by rw [lpD]; decide) (by rw [hlp, hex]; omega)
theorem zrD_order (a b : Int) (h : a < b) (ha : a.natAbs ≤ 9223372036854775808) (hb : b.natAbs ≤ 9223372036854775808) : plz (decide (a < 0)) (zr double a) ≤ plz (decide (b < 0)) (zr double b) := by
  have e1 : plz (decide (a < 0)) (zr double a) = if decide (a < 0) then -((zr double a : Nat) : Int) else (zr double a : Nat) := rfl
  have e2 : plz (decide (b < 0)) (zr double b) = if decide (b < 0) then -((zr double b : Nat) : Int) else (zr double b : Nat) := rfl
  rw [e1, e2]
  by_cases c1 : a < 0
  · by_cases c2 : b < 0
    · have := zrD_mono b a (by omega) ha
      simp only [c1, c2, decide_true, if_true]; omega
    · simp only [c1, c2, decide_true, decide_false, if_true, Bool.false_eq_true, if_false]; omega
  · have c2 : ¬ b < 0 := by omega
    have := zrD_mono a b (by omega) hb
    simp only [c1, c2, decide_false, Bool.false_eq_true, if_false]; omega
theorem inexD (z : Int) (hz : z.natAbs ≤ 9223372036854775808) (h : exqD z = false) : ∃ s u l : Nat, 0 < s ∧ 0 < l ∧ l < u ∧ z.natAbs = s * u + l ∧
    ((vlD (zr double z) = s * u * unD ∧ vlD (zr double z + 1) = (s + 1) * u * unD ∧ 2 * l ≤ u) ∨
     (0 < zr double z ∧ vlD (zr double z) = (s + 1) * u * unD ∧ vlD (zr double z - 1) = s * u * unD ∧ u ≤ 2 * l)) := by
  have hz0 : z ≠ 0 := by
    intro hh; subst hh
    unfold exqD at h
    have : zr double 0 = 0 := rfl
    rw [this, show vlD 0 = 0 from vV_zero double] at h; simp at h
  obtain ⟨mag, hmag⟩ : ∃ mag : Nat, mag = z.natAbs := ⟨_, rfl⟩
  have hm0 : mag ≠ 0 := by omega
  have hzr : zr double z = nrung double (decide (z < 0)) mag := by unfold zr; rw [if_neg hz0, hmag]
  have hlp : (-double.leastPlace).toNat = 1074 := by rw [lpD]; rfl
  have hex : (2 : Nat) ^ double.exponentBits - 1 = 2047 := by decide
  have hlog := log2_63 mag hm0 (by omega)
  obtain ⟨s, e, l, a1, a2, a3, a4, -⟩ := dec_mag double mag hm0
  obtain ⟨-, v1⟩ := near_any double (decide (z < 0)) mag s e l hm0 a1 a2 a3 a4 (by rw [lpD]; decide) (by rw [hlp, hex]; omega)
  rw [hlp] at v1
  have hv : vlD (zr double z) = rndN s l (2 ^ e) * 2 ^ (e + 1074) := by rw [hzr]; exact v1
  have hx := rnd_exact s l e 1074 a2
  have hl : l ≠ 0 := by
    intro hh
    have h1 := hx.2 hh
    rw [← hv, a1] at h1
    unfold exqD at h
    rw [← hmag, unD_two] at h
    rw [decide_eq_true h1] at h
    cases h
  have hBp := binade_pos double
  have he : double.binade ≤ s := by
    rcases a4 with a4 | a4
    · subst a4; rw [Nat.pow_zero] at a2; omega
    · exact a4
  obtain ⟨m, hm⟩ : ∃ m, m = zr double z := ⟨_, rfl⟩
  rw [← hm] at hv ⊢
  have hpow : ∀ t : Nat, t * 2 ^ (e + 1074) = t * 2 ^ e * unD := fun t => by rw [unD_two, Nat.pow_add, Nat.mul_assoc]
  have hup : ∀ t : Nat, double.binade ≤ t → t ≤ 2 * double.binade → vlD ((e + 1074) * double.binade + t) = t * 2 ^ e * unD := fun t t1 t2 => by
    rw [← hpow]; exact vV_upto double (e + 1074) t t1 t2
  have hmr : m = (e + 1074) * double.binade + rndN s l (2 ^ e) := by
    refine (vV_inj double _ _).1 ?_
    have := hup (rndN s l (2 ^ e)) (Nat.le_trans he (rnd_ge _ _ _)) (rnd_le _ _ _ _ a3)
    rw [← hpow] at this
    exact hv.trans this.symm
  refine ⟨s, 2 ^ e, l, by omega, by omega, a2, by omega, ?_⟩
  by_cases c : 2 ^ e < 2 * l ∨ (2 ^ e = 2 * l ∧ s % 2 = 1)
  · right
    have hr : rndN s l (2 ^ e) = s + 1 := by unfold rndN; rw [if_pos c]
    rw [hr] at hmr
    refine ⟨by omega, ?_, ?_, by omega⟩
    · rw [hmr]; exact hup (s + 1) (by omega) (by omega)
    · rw [hmr, show (e + 1074) * double.binade + (s + 1) - 1 = (e + 1074) * double.binade + s from by omega]; exact hup s he (by omega)
  · left
    have hr : rndN s l (2 ^ e) = s := by unfold rndN; rw [if_neg c]
    rw [hr] at hmr
    refine ⟨?_, ?_, by omega⟩
    · rw [hmr]; exact hup s he (by omega)
    · rw [hmr, Nat.add_assoc]; exact hup (s + 1) (by omega) (by omega)
theorem wvD_bd (n : Bool) (m : Nat) (h : wokD n m = true) : -9223372036854775808 ≤ wvD n m ∧ wvD n m < 9223372036854775808 := by
  have h1 : inrD n m = true := by unfold wokD at h; simp only [Bool.and_eq_true] at h; exact h.1
  obtain ⟨_, a2, a3⟩ := inrD_lt n m h1
  unfold wvD
  cases n
  · have := a3 rfl; simp only [Bool.false_eq_true, if_false]; omega
  · simp only [if_true]; omega
theorem wvD_at (p : Int) : wvD (decide (p < 0)) p.natAbs = if p < 0 then -(tqD p.natAbs : Int) else (tqD p.natAbs : Int) := by
  unfold wvD; by_cases c : p < 0 <;> simp [c]
theorem besideD (z : Int) (hz : z.natAbs ≤ 9223372036854775808) (h : exqD z = false) (n : Bool) (hn : n = decide (z < 0)) (m : Nat) (hm : m = zr double z) (P : Int) (hP : P = plz n m) :
    wvD n m ≠ z ∧
    (wvD n m < z → z < wvD (decide (P + 1 < 0)) (P + 1).natAbs ∧ ¬ (wvD (decide (P + 1 < 0)) (P + 1).natAbs - z < z - wvD n m)) ∧
    (z < wvD n m → wvD (decide (P - 1 < 0)) (P - 1).natAbs < z ∧ ¬ (z - wvD (decide (P - 1 < 0)) (P - 1).natAbs < wvD n m - z)) := by
  obtain ⟨s, u, l, q1, q2, q3, q4, q5⟩ := inexD z hz h
  rw [← hm] at q5
  have hp := unD_pos
  have ht : ∀ r t : Nat, vlD r = t * unD → tqD r = t := fun r t hh => by unfold tqD; rw [hh, Nat.mul_div_cancel _ hp]
  have hs1 : (s + 1) * u = s * u + u := by rw [Nat.add_mul]; omega
  have hsu : u ≤ s * u := by have := Nat.mul_le_mul_right u q1; omega
  obtain ⟨k, hk⟩ : ∃ k : Nat, k = s * u := ⟨_, rfl⟩
  rw [hs1, ← hk] at q5
  rw [← hk] at q4 hsu
  have hPe : P = if n then -(m : Int) else (m : Int) := hP
  rw [wvD_at, wvD_at]
  have hw : wvD n m = if n then -(tqD m : Int) else (tqD m : Int) := rfl
  rw [hw]
  rcases q5 with ⟨r1, r2, r3⟩ | ⟨r0, r1, r2, r3⟩
  · have t1 := ht _ _ r1
    have t2 := ht _ _ r2
    by_cases c : z < 0
    · rw [decide_eq_true c] at hn
      subst hn
      simp only [if_true] at hPe ⊢
      rw [t1]
      exact ⟨by omega, fun hh => absurd hh (by omega), fun hh => by
        have e1 : (P - 1).natAbs = m + 1 := by omega
        rw [if_pos (by omega), e1, t2]; omega⟩
    · rw [decide_eq_false c] at hn
      subst hn
      simp only [Bool.false_eq_true, if_false] at hPe ⊢
      rw [t1]
      exact ⟨by omega, fun hh => by
        have e1 : (P + 1).natAbs = m + 1 := by omega
        rw [if_neg (by omega), e1, t2]; omega, fun hh => absurd hh (by omega)⟩
  · have t1 := ht _ _ r1
    have t2 := ht _ _ r2
    have hm1 : m - 1 ≠ 0 := by
      intro hh
      rw [hh, show vlD 0 = 0 from vV_zero double] at r2
      have : 0 < k * unD := Nat.mul_pos (by omega) hp
      omega
    by_cases c : z < 0
    · rw [decide_eq_true c] at hn
      subst hn
      simp only [if_true] at hPe ⊢
      rw [t1]
      exact ⟨by omega, fun hh => by
        have e1 : (P + 1).natAbs = m - 1 := by omega
        rw [if_pos (by omega), e1, t2]; omega, fun hh => absurd hh (by omega)⟩
    · rw [decide_eq_false c] at hn
      subst hn
      simp only [Bool.false_eq_true, if_false] at hPe ⊢
      rw [t1]
      exact ⟨by omega, fun hh => absurd hh (by omega), fun hh => by
        have e1 : (P - 1).natAbs = m - 1 := by omega
        rw [if_neg (by omega), e1, t2]; omega⟩

theorem zrS_neg (z : Int) : zr single (-z) = zr single z := by
  unfold zr
  by_cases c : z = 0
  · subst c; rfl
  · rw [if_neg c, if_neg (by omega), Int.natAbs_neg]; exact nrung_neg _ _ _ _
theorem zrS_mono (a b : Int) (h : a.natAbs ≤ b.natAbs) (hb : b.natAbs ≤ 9223372036854775808) : zr single a ≤ zr single b := by
  unfold zr
  by_cases c : a = 0
  · rw [if_pos c]; exact Nat.zero_le _
  · rw [if_neg c, if_neg (by omega)]
    have hlp : (-single.leastPlace).toNat = 149 := by rw [lpS]; rfl
    have hex : (2 : Nat) ^ single.exponentBits - 1 = 255 := by decide
    have hlog := log2_63 b.natAbs (by omega) hb
    exact nrung_mono single _ _ _ _ (by omega) h (by rw [lpS]; decide) (by rw [hlp, hex]; omega)
theorem zrS_order (a b : Int) (h : a < b) (ha : a.natAbs ≤ 9223372036854775808) (hb : b.natAbs ≤ 9223372036854775808) : plz (decide (a < 0)) (zr single a) ≤ plz (decide (b < 0)) (zr single b) := by
  have e1 : plz (decide (a < 0)) (zr single a) = if decide (a < 0) then -((zr single a : Nat) : Int) else (zr single a : Nat) := rfl
  have e2 : plz (decide (b < 0)) (zr single b) = if decide (b < 0) then -((zr single b : Nat) : Int) else (zr single b : Nat) := rfl
  rw [e1, e2]
  by_cases c1 : a < 0
  · by_cases c2 : b < 0
    · have := zrS_mono b a (by omega) ha
      simp only [c1, c2, decide_true, if_true]; omega
    · simp only [c1, c2, decide_true, decide_false, if_true, Bool.false_eq_true, if_false]; omega
  · have c2 : ¬ b < 0 := by omega
    have := zrS_mono a b (by omega) hb
    simp only [c1, c2, decide_false, Bool.false_eq_true, if_false]; omega
theorem inexS (z : Int) (hz : z.natAbs ≤ 9223372036854775808) (h : exqS z = false) : ∃ s u l : Nat, 0 < s ∧ 0 < l ∧ l < u ∧ z.natAbs = s * u + l ∧
    ((vlS (zr single z) = s * u * unS ∧ vlS (zr single z + 1) = (s + 1) * u * unS ∧ 2 * l ≤ u) ∨
     (0 < zr single z ∧ vlS (zr single z) = (s + 1) * u * unS ∧ vlS (zr single z - 1) = s * u * unS ∧ u ≤ 2 * l)) := by
  have hz0 : z ≠ 0 := by
    intro hh; subst hh
    unfold exqS at h
    have : zr single 0 = 0 := rfl
    rw [this, show vlS 0 = 0 from vV_zero single] at h; simp at h
  obtain ⟨mag, hmag⟩ : ∃ mag : Nat, mag = z.natAbs := ⟨_, rfl⟩
  have hm0 : mag ≠ 0 := by omega
  have hzr : zr single z = nrung single (decide (z < 0)) mag := by unfold zr; rw [if_neg hz0, hmag]
  have hlp : (-single.leastPlace).toNat = 149 := by rw [lpS]; rfl
  have hex : (2 : Nat) ^ single.exponentBits - 1 = 255 := by decide
  have hlog := log2_63 mag hm0 (by omega)
  obtain ⟨s, e, l, a1, a2, a3, a4, -⟩ := dec_mag single mag hm0
  obtain ⟨-, v1⟩ := near_any single (decide (z < 0)) mag s e l hm0 a1 a2 a3 a4 (by rw [lpS]; decide) (by rw [hlp, hex]; omega)
  rw [hlp] at v1
  have hv : vlS (zr single z) = rndN s l (2 ^ e) * 2 ^ (e + 149) := by rw [hzr]; exact v1
  have hx := rnd_exact s l e 149 a2
  have hl : l ≠ 0 := by
    intro hh
    have h1 := hx.2 hh
    rw [← hv, a1] at h1
    unfold exqS at h
    rw [← hmag, unS_two] at h
    rw [decide_eq_true h1] at h
    cases h
  have hBp := binade_pos single
  have he : single.binade ≤ s := by
    rcases a4 with a4 | a4
    · subst a4; rw [Nat.pow_zero] at a2; omega
    · exact a4
  obtain ⟨m, hm⟩ : ∃ m, m = zr single z := ⟨_, rfl⟩
  rw [← hm] at hv ⊢
  have hpow : ∀ t : Nat, t * 2 ^ (e + 149) = t * 2 ^ e * unS := fun t => by rw [unS_two, Nat.pow_add, Nat.mul_assoc]
  have hup : ∀ t : Nat, single.binade ≤ t → t ≤ 2 * single.binade → vlS ((e + 149) * single.binade + t) = t * 2 ^ e * unS := fun t t1 t2 => by
    rw [← hpow]; exact vV_upto single (e + 149) t t1 t2
  have hmr : m = (e + 149) * single.binade + rndN s l (2 ^ e) := by
    refine (vV_inj single _ _).1 ?_
    have := hup (rndN s l (2 ^ e)) (Nat.le_trans he (rnd_ge _ _ _)) (rnd_le _ _ _ _ a3)
    rw [← hpow] at this
    exact hv.trans this.symm
  refine ⟨s, 2 ^ e, l, by omega, by omega, a2, by omega, ?_⟩
  by_cases c : 2 ^ e < 2 * l ∨ (2 ^ e = 2 * l ∧ s % 2 = 1)
  · right
    have hr : rndN s l (2 ^ e) = s + 1 := by unfold rndN; rw [if_pos c]
    rw [hr] at hmr
    refine ⟨by omega, ?_, ?_, by omega⟩
    · rw [hmr]; exact hup (s + 1) (by omega) (by omega)
    · rw [hmr, show (e + 149) * single.binade + (s + 1) - 1 = (e + 149) * single.binade + s from by omega]; exact hup s he (by omega)
  · left
    have hr : rndN s l (2 ^ e) = s := by unfold rndN; rw [if_neg c]
    rw [hr] at hmr
    refine ⟨?_, ?_, by omega⟩
    · rw [hmr]; exact hup s he (by omega)
    · rw [hmr, Nat.add_assoc]; exact hup (s + 1) (by omega) (by omega)
theorem wvS_bd (n : Bool) (m : Nat) (h : wokS n m = true) : -9223372036854775808 ≤ wvS n m ∧ wvS n m < 9223372036854775808 := by
  have h1 : inrS n m = true := by unfold wokS at h; simp only [Bool.and_eq_true] at h; exact h.1
  obtain ⟨_, a2, a3⟩ := inrS_lt n m h1
  unfold wvS
  cases n
  · have := a3 rfl; simp only [Bool.false_eq_true, if_false]; omega
  · simp only [if_true]; omega
theorem wvS_at (p : Int) : wvS (decide (p < 0)) p.natAbs = if p < 0 then -(tqS p.natAbs : Int) else (tqS p.natAbs : Int) := by
  unfold wvS; by_cases c : p < 0 <;> simp [c]
theorem besideS (z : Int) (hz : z.natAbs ≤ 9223372036854775808) (h : exqS z = false) (n : Bool) (hn : n = decide (z < 0)) (m : Nat) (hm : m = zr single z) (P : Int) (hP : P = plz n m) :
    wvS n m ≠ z ∧
    (wvS n m < z → z < wvS (decide (P + 1 < 0)) (P + 1).natAbs ∧ ¬ (wvS (decide (P + 1 < 0)) (P + 1).natAbs - z < z - wvS n m)) ∧
    (z < wvS n m → wvS (decide (P - 1 < 0)) (P - 1).natAbs < z ∧ ¬ (z - wvS (decide (P - 1 < 0)) (P - 1).natAbs < wvS n m - z)) := by
  obtain ⟨s, u, l, q1, q2, q3, q4, q5⟩ := inexS z hz h
  rw [← hm] at q5
  have hp := unS_pos
  have ht : ∀ r t : Nat, vlS r = t * unS → tqS r = t := fun r t hh => by unfold tqS; rw [hh, Nat.mul_div_cancel _ hp]
  have hs1 : (s + 1) * u = s * u + u := by rw [Nat.add_mul]; omega
  have hsu : u ≤ s * u := by have := Nat.mul_le_mul_right u q1; omega
  obtain ⟨k, hk⟩ : ∃ k : Nat, k = s * u := ⟨_, rfl⟩
  rw [hs1, ← hk] at q5
  rw [← hk] at q4 hsu
  have hPe : P = if n then -(m : Int) else (m : Int) := hP
  rw [wvS_at, wvS_at]
  have hw : wvS n m = if n then -(tqS m : Int) else (tqS m : Int) := rfl
  rw [hw]
  rcases q5 with ⟨r1, r2, r3⟩ | ⟨r0, r1, r2, r3⟩
  · have t1 := ht _ _ r1
    have t2 := ht _ _ r2
    by_cases c : z < 0
    · rw [decide_eq_true c] at hn
      subst hn
      simp only [if_true] at hPe ⊢
      rw [t1]
      exact ⟨by omega, fun hh => absurd hh (by omega), fun hh => by
        have e1 : (P - 1).natAbs = m + 1 := by omega
        rw [if_pos (by omega), e1, t2]; omega⟩
    · rw [decide_eq_false c] at hn
      subst hn
      simp only [Bool.false_eq_true, if_false] at hPe ⊢
      rw [t1]
      exact ⟨by omega, fun hh => by
        have e1 : (P + 1).natAbs = m + 1 := by omega
        rw [if_neg (by omega), e1, t2]; omega, fun hh => absurd hh (by omega)⟩
  · have t1 := ht _ _ r1
    have t2 := ht _ _ r2
    have hm1 : m - 1 ≠ 0 := by
      intro hh
      rw [hh, show vlS 0 = 0 from vV_zero single] at r2
      have : 0 < k * unS := Nat.mul_pos (by omega) hp
      omega
    by_cases c : z < 0
    · rw [decide_eq_true c] at hn
      subst hn
      simp only [if_true] at hPe ⊢
      rw [t1]
      exact ⟨by omega, fun hh => by
        have e1 : (P + 1).natAbs = m - 1 := by omega
        rw [if_pos (by omega), e1, t2]; omega, fun hh => absurd hh (by omega)⟩
    · rw [decide_eq_false c] at hn
      subst hn
      simp only [Bool.false_eq_true, if_false] at hPe ⊢
      rw [t1]
      exact ⟨by omega, fun hh => absurd hh (by omega), fun hh => by
        have e1 : (P - 1).natAbs = m - 1 := by omega
        rw [if_neg (by omega), e1, t2]; omega⟩
end Go.Proofs.Ytkjcdhbhhiaaiaa
