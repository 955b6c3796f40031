import Derived.Test.YtbdeppdjelcioaaDoorM
import Derived.Laws.FloatArith
namespace Go.Proofs.YtbdeppdjelcioaaDoor
open Go.RowKit
open Ieee

theorem cut_zero (neg : Bool) (n : Nat) : Toward.even.cut neg n 0 = n := by
  unfold Toward.cut
  simp [Nat.mod_one]

theorem log2_mul_pow (M e : Nat) (h : M ≠ 0) : (M * 2 ^ e).log2 = M.log2 + e := by
  have hp : M * 2 ^ e ≠ 0 := by
    have := Nat.two_pow_pos e
    exact Nat.mul_ne_zero h (by omega)
  refine (Nat.log2_eq_iff hp).2 ⟨?_, ?_⟩
  · rw [Nat.pow_add]; exact Nat.mul_le_mul_right _ (Nat.log2_self_le h)
  · rw [show M.log2 + e + 1 = M.log2 + 1 + e from by omega, Nat.pow_add]
    exact Nat.mul_lt_mul_of_pos_right Nat.lt_log2_self (Nat.two_pow_pos e)

theorem cut_exact (neg : Bool) (M e : Nat) (h : M ≠ 0) : Toward.even.cut neg (M * 2 ^ e) e = M := by
  unfold Toward.cut
  have hm : min e ((M * 2 ^ e).log2 + 2) = e := by rw [log2_mul_pow M e h]; omega
  have hp := Nat.two_pow_pos e
  simp only [hm, Nat.shiftLeft_eq, Nat.one_mul, Nat.mul_div_cancel _ hp, Nat.mul_mod_left]
  simp

/-- the rung that 'nearest' finds -/
def nrung (f : Format) (neg : Bool) (mag : Nat) : Nat :=
  let last := max ((0 : Int) + mag.log2 - f.fractionBits) f.leastPlace
  min ((last - f.leastPlace).toNat * f.binade + Toward.even.cut neg (mag <<< ((0 : Int) - last).toNat) (last - 0).toNat) f.infRung

theorem nearest_rung (f : Format) (neg : Bool) (mag : Nat) (h : mag ≠ 0) : f.nearest neg mag 0 = f.word neg (nrung f neg mag) := by
  unfold Format.nearest nrung
  rw [if_neg h]

theorem vV_of (f : Format) (q k : Nat) (h1 : f.binade ≤ k) (h2 : k < 2 * f.binade) : vV f (q * f.binade + k) = k * 2 ^ q := by
  have hB := binade_pos f
  unfold vV mM eE
  have e1 : ¬ (q * f.binade + k < f.binade) := by have := Nat.zero_le (q * f.binade); omega
  have e2 : (q * f.binade + k) / f.binade = q + 1 := by
    rw [show q * f.binade + k = (k - f.binade) + (q + 1) * f.binade from by rw [Nat.add_mul]; omega, Nat.add_mul_div_right _ _ hB, Nat.div_eq_of_lt (by omega)]; omega
  have e3 : (q * f.binade + k) % f.binade = k - f.binade := by
    rw [show q * f.binade + k = (k - f.binade) + (q + 1) * f.binade from by rw [Nat.add_mul]; omega, Nat.add_mul_mod_self_right, Nat.mod_eq_of_lt (by omega)]
  rw [if_neg e1, if_neg e1, e2, e3, show f.binade + (k - f.binade) = k from by omega, Nat.add_sub_cancel]

/-- an integer of no more bits than a significand is written as it is -/
theorem near_small (f : Format) (neg : Bool) (t : Nat) (ht : t ≠ 0) (h : t < 2 ^ (f.fractionBits + 1)) (hl : f.leastPlace ≤ -(f.fractionBits : Int)) (hi : (-f.leastPlace).toNat + 2 ≤ 2 ^ f.exponentBits - 1) :
    nrung f neg t < f.infRung ∧ vV f (nrung f neg t) = t * 2 ^ (-f.leastPlace).toNat := by
  have hL : t.log2 ≤ f.fractionBits := by
    have := (Nat.log2_lt ht).2 h; omega
  have hlo := Nat.log2_self_le ht
  have hhi : t < 2 ^ (t.log2 + 1) := Nat.lt_log2_self
  have hlast : max ((0 : Int) + t.log2 - f.fractionBits) f.leastPlace = (t.log2 : Int) - f.fractionBits := by omega
  obtain ⟨q, hq⟩ : ∃ q : Nat, (q : Int) = (t.log2 : Int) - f.fractionBits - f.leastPlace := ⟨((t.log2 : Int) - f.fractionBits - f.leastPlace).toNat, by omega⟩
  have hB : f.binade = 2 ^ f.fractionBits := rfl
  have k1 : f.binade ≤ t * 2 ^ (f.fractionBits - t.log2) := by
    rw [hB]
    calc 2 ^ f.fractionBits = 2 ^ t.log2 * 2 ^ (f.fractionBits - t.log2) := by rw [← Nat.pow_add]; congr 1; omega
      _ ≤ _ := Nat.mul_le_mul_right _ hlo
  have k2 : t * 2 ^ (f.fractionBits - t.log2) < 2 * f.binade := by
    rw [hB]
    calc t * 2 ^ (f.fractionBits - t.log2) < 2 ^ (t.log2 + 1) * 2 ^ (f.fractionBits - t.log2) := Nat.mul_lt_mul_of_pos_right hhi (Nat.two_pow_pos _)
      _ = 2 * 2 ^ f.fractionBits := by rw [← Nat.pow_add, Nat.mul_comm 2, ← Nat.pow_succ]; congr 1; omega
  have hr : nrung f neg t = min (q * f.binade + t * 2 ^ (f.fractionBits - t.log2)) f.infRung := by
    unfold nrung
    simp only [hlast]
    rw [show ((t.log2 : Int) - f.fractionBits - f.leastPlace).toNat = q from by omega,
      show ((0 : Int) - ((t.log2 : Int) - f.fractionBits)).toNat = f.fractionBits - t.log2 from by omega,
      show ((t.log2 : Int) - f.fractionBits - 0).toNat = 0 from by omega, cut_zero, Nat.shiftLeft_eq]
  have hlt : q * f.binade + t * 2 ^ (f.fractionBits - t.log2) < f.infRung := by
    unfold Format.infRung
    have : q + 2 ≤ 2 ^ f.exponentBits - 1 := by omega
    calc _ < q * f.binade + 2 * f.binade := by omega
      _ = (q + 2) * f.binade := by rw [Nat.add_mul]
      _ ≤ _ := Nat.mul_le_mul_right _ this
  rw [hr, Nat.min_eq_left (by omega)]
  refine ⟨hlt, ?_⟩
  rw [vV_of f q _ k1 k2, Nat.mul_assoc, ← Nat.pow_add]
  congr 2; omega

/-- so is a full significand times a power of 2 -/
theorem near_great (f : Format) (neg : Bool) (M e : Nat) (h1 : f.binade ≤ M) (h2 : M < 2 * f.binade) (hl : f.leastPlace ≤ 0) (hi : e + (-f.leastPlace).toNat + 2 ≤ 2 ^ f.exponentBits - 1) :
    nrung f neg (M * 2 ^ e) < f.infRung ∧ vV f (nrung f neg (M * 2 ^ e)) = M * 2 ^ e * 2 ^ (-f.leastPlace).toNat := by
  have hB := binade_pos f
  have hM : M ≠ 0 := by omega
  have hBf : f.binade = 2 ^ f.fractionBits := rfl
  have hlg : M.log2 = f.fractionBits := by
    refine (Nat.log2_eq_iff hM).2 ⟨by rw [← hBf]; exact h1, ?_⟩
    rw [Nat.pow_succ, ← hBf]; omega
  have hlast : max ((0 : Int) + (M * 2 ^ e).log2 - f.fractionBits) f.leastPlace = (e : Int) := by
    rw [log2_mul_pow M e hM, hlg]; omega
  obtain ⟨q, hq⟩ : ∃ q : Nat, (q : Int) = (e : Int) - f.leastPlace := ⟨((e : Int) - f.leastPlace).toNat, by omega⟩
  have hr : nrung f neg (M * 2 ^ e) = min (q * f.binade + M) f.infRung := by
    unfold nrung
    simp only [hlast]
    rw [show ((e : Int) - f.leastPlace).toNat = q from by omega, show ((0 : Int) - (e : Int)).toNat = 0 from by omega,
      show ((e : Int) - 0).toNat = e from by omega, Nat.shiftLeft_zero, cut_exact neg M e hM]
  have hlt : q * f.binade + M < f.infRung := by
    unfold Format.infRung
    have : q + 2 ≤ 2 ^ f.exponentBits - 1 := by omega
    calc _ < q * f.binade + 2 * f.binade := by omega
      _ = (q + 2) * f.binade := by rw [Nat.add_mul]
      _ ≤ _ := Nat.mul_le_mul_right _ this
  rw [hr, Nat.min_eq_left (by omega)]
  refine ⟨hlt, ?_⟩
  rw [vV_of f q _ h1 h2, Nat.mul_assoc, ← Nat.pow_add]
  congr 2; omega


/-- cut towards zero: the quotient -/
theorem cut_trunc (neg : Bool) (n drop : Nat) : Toward.zero.cut neg n drop = n / 2 ^ drop := by
  unfold Toward.cut
  simp only [Nat.shiftLeft_eq, Nat.one_mul, Bool.toNat_false, Nat.add_zero]
  by_cases c : drop ≤ n.log2 + 2
  · rw [Nat.min_eq_left c]
  · rw [Nat.min_eq_right (by omega)]
    have h0 : n < 2 ^ (n.log2 + 2) := Nat.lt_of_lt_of_le Nat.lt_log2_self (Nat.pow_le_pow_right (by decide) (by omega))
    rw [Nat.div_eq_of_lt h0, Nat.div_eq_of_lt (Nat.lt_of_lt_of_le h0 (Nat.pow_le_pow_right (by decide) (by omega)))]

/-- a finite word as an integer, cut towards zero: its value by the least place's unit -/
theorem toInt_word (f : Format) (x : Nat) (h : rg f x < f.infRung) (hl : f.leastPlace ≤ 0) :
    (f.read x).toInt .zero = some (if ng f x then -((vV f (rg f x) / 2 ^ (-f.leastPlace).toNat : Nat) : Int) else ((vV f (rg f x) / 2 ^ (-f.leastPlace).toNat : Nat) : Int)) := by
  rw [read_fin f x h]
  simp only [Datum.toInt, Datum.integral]
  rw [cut_trunc, signed_eq, Nat.pow_zero, Nat.mul_one, Nat.shiftLeft_eq]
  have key : mM f (rg f x) * 2 ^ (f.leastPlace + (eE f (rg f x) : Nat)).toNat / 2 ^ (-(f.leastPlace + (eE f (rg f x) : Nat))).toNat = vV f (rg f x) / 2 ^ (-f.leastPlace).toNat := by
    unfold vV
    by_cases c : 0 ≤ f.leastPlace + (eE f (rg f x) : Nat)
    · rw [show (-(f.leastPlace + (eE f (rg f x) : Nat))).toNat = 0 from by omega, Nat.pow_zero, Nat.div_one]
      rw [show eE f (rg f x) = (f.leastPlace + (eE f (rg f x) : Nat)).toNat + (-f.leastPlace).toNat from by omega, Nat.pow_add, ← Nat.mul_assoc, Nat.mul_div_cancel _ (Nat.two_pow_pos _)]
      congr 2; omega
    · rw [show (f.leastPlace + (eE f (rg f x) : Nat)).toNat = 0 from by omega, Nat.pow_zero, Nat.mul_one]
      rw [show (-f.leastPlace).toNat = (-(f.leastPlace + (eE f (rg f x) : Nat))).toNat + eE f (rg f x) from by omega, Nat.pow_add, Nat.mul_div_mul_right _ _ (Nat.two_pow_pos _)]
  rw [key]

/-- the rung of an integer's word -/
def zr (f : Format) (z : Int) : Nat := if z = 0 then 0 else nrung f (decide (z < 0)) z.natAbs

theorem ofIntD (z : Int) : floatOfInt .f64 z = wD (decide (z < 0)) (zr double z) := by
  unfold floatOfInt FloatKind.nearest FloatKind.encode zr
  show double.nearest (decide (z < 0)) z.natAbs 0 = _
  by_cases c : z = 0
  · subst c; rfl
  · rw [nearest_rung double _ _ (by omega), if_neg c]; unfold Format.word wD; rw [signD]
theorem ofIntS (z : Int) : floatOfInt .f32 z = wS (decide (z < 0)) (zr single z) := by
  unfold floatOfInt FloatKind.nearest FloatKind.encode zr
  show single.nearest (decide (z < 0)) z.natAbs 0 = _
  by_cases c : z = 0
  · subst c; rfl
  · rw [nearest_rung single _ _ (by omega), if_neg c]; unfold Format.word wS; rw [signS]

theorem lpD : double.leastPlace = -1074 := by decide +kernel
theorem lpS : single.leastPlace = -149 := by decide +kernel

/-- what is cut off a finite word, written again: its rung's value is the whole part -/
theorem back_val (f : Format) (neg : Bool) (m : Nat) (h0 : vV f m / 2 ^ (-f.leastPlace).toNat ≠ 0) (hm : m < f.infRung) (hl : f.leastPlace ≤ -(f.fractionBits : Int)) (hi : (-f.leastPlace).toNat + 2 ≤ 2 ^ f.exponentBits - 1) :
    nrung f neg (vV f m / 2 ^ (-f.leastPlace).toNat) < f.infRung ∧ vV f (nrung f neg (vV f m / 2 ^ (-f.leastPlace).toNat)) = vV f m / 2 ^ (-f.leastPlace).toNat * 2 ^ (-f.leastPlace).toNat := by
  have hB := binade_pos f
  have hBf : f.binade = 2 ^ f.fractionBits := rfl
  by_cases c : eE f m ≤ (-f.leastPlace).toNat
  · refine near_small f neg _ h0 ?_ hl hi
    have hM : mM f m < 2 * f.binade := by
      unfold mM; split
      · omega
      · have := Nat.mod_lt m hB; omega
    have : vV f m / 2 ^ (-f.leastPlace).toNat ≤ mM f m := by
      unfold vV
      refine Nat.div_le_of_le_mul ?_
      rw [Nat.mul_comm]
      exact Nat.mul_le_mul_right _ (Nat.pow_le_pow_right (by decide) c)
    rw [Nat.pow_succ, ← hBf]; omega
  · have hb : ¬ m < f.binade := by
      intro hc; apply c; unfold eE; rw [if_pos hc]; omega
    have hM1 : f.binade ≤ mM f m := by unfold mM; rw [if_neg hb]; omega
    have hM2 : mM f m < 2 * f.binade := by unfold mM; rw [if_neg hb]; have := Nat.mod_lt m hB; omega
    have he : vV f m / 2 ^ (-f.leastPlace).toNat = mM f m * 2 ^ (eE f m - (-f.leastPlace).toNat) := by
      unfold vV
      rw [show eE f m = eE f m - (-f.leastPlace).toNat + (-f.leastPlace).toNat from by omega, Nat.pow_add, ← Nat.mul_assoc, Nat.mul_div_cancel _ (Nat.two_pow_pos _)]
      congr 2; omega
    rw [he]
    refine near_great f neg _ _ hM1 hM2 (by omega) ?_
    have hE : eE f m + 2 ≤ 2 ^ f.exponentBits - 1 := by
      unfold eE; rw [if_neg hb]
      have h1 : m / f.binade < 2 ^ f.exponentBits - 1 := (Nat.div_lt_iff_lt_mul hB).2 hm
      have h2 : 1 ≤ m / f.binade := (Nat.le_div_iff_mul_le hB).2 (by omega)
      omega
    omega


theorem pow3 (a b c d : Nat) (h : a + b = c + d) : 2 ^ a * 2 ^ b = 2 ^ c * 2 ^ d := by rw [← Nat.pow_add, ← Nat.pow_add, h]
theorem top3 (a b c d x u k : Nat) (hb : x = 2 ^ a) (hu : u = 2 ^ d) (hk : k = 2 ^ c) (h : a + b = c + d) : x * 2 ^ b = k * u := by rw [hb, hu, hk]; exact pow3 a b c d h

def unD : Nat := 2 ^ (-double.leastPlace).toNat
def vlD (m : Nat) : Nat := vV double m
def tqD (m : Nat) : Nat := vlD m / unD
def wvD (n : Bool) (m : Nat) : Int := if n then -(tqD m : Int) else (tqD m : Int)
def inrD (n : Bool) (m : Nat) : Bool := decide (m < 4890909195324358656) || (n && decide (m = 4890909195324358656))
def wokD (n : Bool) (m : Nat) : Bool := inrD n m && decide (vlD m % unD = 0)
theorem unD_pos : 0 < unD := Nat.two_pow_pos _
theorem unD_eq : 2 ^ (-double.leastPlace).toNat = unD := rfl
theorem unD_two : unD = 2 ^ 1074 := by
  unfold unD; congr 1
theorem vlD_top : vlD 4890909195324358656 = 9223372036854775808 * unD := by
  have hb : double.binade = 2 ^ 52 := rfl
  have e : (4890909195324358656 : Nat) = 1085 * double.binade + double.binade := by rw [binD]
  have h63 : (9223372036854775808 : Nat) = 2 ^ 63 := by decide
  have e2 : vV double (1085 * double.binade + double.binade) = double.binade * 2 ^ 1085 := vV_of double 1085 _ (Nat.le_refl _) (by have := binade_pos double; omega)
  have e3 : vlD 4890909195324358656 = double.binade * 2 ^ 1085 := (congrArg (vV double) e).trans e2
  exact e3.trans (top3 52 1085 63 1074 _ _ _ hb unD_two h63 rfl)
theorem inrD_lt (n : Bool) (m : Nat) (h : inrD n m = true) : m < 9218868437227405312 ∧ tqD m ≤ 9223372036854775808 ∧ (n = false → tqD m < 9223372036854775808) := by
  unfold tqD
  have ht := vlD_top
  have hp := unD_pos
  unfold inrD at h
  simp only [Bool.or_eq_true, Bool.and_eq_true, decide_eq_true_eq] at h
  rcases h with h | ⟨h1, h2⟩
  · have hv : vlD m < 9223372036854775808 * unD := by rw [← ht]; exact vV_lt double h
    have := (Nat.div_lt_iff_lt_mul hp).2 hv
    exact ⟨by omega, by omega, fun _ => this⟩
  · subst h2
    rw [ht, Nat.mul_div_cancel _ hp]
    exact ⟨by omega, by omega, fun hn => by rw [hn] at h1; cases h1⟩
theorem convD (n : Bool) (m : Nat) (h : inrD n m = true) : floatToIntVal .f64 (wD n m) .i64 = some (wvD n m) := by
  obtain ⟨a1, a2, a3⟩ := inrD_lt n m h
  have e := toInt_word double (wD n m) (by rw [rgD n m (by omega), infD]; exact a1) (by rw [lpD]; omega)
  rw [rgD n m (by omega), ngD n m (by omega), unD_eq] at e
  have e2 : (FloatKind.f64.decode (wD n m)).toInt .zero = some (wvD n m) := e
  unfold floatToIntVal
  rw [e2]
  have hb : IntKind.i64.min ≤ wvD n m ∧ wvD n m ≤ IntKind.i64.max := by
    have m1 : IntKind.i64.min = -9223372036854775808 := by decide
    have m2 : IntKind.i64.max = 9223372036854775807 := by decide
    rw [m1, m2]
    unfold wvD
    cases n
    · have := a3 rfl; simp only [Bool.false_eq_true, if_false]; omega
    · simp only [if_true]; omega
  simp only [hb, and_self, if_true]
theorem backordD (n : Bool) (m : Nat) (h : inrD n m = true) : (FloatKind.f64.format.order (floatOfInt .f64 (wvD n m)) (wD n m) != some .eq) = !decide (vlD m % unD = 0) := by
  obtain ⟨a1, a2, a3⟩ := inrD_lt n m h
  have hp := unD_pos
  have hdm := Nat.div_add_mod (vlD m) unD
  rw [ofIntD]
  by_cases c : vlD m / unD = 0
  · have ez : wvD n m = 0 := by
      have c' : tqD m = 0 := c
      unfold wvD; rw [c']; cases n <;> rfl
    rw [ez]
    have hz : zr double 0 = 0 := rfl
    rw [hz, show (decide ((0 : Int) < 0)) = false from by decide, ordD false n 0 m (by omega) (by omega)]
    have hv0 := vV_inj double m 0
    rw [vV_zero] at hv0
    have hv : vlD m = 0 ↔ m = 0 := hv0
    rw [c, Nat.mul_zero, Nat.zero_add] at hdm
    have hpl : plz n m = 0 ↔ m = 0 := by unfold plz; cases n <;> simp
    by_cases d : m = 0
    · have hm0 : vlD m % unD = 0 := by rw [hdm]; exact hv.2 d
      rw [cmp_eq (by rw [hpl.2 d]; rfl), decide_eq_true hm0]; rfl
    · have hm0 : ¬ vlD m % unD = 0 := by rw [hdm]; exact fun hh => d (hv.1 hh)
      rw [decide_eq_false hm0]
      have : plz n m ≠ 0 := fun hh => d (hpl.1 hh)
      rcases (by omega : plz n m < 0 ∨ 0 < plz n m) with q | q
      · rw [cmp_gt (by show plz n m < plz false 0; exact q)]; rfl
      · rw [cmp_lt (by show plz false 0 < plz n m; exact q)]; rfl
  · have c' : ¬ tqD m = 0 := c
    have hneg : decide (wvD n m < 0) = n := by
      unfold wvD; cases n
      · simp only [Bool.false_eq_true, if_false]; rw [decide_eq_false]; omega
      · simp only [if_true]; rw [decide_eq_true]; omega
    have habs : (wvD n m).natAbs = tqD m := by unfold wvD; cases n <;> simp
    have hnz : wvD n m ≠ 0 := by intro hh; rw [hh] at habs; simp at habs; omega
    have bv := back_val double n m (by rw [unD_eq]; exact c) (by rw [infD]; exact a1) (by rw [lpD]; decide) (by rw [lpD]; decide)
    rw [unD_eq] at bv
    have hzr : zr double (wvD n m) = nrung double n (vV double m / unD) := by unfold zr; rw [if_neg hnz, hneg, habs]; rfl
    rw [hneg, hzr]
    rw [infD] at bv
    obtain ⟨b1, b2⟩ := bv
    rw [ordD n n _ m (by omega) (by omega)]
    have hi := vV_inj double (nrung double n (vV double m / unD)) m
    rw [b2] at hi
    have hdm2 : unD * (vV double m / unD) + vV double m % unD = vV double m := Nat.div_add_mod _ _
    rw [Nat.mul_comm] at hdm2
    obtain ⟨r, hr⟩ : ∃ r : Nat, r = nrung double n (vV double m / unD) := ⟨_, rfl⟩
    rw [← hr] at hi ⊢
    by_cases d : vlD m % unD = 0
    · have d' : vV double m % unD = 0 := d
      have e : r = m := hi.1 (by omega)
      rw [cmp_eq (by rw [e]), decide_eq_true d]; rfl
    · have d' : ¬ vV double m % unD = 0 := d
      have e : r ≠ m := fun hh => d' (by have := hi.2 hh; omega)
      rw [decide_eq_false d]
      have : plz n r ≠ plz n m := by unfold plz; cases n <;> simp <;> omega
      rcases (by omega : plz n r < plz n m ∨ plz n m < plz n r) with q | q
      · rw [cmp_lt q]; rfl
      · rw [cmp_gt q]; rfl

def unS : Nat := 2 ^ (-single.leastPlace).toNat
def vlS (m : Nat) : Nat := vV single m
def tqS (m : Nat) : Nat := vlS m / unS
def wvS (n : Bool) (m : Nat) : Int := if n then -(tqS m : Int) else (tqS m : Int)
def inrS (n : Bool) (m : Nat) : Bool := decide (m < 1593835520) || (n && decide (m = 1593835520))
def wokS (n : Bool) (m : Nat) : Bool := inrS n m && decide (vlS m % unS = 0)
theorem unS_pos : 0 < unS := Nat.two_pow_pos _
theorem unS_eq : 2 ^ (-single.leastPlace).toNat = unS := rfl
theorem unS_two : unS = 2 ^ 149 := by
  unfold unS; congr 1
theorem vlS_top : vlS 1593835520 = 9223372036854775808 * unS := by
  have hb : single.binade = 2 ^ 23 := rfl
  have e : (1593835520 : Nat) = 189 * single.binade + single.binade := by rw [binS]
  have h63 : (9223372036854775808 : Nat) = 2 ^ 63 := by decide
  have e2 : vV single (189 * single.binade + single.binade) = single.binade * 2 ^ 189 := vV_of single 189 _ (Nat.le_refl _) (by have := binade_pos single; omega)
  have e3 : vlS 1593835520 = single.binade * 2 ^ 189 := (congrArg (vV single) e).trans e2
  exact e3.trans (top3 23 189 63 149 _ _ _ hb unS_two h63 rfl)
theorem inrS_lt (n : Bool) (m : Nat) (h : inrS n m = true) : m < 2139095040 ∧ tqS m ≤ 9223372036854775808 ∧ (n = false → tqS m < 9223372036854775808) := by
  unfold tqS
  have ht := vlS_top
  have hp := unS_pos
  unfold inrS at h
  simp only [Bool.or_eq_true, Bool.and_eq_true, decide_eq_true_eq] at h
  rcases h with h | ⟨h1, h2⟩
  · have hv : vlS m < 9223372036854775808 * unS := by rw [← ht]; exact vV_lt single h
    have := (Nat.div_lt_iff_lt_mul hp).2 hv
    exact ⟨by omega, by omega, fun _ => this⟩
  · subst h2
    rw [ht, Nat.mul_div_cancel _ hp]
    exact ⟨by omega, by omega, fun hn => by rw [hn] at h1; cases h1⟩
theorem convS (n : Bool) (m : Nat) (h : inrS n m = true) : floatToIntVal .f32 (wS n m) .i64 = some (wvS n m) := by
  obtain ⟨a1, a2, a3⟩ := inrS_lt n m h
  have e := toInt_word single (wS n m) (by rw [rgS n m (by omega), infS]; exact a1) (by rw [lpS]; omega)
  rw [rgS n m (by omega), ngS n m (by omega), unS_eq] at e
  have e2 : (FloatKind.f32.decode (wS n m)).toInt .zero = some (wvS n m) := e
  unfold floatToIntVal
  rw [e2]
  have hb : IntKind.i64.min ≤ wvS n m ∧ wvS n m ≤ IntKind.i64.max := by
    have m1 : IntKind.i64.min = -9223372036854775808 := by decide
    have m2 : IntKind.i64.max = 9223372036854775807 := by decide
    rw [m1, m2]
    unfold wvS
    cases n
    · have := a3 rfl; simp only [Bool.false_eq_true, if_false]; omega
    · simp only [if_true]; omega
  simp only [hb, and_self, if_true]
theorem backordS (n : Bool) (m : Nat) (h : inrS n m = true) : (FloatKind.f32.format.order (floatOfInt .f32 (wvS n m)) (wS n m) != some .eq) = !decide (vlS m % unS = 0) := by
  obtain ⟨a1, a2, a3⟩ := inrS_lt n m h
  have hp := unS_pos
  have hdm := Nat.div_add_mod (vlS m) unS
  rw [ofIntS]
  by_cases c : vlS m / unS = 0
  · have ez : wvS n m = 0 := by
      have c' : tqS m = 0 := c
      unfold wvS; rw [c']; cases n <;> rfl
    rw [ez]
    have hz : zr single 0 = 0 := rfl
    rw [hz, show (decide ((0 : Int) < 0)) = false from by decide, ordS false n 0 m (by omega) (by omega)]
    have hv0 := vV_inj single m 0
    rw [vV_zero] at hv0
    have hv : vlS m = 0 ↔ m = 0 := hv0
    rw [c, Nat.mul_zero, Nat.zero_add] at hdm
    have hpl : plz n m = 0 ↔ m = 0 := by unfold plz; cases n <;> simp
    by_cases d : m = 0
    · have hm0 : vlS m % unS = 0 := by rw [hdm]; exact hv.2 d
      rw [cmp_eq (by rw [hpl.2 d]; rfl), decide_eq_true hm0]; rfl
    · have hm0 : ¬ vlS m % unS = 0 := by rw [hdm]; exact fun hh => d (hv.1 hh)
      rw [decide_eq_false hm0]
      have : plz n m ≠ 0 := fun hh => d (hpl.1 hh)
      rcases (by omega : plz n m < 0 ∨ 0 < plz n m) with q | q
      · rw [cmp_gt (by show plz n m < plz false 0; exact q)]; rfl
      · rw [cmp_lt (by show plz false 0 < plz n m; exact q)]; rfl
  · have c' : ¬ tqS m = 0 := c
    have hneg : decide (wvS n m < 0) = n := by
      unfold wvS; cases n
      · simp only [Bool.false_eq_true, if_false]; rw [decide_eq_false]; omega
      · simp only [if_true]; rw [decide_eq_true]; omega
    have habs : (wvS n m).natAbs = tqS m := by unfold wvS; cases n <;> simp
    have hnz : wvS n m ≠ 0 := by intro hh; rw [hh] at habs; simp at habs; omega
    have bv := back_val single n m (by rw [unS_eq]; exact c) (by rw [infS]; exact a1) (by rw [lpS]; decide) (by rw [lpS]; decide)
    rw [unS_eq] at bv
    have hzr : zr single (wvS n m) = nrung single n (vV single m / unS) := by unfold zr; rw [if_neg hnz, hneg, habs]; rfl
    rw [hneg, hzr]
    rw [infS] at bv
    obtain ⟨b1, b2⟩ := bv
    rw [ordS n n _ m (by omega) (by omega)]
    have hi := vV_inj single (nrung single n (vV single m / unS)) m
    rw [b2] at hi
    have hdm2 : unS * (vV single m / unS) + vV single m % unS = vV single m := Nat.div_add_mod _ _
    rw [Nat.mul_comm] at hdm2
    obtain ⟨r, hr⟩ : ∃ r : Nat, r = nrung single n (vV single m / unS) := ⟨_, rfl⟩
    rw [← hr] at hi ⊢
    by_cases d : vlS m % unS = 0
    · have d' : vV single m % unS = 0 := d
      have e : r = m := hi.1 (by omega)
      rw [cmp_eq (by rw [e]), decide_eq_true d]; rfl
    · have d' : ¬ vV single m % unS = 0 := d
      have e : r ≠ m := fun hh => d' (by have := hi.2 hh; omega)
      rw [decide_eq_false d]
      have : plz n r ≠ plz n m := by unfold plz; cases n <;> simp <;> omega
      rcases (by omega : plz n r < plz n m ∨ plz n m < plz n r) with q | q
      · rw [cmp_lt q]; rfl
      · rw [cmp_gt q]; rfl
end Go.Proofs.YtbdeppdjelcioaaDoor
