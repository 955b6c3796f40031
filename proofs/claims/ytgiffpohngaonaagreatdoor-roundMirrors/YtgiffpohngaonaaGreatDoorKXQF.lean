import Derived.Laws.FloatArith
import Derived.Laws.BitsAllLaws
import Derived.RowKit
import Derived.Below
import Derived.Lib.BitFns
namespace Go.Proofs.YtgiffpohngaonaaGreatDoor
open Go.RowKit
namespace Fq
open Ieee

/-- the rung of a word, and its sign. -/
def rg (f : Format) (x : Nat) : Nat := x % f.signWeight
def ng (f : Format) (x : Nat) : Bool := x / f.signWeight % 2 == 1
/-- the place: the rung with the sign. -/
def pl (f : Format) (x : Nat) : Int := if ng f x then -(rg f x : Int) else rg f x
def eE (f : Format) (r : Nat) : Nat := if r < f.binade then 0 else r / f.binade - 1
def mM (f : Format) (r : Nat) : Nat := if r < f.binade then r else f.binade + r % f.binade
def vV (f : Format) (r : Nat) : Nat := mM f r * 2 ^ eE f r

theorem binade_pos (f : Format) : 0 < f.binade := Nat.two_pow_pos _

theorem vV_step (f : Format) (r : Nat) : vV f r < vV f (r + 1) := by
  have hB := binade_pos f
  unfold vV mM eE
  generalize f.binade = B at *
  by_cases h1 : r + 1 < B
  · have : r < B := by omega
    simp [h1, this]
  · by_cases h2 : r < B
    · have h3 : r + 1 = B := by omega
      simp [h2, h3]
      rw [Nat.div_self hB]; simp; omega
    · have hq : 1 ≤ r / B := (Nat.le_div_iff_mul_le hB).2 (by omega)
      simp only [h1, h2, if_false]
      have hdm := Nat.div_add_mod r B
      have hm := Nat.mod_lt r hB
      by_cases h4 : r % B + 1 < B
      · have e1 : (r + 1) / B = r / B := by
          rw [show r + 1 = (r % B + 1) + B * (r / B) from by omega, Nat.add_mul_div_left _ _ hB, Nat.div_eq_of_lt h4]; omega
        have e2 : (r + 1) % B = r % B + 1 := by
          rw [show r + 1 = (r % B + 1) + B * (r / B) from by omega, Nat.add_mul_mod_self_left, Nat.mod_eq_of_lt h4]
        rw [e1, e2]
        exact Nat.mul_lt_mul_of_pos_right (by omega) (Nat.two_pow_pos _)
      · have e0 : r + 1 = B * (r / B + 1) := by rw [Nat.mul_add]; omega
        have e1 : (r + 1) / B = r / B + 1 := by rw [e0, Nat.mul_div_cancel_left _ hB]
        have e2 : (r + 1) % B = 0 := by rw [e0, Nat.mul_mod_right]
        rw [e1, e2]
        obtain ⟨k, hk⟩ : ∃ k, r / B = k + 1 := ⟨r / B - 1, by omega⟩
        rw [hk]
        simp only [Nat.add_sub_cancel, Nat.add_zero]
        rw [Nat.pow_succ, Nat.mul_comm (2 ^ k) 2, ← Nat.mul_assoc]
        exact Nat.mul_lt_mul_of_pos_right (by omega) (Nat.two_pow_pos _)

theorem vV_lt (f : Format) {r s : Nat} (h : r < s) : vV f r < vV f s := by
  induction s with
  | zero => omega
  | succ s ih =>
    by_cases e : r = s
    · subst e; exact vV_step f r
    · exact Nat.lt_trans (ih (by omega)) (vV_step f s)

theorem vV_lt_iff (f : Format) (r s : Nat) : vV f r < vV f s ↔ r < s := by
  constructor
  · intro h
    by_cases c : r < s
    · exact c
    · exfalso
      by_cases e : r = s
      · subst e; omega
      · have := vV_lt f (r := s) (s := r) (by omega); omega
  · exact vV_lt f

theorem vV_inj (f : Format) (r s : Nat) : vV f r = vV f s ↔ r = s := by
  constructor
  · intro h
    by_cases c : r < s
    · have := vV_lt f c; omega
    · by_cases d : s < r
      · have := vV_lt f d; omega
      · omega
  · intro h; rw [h]

theorem vV_zero (f : Format) : vV f 0 = 0 := by
  unfold vV mM; simp [binade_pos f]

theorem rg_lt (f : Format) (x : Nat) : rg f x < f.signWeight := Nat.mod_lt _ (Nat.two_pow_pos _)

theorem read_fin (f : Format) (x : Nat) (h : rg f x < f.infRung) :
    f.read x = .number (ng f x) (mM f (rg f x)) (f.leastPlace + (eE f (rg f x) : Nat)) := by
  unfold Format.read mM eE
  change (if rg f x < f.binade then _ else _) = _
  by_cases c : rg f x < f.binade
  · rw [if_pos c, if_pos c, if_pos c, Int.natCast_zero, Int.add_zero]; rfl
  · rw [if_neg c]
    change (if rg f x < f.infRung then _ else _) = _
    rw [if_pos h, if_neg c, if_neg c]; rfl

theorem read_inf (f : Format) (x : Nat) (hb : f.binade ≤ f.infRung) (h : rg f x = f.infRung) :
    f.read x = .infinity (ng f x) := by
  unfold Format.read
  change (if rg f x < f.binade then _ else if rg f x < f.infRung then _ else if rg f x = f.infRung then _ else _) = _
  rw [if_neg (by omega), if_neg (by omega), if_pos h]; rfl

theorem read_nan (f : Format) (x : Nat) (hb : f.binade ≤ f.infRung) (h : f.infRung < rg f x) :
    f.read x = .nan (ng f x) (rg f x - f.infRung) := by
  unfold Format.read
  change (if rg f x < f.binade then _ else if rg f x < f.infRung then _ else if rg f x = f.infRung then _ else _) = _
  rw [if_neg (by omega), if_neg (by omega), if_neg (by omega)]; rfl

theorem cmp_congr {a b c d : Int} (h1 : a < b ↔ c < d) (h2 : a = b ↔ c = d) : compare a b = compare c d := by
  simp only [compare, compareOfLessAndEq, h1, h2]

theorem cmp_lt {a b : Int} (h : a < b) : compare a b = .lt := by simp [compare, compareOfLessAndEq, h]
theorem cmp_gt {a b : Int} (h : b < a) : compare a b = .gt := by
  have h1 : ¬ a < b := by omega
  have h2 : a ≠ b := by omega
  simp [compare, compareOfLessAndEq, h1, h2]
theorem cmp_eq {a b : Int} (h : a = b) : compare a b = .eq := by subst h; simp [compare, compareOfLessAndEq]

theorem signed_eq (s : Bool) (m k : Nat) : signed s m k = if s then -((m * 2 ^ k : Nat) : Int) else ((m * 2 ^ k : Nat) : Int) := by
  unfold signed; rw [Nat.shiftLeft_eq]

/-- signed V -/
def sV (f : Format) (x : Nat) : Int := if ng f x then -(vV f (rg f x) : Int) else vV f (rg f x)

theorem sV_lt (f : Format) (x y : Nat) : sV f x < sV f y ↔ pl f x < pl f y := by
  have h1 := vV_lt_iff f (rg f x) (rg f y)
  have h2 := vV_lt_iff f (rg f y) (rg f x)
  have h3 := vV_inj f (rg f x) 0
  have h4 := vV_inj f (rg f y) 0
  rw [vV_zero] at h3 h4
  unfold sV pl
  cases ng f x <;> cases ng f y <;> simp <;> omega

theorem sV_eq (f : Format) (x y : Nat) : sV f x = sV f y ↔ pl f x = pl f y := by
  have h1 := vV_inj f (rg f x) (rg f y)
  have h3 := vV_inj f (rg f x) 0
  have h4 := vV_inj f (rg f y) 0
  rw [vV_zero] at h3 h4
  unfold sV pl
  cases ng f x <;> cases ng f y <;> simp <;> omega

theorem scale (f : Format) (x : Nat) (b : Int) (c : Nat) (hb : b = f.leastPlace + (c : Nat)) (hc : c ≤ eE f (rg f x)) :
    signed (ng f x) (mM f (rg f x)) (f.leastPlace + (eE f (rg f x) : Nat) - b).toNat * (2 ^ c : Nat) = sV f x := by
  subst hb
  rw [signed_eq, show (f.leastPlace + (eE f (rg f x) : Nat) - (f.leastPlace + (c : Nat)) : Int).toNat = eE f (rg f x) - c from by omega]
  unfold sV vV
  have e : mM f (rg f x) * 2 ^ eE f (rg f x) = mM f (rg f x) * 2 ^ (eE f (rg f x) - c) * 2 ^ c := by
    rw [Nat.mul_assoc, ← Nat.pow_add, Nat.sub_add_cancel hc]
  rw [e]
  cases ng f x
  · simp only [Bool.false_eq_true, if_false]; exact (Int.natCast_mul _ _).symm
  · simp only [if_true]; rw [Int.neg_mul]; congr 1

theorem order_fin (f : Format) (x y : Nat) (hx : rg f x < f.infRung) (hy : rg f y < f.infRung) :
    f.order x y = some (compare (pl f x) (pl f y)) := by
  unfold Format.order
  rw [read_fin f x hx, read_fin f y hy]
  simp only [Datum.order]
  congr 1
  have hm : min (f.leastPlace + (eE f (rg f x) : Nat)) (f.leastPlace + (eE f (rg f y) : Nat)) = f.leastPlace + ((min (eE f (rg f x)) (eE f (rg f y)) : Nat) : Int) := by omega
  have sx := scale f x _ _ hm (Nat.min_le_left _ _)
  have sy := scale f y _ _ hm (Nat.min_le_right _ _)
  have hp : (0 : Int) < ((2 ^ (min (eE f (rg f x)) (eE f (rg f y))) : Nat) : Int) := by exact_mod_cast Nat.two_pow_pos _
  refine cmp_congr ?_ ?_
  · rw [← sV_lt, ← sx, ← sy]
    exact (Int.mul_lt_mul_right hp).symm
  · rw [← sV_eq, ← sx, ← sy]
    constructor
    · intro h; rw [h]
    · intro h; exact Int.eq_of_mul_eq_mul_right (by omega) h

theorem order_num (f : Format) (x y : Nat) (hb : f.binade ≤ f.infRung) (hx : rg f x ≤ f.infRung) (hy : rg f y ≤ f.infRung) :
    f.order x y = some (compare (pl f x) (pl f y)) := by
  have hB := binade_pos f
  by_cases cx : rg f x < f.infRung
  · by_cases cy : rg f y < f.infRung
    · exact order_fin f x y cx cy
    · have ey : rg f y = f.infRung := by omega
      unfold Format.order
      rw [read_fin f x cx, read_inf f y hb ey]
      simp only [Datum.order]
      congr 1
      unfold pl
      rw [ey]
      cases ng f x <;> cases ng f y <;> simp only [Bool.false_eq_true, if_false, if_true] <;> symm <;> first | (apply cmp_lt; omega) | (apply cmp_gt; omega)
  · have ex : rg f x = f.infRung := by omega
    by_cases cy : rg f y < f.infRung
    · unfold Format.order
      rw [read_inf f x hb ex, read_fin f y cy]
      simp only [Datum.order]
      congr 1
      unfold pl
      rw [ex]
      cases ng f x <;> cases ng f y <;> simp only [Bool.false_eq_true, if_false, if_true] <;> symm <;> first | (apply cmp_lt; omega) | (apply cmp_gt; omega)
    · have ey : rg f y = f.infRung := by omega
      unfold Format.order
      rw [read_inf f x hb ex, read_inf f y hb ey]
      simp only [Datum.order]
      congr 1
      unfold pl
      rw [ex, ey]
      cases ng f x <;> cases ng f y <;> simp only [Bool.false_eq_true, if_false, if_true]
      · rw [cmp_eq rfl]; rfl
      · rw [cmp_gt (by omega)]; rfl
      · rw [cmp_lt (by omega)]; rfl
      · rw [cmp_eq rfl]; rfl

theorem order_nan_left (f : Format) (x y : Nat) (hb : f.binade ≤ f.infRung) (hx : f.infRung < rg f x) : f.order x y = none := by
  unfold Format.order; rw [read_nan f x hb hx]; rfl

theorem order_nan_right (f : Format) (x y : Nat) (hb : f.binade ≤ f.infRung) (hy : f.infRung < rg f y) : f.order x y = none := by
  unfold Format.order; rw [read_nan f y hb hy]
  cases f.read x <;> rfl



/-! ### words by sign and rung -/
/-- the place of a sign and a rung -/
def plz (n : Bool) (m : Nat) : Int := if n then -(m : Int) else m
def wD (n : Bool) (m : Nat) : Nat := if n then 9223372036854775808 + m else m
def wS (n : Bool) (m : Nat) : Nat := if n then 2147483648 + m else m

theorem signD : double.signWeight = 9223372036854775808 := by decide +kernel
theorem signS : single.signWeight = 2147483648 := by decide +kernel
theorem infD : double.infRung = 9218868437227405312 := by decide +kernel
theorem infS : single.infRung = 2139095040 := by decide +kernel
theorem binD : double.binade = 4503599627370496 := by decide +kernel
theorem binS : single.binade = 8388608 := by decide +kernel
theorem binfD : double.binade ≤ double.infRung := by rw [binD, infD]; decide
theorem binfS : single.binade ≤ single.infRung := by rw [binS, infS]; decide

theorem rgD (n : Bool) (m : Nat) (h : m < 9223372036854775808) : rg double (wD n m) = m := by
  unfold rg wD; rw [signD]; cases n <;> simp <;> omega
theorem rgS (n : Bool) (m : Nat) (h : m < 2147483648) : rg single (wS n m) = m := by
  unfold rg wS; rw [signS]; cases n <;> simp <;> omega
theorem ngD (n : Bool) (m : Nat) (h : m < 9223372036854775808) : ng double (wD n m) = n := by
  unfold ng wD; rw [signD]; cases n <;> simp <;> omega
theorem ngS (n : Bool) (m : Nat) (h : m < 2147483648) : ng single (wS n m) = n := by
  unfold ng wS; rw [signS]; cases n <;> simp <;> omega

theorem exD (x : Nat) (h : x < 18446744073709551616) : ∃ n m, m < 9223372036854775808 ∧ x = wD n m := by
  by_cases c : x < 9223372036854775808
  · exact ⟨false, x, c, rfl⟩
  · exact ⟨true, x - 9223372036854775808, by omega, by unfold wD; simp; omega⟩
theorem exS (x : Nat) (h : x < 4294967296) : ∃ n m, m < 2147483648 ∧ x = wS n m := by
  by_cases c : x < 2147483648
  · exact ⟨false, x, c, rfl⟩
  · exact ⟨true, x - 2147483648, by omega, by unfold wS; simp; omega⟩

theorem ordD (n n' : Bool) (m m' : Nat) (h : m ≤ 9218868437227405312) (h' : m' ≤ 9218868437227405312) :
    FloatKind.f64.format.order (wD n m) (wD n' m') = some (compare (plz n m) (plz n' m')) := by
  have e := order_num double (wD n m) (wD n' m') binfD (by rw [rgD n m (by omega), infD]; exact h) (by rw [rgD n' m' (by omega), infD]; exact h')
  have p1 : pl double (wD n m) = plz n m := by unfold pl plz; rw [rgD n m (by omega), ngD n m (by omega)]
  have p2 : pl double (wD n' m') = plz n' m' := by unfold pl plz; rw [rgD n' m' (by omega), ngD n' m' (by omega)]
  rw [p1, p2] at e; exact e
theorem ordS (n n' : Bool) (m m' : Nat) (h : m ≤ 2139095040) (h' : m' ≤ 2139095040) :
    FloatKind.f32.format.order (wS n m) (wS n' m') = some (compare (plz n m) (plz n' m')) := by
  have e := order_num single (wS n m) (wS n' m') binfS (by rw [rgS n m (by omega), infS]; exact h) (by rw [rgS n' m' (by omega), infS]; exact h')
  have p1 : pl single (wS n m) = plz n m := by unfold pl plz; rw [rgS n m (by omega), ngS n m (by omega)]
  have p2 : pl single (wS n' m') = plz n' m' := by unfold pl plz; rw [rgS n' m' (by omega), ngS n' m' (by omega)]
  rw [p1, p2] at e; exact e

theorem ordD_nanl (n : Bool) (m y : Nat) (h : 9218868437227405312 < m) (h2 : m < 9223372036854775808) : FloatKind.f64.format.order (wD n m) y = none :=
  order_nan_left double _ _ binfD (by rw [rgD n m h2, infD]; exact h)
theorem ordD_nanr (n : Bool) (m y : Nat) (h : 9218868437227405312 < m) (h2 : m < 9223372036854775808) : FloatKind.f64.format.order y (wD n m) = none :=
  order_nan_right double _ _ binfD (by rw [rgD n m h2, infD]; exact h)
theorem ordS_nanl (n : Bool) (m y : Nat) (h : 2139095040 < m) (h2 : m < 2147483648) : FloatKind.f32.format.order (wS n m) y = none :=
  order_nan_left single _ _ binfS (by rw [rgS n m h2, infS]; exact h)
theorem ordS_nanr (n : Bool) (m y : Nat) (h : 2139095040 < m) (h2 : m < 2147483648) : FloatKind.f32.format.order y (wS n m) = none :=
  order_nan_right single _ _ binfS (by rw [rgS n m h2, infS]; exact h)

theorem xor_top (k m : Nat) (h : m < 2 ^ k) : m ^^^ 2 ^ k = 2 ^ k + m := by
  apply Nat.eq_of_testBit_eq
  intro i
  rw [Nat.testBit_xor, Nat.testBit_two_pow]
  by_cases c : k = i
  · subst c
    rw [Nat.testBit_two_pow_add_eq, Nat.testBit_lt_two_pow h]; simp
  · by_cases d : i < k
    · rw [Nat.testBit_two_pow_add_gt d]; simp [c]
    · have g : k < i := by omega
      have l1 : m < 2 ^ i := Nat.lt_of_lt_of_le h (Nat.pow_le_pow_right (by decide) (by omega))
      have l2 : 2 ^ k + m < 2 ^ i := Nat.lt_of_lt_of_le (by rw [Nat.pow_succ]; omega : 2 ^ k + m < 2 ^ (k + 1)) (Nat.pow_le_pow_right (by decide) (by omega))
      rw [Nat.testBit_lt_two_pow l1, Nat.testBit_lt_two_pow l2]; simp [c]

theorem negD (n : Bool) (m : Nat) (h : m < 9223372036854775808) : Op.negFloat .f64 (wD n m) = wD (!n) m := by
  have e := xor_top 63 m h
  have h2 : Op.negFloat .f64 (wD n m) = wD n m ^^^ 2 ^ 63 := rfl
  rw [h2]
  cases n
  · show m ^^^ 2 ^ 63 = _; rw [e]; rfl
  · show (2 ^ 63 + m) ^^^ 2 ^ 63 = m
    rw [← e, Nat.xor_assoc, Nat.xor_self, Nat.xor_zero]
theorem negS (n : Bool) (m : Nat) (h : m < 2147483648) : Op.negFloat .f32 (wS n m) = wS (!n) m := by
  have e := xor_top 31 m h
  have h2 : Op.negFloat .f32 (wS n m) = wS n m ^^^ 2 ^ 31 := rfl
  rw [h2]
  cases n
  · show m ^^^ 2 ^ 31 = _; rw [e]; rfl
  · show (2 ^ 31 + m) ^^^ 2 ^ 31 = m
    rw [← e, Nat.xor_assoc, Nat.xor_self, Nat.xor_zero]

/-! ### the pattern's two bit operations -/
theorem andD (n : Bool) (m : Nat) (h : m < 9223372036854775808) : RowKit.wrap64 (bits .andNot .u64 ((wD n m : Nat) : Int) 9223372036854775808) = (m : Int) := by
  have e := u64_andNot_nat (wD n m) 9223372036854775808 (by unfold wD; split <;> omega) (by decide)
  have e2 : wD n m &&& (18446744073709551615 - 9223372036854775808) = m := by
    have := Nat.and_two_pow_sub_one_eq_mod (wD n m) 63
    rw [show (18446744073709551615 - 9223372036854775808 : Nat) = 2 ^ 63 - 1 from by decide, this]
    unfold wD; split <;> omega
  rw [e2] at e
  have e3 : bits .andNot .u64 ((wD n m : Nat) : Int) 9223372036854775808 = (m : Int) := e
  rw [e3]; unfold RowKit.wrap64; omega
theorem andS (n : Bool) (m : Nat) (h : m < 2147483648) : RowKit.wrap64 (bits .andNot .u32 ((wS n m : Nat) : Int) 2147483648) = (m : Int) := by
  have e := u32_andNot_nat (wS n m) 2147483648 (by unfold wS; split <;> omega) (by decide)
  have e2 : wS n m &&& (4294967295 - 2147483648) = m := by
    have := Nat.and_two_pow_sub_one_eq_mod (wS n m) 31
    rw [show (4294967295 - 2147483648 : Nat) = 2 ^ 31 - 1 from by decide, this]
    unfold wS; split <;> omega
  rw [e2] at e
  have e3 : bits .andNot .u32 ((wS n m : Nat) : Int) 2147483648 = (m : Int) := e
  rw [e3]; unfold RowKit.wrap64; omega
theorem shrD (n : Bool) (m : Nat) (h : m < 9223372036854775808) : (((wD n m : Nat) : Int) / 9223372036854775808 != 0) = n := by
  unfold wD; cases n <;> simp <;> omega
theorem shrS (n : Bool) (m : Nat) (h : m < 2147483648) : (((wS n m : Nat) : Int) / 2147483648 != 0) = n := by
  unfold wS; cases n <;> simp <;> omega


theorem wrapU {x : Int} (h : 0 ≤ x) (h2 : x < 18446744073709551616) : IntKind.u64.wrap x = x := by
  rw [IntKind.wrap_u64]; omega
theorem wrapI {x : Int} (h : -9223372036854775808 ≤ x) (h2 : x < 9223372036854775808) : wrap64 x = x := by
  unfold wrap64; omega
theorem bitsR (B u s r : Int) (h0 : 0 ≤ u) (hu : u < 18446744073709551616) (h1 : 0 ≤ u * B) (h2 : u * B + s < 18446744073709551616) (hs : B ≤ s ∧ 0 ≤ B) (hr : u * B + s - B = r) :
    IntKind.u64.wrap (IntKind.u64.wrap (IntKind.u64.wrap (IntKind.u64.wrap u * B) + s) - B) = r := by
  rw [wrapU h0 hu, wrapU h1 (by omega), wrapU (by omega) h2, wrapU (by omega) (by omega), hr]
def kdG (I : Nat) (m : Nat) : Int := if m < I then 0 else if m = I then 1 else 2
def sgG (B I : Nat) (m : Nat) : Nat := if m < B then m else if m < I then B + m % B else m % B
def epG (L : Int) (B I : Nat) (m : Nat) : Int := if m < B then L else if m < I then L + (m / B : Nat) - 1 else L
def kdD := kdG 9218868437227405312
def sgD := sgG 4503599627370496 9218868437227405312
def epD := epG (-1074) 4503599627370496 9218868437227405312
def kdS := kdG 2139095040
def sgS := sgG 8388608 2139095040
def epS := epG (-149) 8388608 2139095040

theorem eqzD (n : Bool) (m : Nat) (h : m < 9223372036854775808) : (FloatKind.f64.format.order (wD n m) 0 == some .eq) = (m == 0) := by
  by_cases c : 9218868437227405312 < m
  · rw [ordD_nanl n m 0 c h]; simp; omega
  · have e : FloatKind.f64.format.order (wD n m) 0 = some (compare (plz n m) 0) := ordD n false m 0 (by omega) (by omega)
    rw [e]; by_cases d : m = 0
    · subst d; rw [cmp_eq (by unfold plz; split <;> rfl)]; simp
    · have hd : (m == 0) = false := by simp [d]
      rw [hd]
      cases n
      · rw [cmp_gt (by show (0:Int) < (m : Int); omega)]; rfl
      · rw [cmp_lt (by show -(m : Int) < 0; omega)]; rfl
theorem eqzS (n : Bool) (m : Nat) (h : m < 2147483648) : (FloatKind.f32.format.order (wS n m) 0 == some .eq) = (m == 0) := by
  by_cases c : 2139095040 < m
  · rw [ordS_nanl n m 0 c h]; simp; omega
  · have e : FloatKind.f32.format.order (wS n m) 0 = some (compare (plz n m) 0) := ordS n false m 0 (by omega) (by omega)
    rw [e]; by_cases d : m = 0
    · subst d; rw [cmp_eq (by unfold plz; split <;> rfl)]; simp
    · have hd : (m == 0) = false := by simp [d]
      rw [hd]
      cases n
      · rw [cmp_gt (by show (0:Int) < (m : Int); omega)]; rfl
      · rw [cmp_lt (by show -(m : Int) < 0; omega)]; rfl
def rkG (I : Nat) (n : Bool) (m : Nat) : Int := if I < m then 9223372036854775807 else plz n m - (if n then 1 else 0)
def rkD := rkG 9218868437227405312
def rkS := rkG 2139095040
def sto (p q : Int) : Bool := decide (-9223372036854775808 ≤ q - p ∧ q - p ≤ 9223372036854775807)
def stv (p q : Int) : Int := if -9223372036854775808 ≤ q - p ∧ q - p ≤ 9223372036854775807 then q - p else 0
theorem sto_def (p q : Int) : sto p q = decide (-9223372036854775808 ≤ q - p ∧ q - p ≤ 9223372036854775807) := rfl
theorem stv_def (p q : Int) : stv p q = if -9223372036854775808 ≤ q - p ∧ q - p ≤ 9223372036854775807 then q - p else 0 := rfl
def sti (I : Nat) (n : Bool) (m : Nat) (n' : Bool) (m' : Nat) : Int := if I < m ∨ I < m' then 0 else stv (plz n m) (plz n' m')
def stb (I : Nat) (n : Bool) (m : Nat) (n' : Bool) (m' : Nat) : Bool := if I < m ∨ I < m' then false else sto (plz n m) (plz n' m')
theorem wrapQ {x : Int} (h : -27670116110564327424 ≤ x) (h2 : x < 27670116110564327424) : (x < -9223372036854775808 ∧ wrap64 x = x + 18446744073709551616) ∨ (9223372036854775807 < x ∧ wrap64 x = x - 18446744073709551616) ∨ (-9223372036854775808 ≤ x ∧ x ≤ 9223372036854775807 ∧ wrap64 x = x) := by
  unfold wrap64; omega
def cmpz (x y : Int) : Int := if x < y then -1 else if y < x then 1 else 0

theorem plz_bd (n : Bool) (m : Nat) : -(m : Int) ≤ plz n m ∧ plz n m ≤ m := by unfold plz; cases n <;> simp <;> omega

def fD (p : Int) : Nat := wD (decide (p < 0)) p.natAbs
def fS (p : Int) : Nat := wS (decide (p < 0)) p.natAbs

def clsG (I B : Nat) (n : Bool) (m : Nat) : Int :=
  if I < m then 0 else
  let k : Int := if m = I then 3 else if B ≤ m then 2 else if 0 < m then 1 else 0
  if n then 4 - k else 5 + k
def clsD := clsG 9218868437227405312 4503599627370496
def clsS := clsG 2139095040 8388608
end Fq
namespace Fq
open Ieee

theorem cut_zero (neg : Bool) (n : Nat) : Toward.even.cut neg n 0 = n := by
  unfold Toward.cut
  simp [Nat.mod_one]

theorem log2_mul_pow (M e : Nat) (h : M ≠ 0) : (M * 2 ^ e).log2 = M.log2 + e := by
  have hp : M * 2 ^ e ≠ 0 := by
    have := Nat.two_pow_pos e
    exact Nat.mul_ne_zero h (by omega)
  refine (Nat.log2_eq_iff hp).2 ⟨?_, ?_⟩
  · rw [Nat.pow_add]; exact Nat.mul_le_mul_right _ (Nat.log2_self_le h)
  · rw [show M.log2 + e + 1 = M.log2 + 1 + e from by omega, Nat.pow_add]
    exact Nat.mul_lt_mul_of_pos_right Nat.lt_log2_self (Nat.two_pow_pos e)

theorem cut_exact (neg : Bool) (M e : Nat) (h : M ≠ 0) : Toward.even.cut neg (M * 2 ^ e) e = M := by
  unfold Toward.cut
  have hm : min e ((M * 2 ^ e).log2 + 2) = e := by rw [log2_mul_pow M e h]; omega
  have hp := Nat.two_pow_pos e
  simp only [hm, Nat.shiftLeft_eq, Nat.one_mul, Nat.mul_div_cancel _ hp, Nat.mul_mod_left]
  simp

/-- the rung that 'nearest' finds -/
def nrung (f : Format) (neg : Bool) (mag : Nat) : Nat :=
  let last := max ((0 : Int) + mag.log2 - f.fractionBits) f.leastPlace
  min ((last - f.leastPlace).toNat * f.binade + Toward.even.cut neg (mag <<< ((0 : Int) - last).toNat) (last - 0).toNat) f.infRung

theorem nearest_rung (f : Format) (neg : Bool) (mag : Nat) (h : mag ≠ 0) : f.nearest neg mag 0 = f.word neg (nrung f neg mag) := by
  unfold Format.nearest nrung
  rw [if_neg h]

theorem vV_of (f : Format) (q k : Nat) (h1 : f.binade ≤ k) (h2 : k < 2 * f.binade) : vV f (q * f.binade + k) = k * 2 ^ q := by
  have hB := binade_pos f
  unfold vV mM eE
  have e1 : ¬ (q * f.binade + k < f.binade) := by have := Nat.zero_le (q * f.binade); omega
  have e2 : (q * f.binade + k) / f.binade = q + 1 := by
    rw [show q * f.binade + k = (k - f.binade) + (q + 1) * f.binade from by rw [Nat.add_mul]; omega, Nat.add_mul_div_right _ _ hB, Nat.div_eq_of_lt (by omega)]; omega
  have e3 : (q * f.binade + k) % f.binade = k - f.binade := by
    rw [show q * f.binade + k = (k - f.binade) + (q + 1) * f.binade from by rw [Nat.add_mul]; omega, Nat.add_mul_mod_self_right, Nat.mod_eq_of_lt (by omega)]
  rw [if_neg e1, if_neg e1, e2, e3, show f.binade + (k - f.binade) = k from by omega, Nat.add_sub_cancel]

/-- an integer of no more bits than a significand is written as it is -/
theorem near_small (f : Format) (neg : Bool) (t : Nat) (ht : t ≠ 0) (h : t < 2 ^ (f.fractionBits + 1)) (hl : f.leastPlace ≤ -(f.fractionBits : Int)) (hi : (-f.leastPlace).toNat + 2 ≤ 2 ^ f.exponentBits - 1) :
    nrung f neg t < f.infRung ∧ vV f (nrung f neg t) = t * 2 ^ (-f.leastPlace).toNat := by
  have hL : t.log2 ≤ f.fractionBits := by
    have := (Nat.log2_lt ht).2 h; omega
  have hlo := Nat.log2_self_le ht
  have hhi : t < 2 ^ (t.log2 + 1) := Nat.lt_log2_self
  have hlast : max ((0 : Int) + t.log2 - f.fractionBits) f.leastPlace = (t.log2 : Int) - f.fractionBits := by omega
  obtain ⟨q, hq⟩ : ∃ q : Nat, (q : Int) = (t.log2 : Int) - f.fractionBits - f.leastPlace := ⟨((t.log2 : Int) - f.fractionBits - f.leastPlace).toNat, by omega⟩
  have hB : f.binade = 2 ^ f.fractionBits := rfl
  have k1 : f.binade ≤ t * 2 ^ (f.fractionBits - t.log2) := by
    rw [hB]
    calc 2 ^ f.fractionBits = 2 ^ t.log2 * 2 ^ (f.fractionBits - t.log2) := by rw [← Nat.pow_add]; congr 1; omega
      _ ≤ _ := Nat.mul_le_mul_right _ hlo
  have k2 : t * 2 ^ (f.fractionBits - t.log2) < 2 * f.binade := by
    rw [hB]
    calc t * 2 ^ (f.fractionBits - t.log2) < 2 ^ (t.log2 + 1) * 2 ^ (f.fractionBits - t.log2) := Nat.mul_lt_mul_of_pos_right hhi (Nat.two_pow_pos _)
      _ = 2 * 2 ^ f.fractionBits := by rw [← Nat.pow_add, Nat.mul_comm 2, ← Nat.pow_succ]; congr 1; omega
  have hr : nrung f neg t = min (q * f.binade + t * 2 ^ (f.fractionBits - t.log2)) f.infRung := by
    unfold nrung
    simp only [hlast]
    rw [show ((t.log2 : Int) - f.fractionBits - f.leastPlace).toNat = q from by omega,
      show ((0 : Int) - ((t.log2 : Int) - f.fractionBits)).toNat = f.fractionBits - t.log2 from by omega,
      show ((t.log2 : Int) - f.fractionBits - 0).toNat = 0 from by omega, cut_zero, Nat.shiftLeft_eq]
  have hlt : q * f.binade + t * 2 ^ (f.fractionBits - t.log2) < f.infRung := by
    unfold Format.infRung
    have : q + 2 ≤ 2 ^ f.exponentBits - 1 := by omega
    calc _ < q * f.binade + 2 * f.binade := by omega
      _ = (q + 2) * f.binade := by rw [Nat.add_mul]
      _ ≤ _ := Nat.mul_le_mul_right _ this
  rw [hr, Nat.min_eq_left (by omega)]
  refine ⟨hlt, ?_⟩
  rw [vV_of f q _ k1 k2, Nat.mul_assoc, ← Nat.pow_add]
  congr 2; omega

/-- so is a full significand times a power of 2 -/
theorem near_great (f : Format) (neg : Bool) (M e : Nat) (h1 : f.binade ≤ M) (h2 : M < 2 * f.binade) (hl : f.leastPlace ≤ 0) (hi : e + (-f.leastPlace).toNat + 2 ≤ 2 ^ f.exponentBits - 1) :
    nrung f neg (M * 2 ^ e) < f.infRung ∧ vV f (nrung f neg (M * 2 ^ e)) = M * 2 ^ e * 2 ^ (-f.leastPlace).toNat := by
  have hB := binade_pos f
  have hM : M ≠ 0 := by omega
  have hBf : f.binade = 2 ^ f.fractionBits := rfl
  have hlg : M.log2 = f.fractionBits := by
    refine (Nat.log2_eq_iff hM).2 ⟨by rw [← hBf]; exact h1, ?_⟩
    rw [Nat.pow_succ, ← hBf]; omega
  have hlast : max ((0 : Int) + (M * 2 ^ e).log2 - f.fractionBits) f.leastPlace = (e : Int) := by
    rw [log2_mul_pow M e hM, hlg]; omega
  obtain ⟨q, hq⟩ : ∃ q : Nat, (q : Int) = (e : Int) - f.leastPlace := ⟨((e : Int) - f.leastPlace).toNat, by omega⟩
  have hr : nrung f neg (M * 2 ^ e) = min (q * f.binade + M) f.infRung := by
    unfold nrung
    simp only [hlast]
    rw [show ((e : Int) - f.leastPlace).toNat = q from by omega, show ((0 : Int) - (e : Int)).toNat = 0 from by omega,
      show ((e : Int) - 0).toNat = e from by omega, Nat.shiftLeft_zero, cut_exact neg M e hM]
  have hlt : q * f.binade + M < f.infRung := by
    unfold Format.infRung
    have : q + 2 ≤ 2 ^ f.exponentBits - 1 := by omega
    calc _ < q * f.binade + 2 * f.binade := by omega
      _ = (q + 2) * f.binade := by rw [Nat.add_mul]
      _ ≤ _ := Nat.mul_le_mul_right _ this
  rw [hr, Nat.min_eq_left (by omega)]
  refine ⟨hlt, ?_⟩
  rw [vV_of f q _ h1 h2, Nat.mul_assoc, ← Nat.pow_add]
  congr 2; omega


/-- cut towards zero: the quotient -/
theorem cut_trunc (neg : Bool) (n drop : Nat) : Toward.zero.cut neg n drop = n / 2 ^ drop := by
  unfold Toward.cut
  simp only [Nat.shiftLeft_eq, Nat.one_mul, Bool.toNat_false, Nat.add_zero]
  by_cases c : drop ≤ n.log2 + 2
  · rw [Nat.min_eq_left c]
  · rw [Nat.min_eq_right (by omega)]
    have h0 : n < 2 ^ (n.log2 + 2) := Nat.lt_of_lt_of_le Nat.lt_log2_self (Nat.pow_le_pow_right (by decide) (by omega))
    rw [Nat.div_eq_of_lt h0, Nat.div_eq_of_lt (Nat.lt_of_lt_of_le h0 (Nat.pow_le_pow_right (by decide) (by omega)))]

/-- a finite word as an integer, cut towards zero: its value by the least place's unit -/
theorem toInt_word (f : Format) (x : Nat) (h : rg f x < f.infRung) (hl : f.leastPlace ≤ 0) :
    (f.read x).toInt .zero = some (if ng f x then -((vV f (rg f x) / 2 ^ (-f.leastPlace).toNat : Nat) : Int) else ((vV f (rg f x) / 2 ^ (-f.leastPlace).toNat : Nat) : Int)) := by
  rw [read_fin f x h]
  simp only [Datum.toInt, Datum.integral]
  rw [cut_trunc, signed_eq, Nat.pow_zero, Nat.mul_one, Nat.shiftLeft_eq]
  have key : mM f (rg f x) * 2 ^ (f.leastPlace + (eE f (rg f x) : Nat)).toNat / 2 ^ (-(f.leastPlace + (eE f (rg f x) : Nat))).toNat = vV f (rg f x) / 2 ^ (-f.leastPlace).toNat := by
    unfold vV
    by_cases c : 0 ≤ f.leastPlace + (eE f (rg f x) : Nat)
    · rw [show (-(f.leastPlace + (eE f (rg f x) : Nat))).toNat = 0 from by omega, Nat.pow_zero, Nat.div_one]
      rw [show eE f (rg f x) = (f.leastPlace + (eE f (rg f x) : Nat)).toNat + (-f.leastPlace).toNat from by omega, Nat.pow_add, ← Nat.mul_assoc, Nat.mul_div_cancel _ (Nat.two_pow_pos _)]
      congr 2; omega
    · rw [show (f.leastPlace + (eE f (rg f x) : Nat)).toNat = 0 from by omega, Nat.pow_zero, Nat.mul_one]
      rw [show (-f.leastPlace).toNat = (-(f.leastPlace + (eE f (rg f x) : Nat))).toNat + eE f (rg f x) from by omega, Nat.pow_add, Nat.mul_div_mul_right _ _ (Nat.two_pow_pos _)]
  rw [key]

/-- the rung of an integer's word -/
def zr (f : Format) (z : Int) : Nat := if z = 0 then 0 else nrung f (decide (z < 0)) z.natAbs

theorem ofIntD (z : Int) : floatOfInt .f64 z = wD (decide (z < 0)) (zr double z) := by
  unfold floatOfInt FloatKind.nearest FloatKind.encode zr
  show double.nearest (decide (z < 0)) z.natAbs 0 = _
  by_cases c : z = 0
  · subst c; rfl
  · rw [nearest_rung double _ _ (by omega), if_neg c]; unfold Format.word wD; rw [signD]
theorem ofIntS (z : Int) : floatOfInt .f32 z = wS (decide (z < 0)) (zr single z) := by
  unfold floatOfInt FloatKind.nearest FloatKind.encode zr
  show single.nearest (decide (z < 0)) z.natAbs 0 = _
  by_cases c : z = 0
  · subst c; rfl
  · rw [nearest_rung single _ _ (by omega), if_neg c]; unfold Format.word wS; rw [signS]

theorem lpD : double.leastPlace = -1074 := by decide +kernel
theorem lpS : single.leastPlace = -149 := by decide +kernel

/-- what is cut off a finite word, written again: its rung's value is the whole part -/
theorem back_val (f : Format) (neg : Bool) (m : Nat) (h0 : vV f m / 2 ^ (-f.leastPlace).toNat ≠ 0) (hm : m < f.infRung) (hl : f.leastPlace ≤ -(f.fractionBits : Int)) (hi : (-f.leastPlace).toNat + 2 ≤ 2 ^ f.exponentBits - 1) :
    nrung f neg (vV f m / 2 ^ (-f.leastPlace).toNat) < f.infRung ∧ vV f (nrung f neg (vV f m / 2 ^ (-f.leastPlace).toNat)) = vV f m / 2 ^ (-f.leastPlace).toNat * 2 ^ (-f.leastPlace).toNat := by
  have hB := binade_pos f
  have hBf : f.binade = 2 ^ f.fractionBits := rfl
  by_cases c : eE f m ≤ (-f.leastPlace).toNat
  · refine near_small f neg _ h0 ?_ hl hi
    have hM : mM f m < 2 * f.binade := by
      unfold mM; split
      · omega
      · have := Nat.mod_lt m hB; omega
    have : vV f m / 2 ^ (-f.leastPlace).toNat ≤ mM f m := by
      unfold vV
      refine Nat.div_le_of_le_mul ?_
      rw [Nat.mul_comm]
      exact Nat.mul_le_mul_right _ (Nat.pow_le_pow_right (by decide) c)
    rw [Nat.pow_succ, ← hBf]; omega
  · have hb : ¬ m < f.binade := by
      intro hc; apply c; unfold eE; rw [if_pos hc]; omega
    have hM1 : f.binade ≤ mM f m := by unfold mM; rw [if_neg hb]; omega
    have hM2 : mM f m < 2 * f.binade := by unfold mM; rw [if_neg hb]; have := Nat.mod_lt m hB; omega
    have he : vV f m / 2 ^ (-f.leastPlace).toNat = mM f m * 2 ^ (eE f m - (-f.leastPlace).toNat) := by
      unfold vV
      rw [show eE f m = eE f m - (-f.leastPlace).toNat + (-f.leastPlace).toNat from by omega, Nat.pow_add, ← Nat.mul_assoc, Nat.mul_div_cancel _ (Nat.two_pow_pos _)]
      congr 2; omega
    rw [he]
    refine near_great f neg _ _ hM1 hM2 (by omega) ?_
    have hE : eE f m + 2 ≤ 2 ^ f.exponentBits - 1 := by
      unfold eE; rw [if_neg hb]
      have h1 : m / f.binade < 2 ^ f.exponentBits - 1 := (Nat.div_lt_iff_lt_mul hB).2 hm
      have h2 : 1 ≤ m / f.binade := (Nat.le_div_iff_mul_le hB).2 (by omega)
      omega
    omega


theorem pow3 (a b c d : Nat) (h : a + b = c + d) : 2 ^ a * 2 ^ b = 2 ^ c * 2 ^ d := by rw [← Nat.pow_add, ← Nat.pow_add, h]
theorem top3 (a b c d x u k : Nat) (hb : x = 2 ^ a) (hu : u = 2 ^ d) (hk : k = 2 ^ c) (h : a + b = c + d) : x * 2 ^ b = k * u := by rw [hb, hu, hk]; exact pow3 a b c d h

def unD : Nat := 2 ^ (-double.leastPlace).toNat
def vlD (m : Nat) : Nat := vV double m
def tqD (m : Nat) : Nat := vlD m / unD
def wvD (n : Bool) (m : Nat) : Int := if n then -(tqD m : Int) else (tqD m : Int)
def inrD (n : Bool) (m : Nat) : Bool := decide (m < 4890909195324358656) || (n && decide (m = 4890909195324358656))
def wokD (n : Bool) (m : Nat) : Bool := inrD n m && decide (vlD m % unD = 0)
theorem unD_pos : 0 < unD := Nat.two_pow_pos _
theorem unD_eq : 2 ^ (-double.leastPlace).toNat = unD := rfl
theorem unD_two : unD = 2 ^ 1074 := by
  unfold unD; congr 1
theorem vlD_top : vlD 4890909195324358656 = 9223372036854775808 * unD := by
  have hb : double.binade = 2 ^ 52 := rfl
  have e : (4890909195324358656 : Nat) = 1085 * double.binade + double.binade := by rw [binD]
  have h63 : (9223372036854775808 : Nat) = 2 ^ 63 := by decide
  have e2 : vV double (1085 * double.binade + double.binade) = double.binade * 2 ^ 1085 := vV_of double 1085 _ (Nat.le_refl _) (by have := binade_pos double; omega)
  have e3 : vlD 4890909195324358656 = double.binade * 2 ^ 1085 := (congrArg (vV double) e).trans e2
  exact e3.trans (top3 52 1085 63 1074 _ _ _ hb unD_two h63 rfl)
theorem inrD_lt (n : Bool) (m : Nat) (h : inrD n m = true) : m < 9218868437227405312 ∧ tqD m ≤ 9223372036854775808 ∧ (n = false → tqD m < 9223372036854775808) := by
  unfold tqD
  have ht := vlD_top
  have hp := unD_pos
  unfold inrD at h
  simp only [Bool.or_eq_true, Bool.and_eq_true, decide_eq_true_eq] at h
  rcases h with h | ⟨h1, h2⟩
  · have hv : vlD m < 9223372036854775808 * unD := by rw [← ht]; exact vV_lt double h
    have := (Nat.div_lt_iff_lt_mul hp).2 hv
    exact ⟨by omega, by omega, fun _ => this⟩
  · subst h2
    rw [ht, Nat.mul_div_cancel _ hp]
    exact ⟨by omega, by omega, fun hn => by rw [hn] at h1; cases h1⟩
theorem convD (n : Bool) (m : Nat) (h : inrD n m = true) : floatToIntVal .f64 (wD n m) .i64 = some (wvD n m) := by
  obtain ⟨a1, a2, a3⟩ := inrD_lt n m h
  have e := toInt_word double (wD n m) (by rw [rgD n m (by omega), infD]; exact a1) (by rw [lpD]; omega)
  rw [rgD n m (by omega), ngD n m (by omega), unD_eq] at e
  have e2 : (FloatKind.f64.decode (wD n m)).toInt .zero = some (wvD n m) := e
  unfold floatToIntVal
  rw [e2]
  have hb : IntKind.i64.min ≤ wvD n m ∧ wvD n m ≤ IntKind.i64.max := by
    have m1 : IntKind.i64.min = -9223372036854775808 := by decide
    have m2 : IntKind.i64.max = 9223372036854775807 := by decide
    rw [m1, m2]
    unfold wvD
    cases n
    · have := a3 rfl; simp only [Bool.false_eq_true, if_false]; omega
    · simp only [if_true]; omega
  simp only [hb, and_self, if_true]
theorem backordD (n : Bool) (m : Nat) (h : inrD n m = true) : (FloatKind.f64.format.order (floatOfInt .f64 (wvD n m)) (wD n m) != some .eq) = !decide (vlD m % unD = 0) := by
  obtain ⟨a1, a2, a3⟩ := inrD_lt n m h
  have hp := unD_pos
  have hdm := Nat.div_add_mod (vlD m) unD
  rw [ofIntD]
  by_cases c : vlD m / unD = 0
  · have ez : wvD n m = 0 := by
      have c' : tqD m = 0 := c
      unfold wvD; rw [c']; cases n <;> rfl
    rw [ez]
    have hz : zr double 0 = 0 := rfl
    rw [hz, show (decide ((0 : Int) < 0)) = false from by decide, ordD false n 0 m (by omega) (by omega)]
    have hv0 := vV_inj double m 0
    rw [vV_zero] at hv0
    have hv : vlD m = 0 ↔ m = 0 := hv0
    rw [c, Nat.mul_zero, Nat.zero_add] at hdm
    have hpl : plz n m = 0 ↔ m = 0 := by unfold plz; cases n <;> simp
    by_cases d : m = 0
    · have hm0 : vlD m % unD = 0 := by rw [hdm]; exact hv.2 d
      rw [cmp_eq (by rw [hpl.2 d]; rfl), decide_eq_true hm0]; rfl
    · have hm0 : ¬ vlD m % unD = 0 := by rw [hdm]; exact fun hh => d (hv.1 hh)
      rw [decide_eq_false hm0]
      have : plz n m ≠ 0 := fun hh => d (hpl.1 hh)
      rcases (by omega : plz n m < 0 ∨ 0 < plz n m) with q | q
      · rw [cmp_gt (by show plz n m < plz false 0; exact q)]; rfl
      · rw [cmp_lt (by show plz false 0 < plz n m; exact q)]; rfl
  · have c' : ¬ tqD m = 0 := c
    have hneg : decide (wvD n m < 0) = n := by
      unfold wvD; cases n
      · simp only [Bool.false_eq_true, if_false]; rw [decide_eq_false]; omega
      · simp only [if_true]; rw [decide_eq_true]; omega
    have habs : (wvD n m).natAbs = tqD m := by unfold wvD; cases n <;> simp
    have hnz : wvD n m ≠ 0 := by intro hh; rw [hh] at habs; simp at habs; omega
    have bv := back_val double n m (by rw [unD_eq]; exact c) (by rw [infD]; exact a1) (by rw [lpD]; decide) (by rw [lpD]; decide)
    rw [unD_eq] at bv
    have hzr : zr double (wvD n m) = nrung double n (vV double m / unD) := by unfold zr; rw [if_neg hnz, hneg, habs]; rfl
    rw [hneg, hzr]
    rw [infD] at bv
    obtain ⟨b1, b2⟩ := bv
    rw [ordD n n _ m (by omega) (by omega)]
    have hi := vV_inj double (nrung double n (vV double m / unD)) m
    rw [b2] at hi
    have hdm2 : unD * (vV double m / unD) + vV double m % unD = vV double m := Nat.div_add_mod _ _
    rw [Nat.mul_comm] at hdm2
    obtain ⟨r, hr⟩ : ∃ r : Nat, r = nrung double n (vV double m / unD) := ⟨_, rfl⟩
    rw [← hr] at hi ⊢
    by_cases d : vlD m % unD = 0
    · have d' : vV double m % unD = 0 := d
      have e : r = m := hi.1 (by omega)
      rw [cmp_eq (by rw [e]), decide_eq_true d]; rfl
    · have d' : ¬ vV double m % unD = 0 := d
      have e : r ≠ m := fun hh => d' (by have := hi.2 hh; omega)
      rw [decide_eq_false d]
      have : plz n r ≠ plz n m := by unfold plz; cases n <;> simp <;> omega
      rcases (by omega : plz n r < plz n m ∨ plz n m < plz n r) with q | q
      · rw [cmp_lt q]; rfl
      · rw [cmp_gt q]; rfl

def unS : Nat := 2 ^ (-single.leastPlace).toNat
def vlS (m : Nat) : Nat := vV single m
def tqS (m : Nat) : Nat := vlS m / unS
def wvS (n : Bool) (m : Nat) : Int := if n then -(tqS m : Int) else (tqS m : Int)
def inrS (n : Bool) (m : Nat) : Bool := decide (m < 1593835520) || (n && decide (m = 1593835520))
def wokS (n : Bool) (m : Nat) : Bool := inrS n m && decide (vlS m % unS = 0)
theorem unS_pos : 0 < unS := Nat.two_pow_pos _
theorem unS_eq : 2 ^ (-single.leastPlace).toNat = unS := rfl
theorem unS_two : unS = 2 ^ 149 := by
  unfold unS; congr 1
theorem vlS_top : vlS 1593835520 = 9223372036854775808 * unS := by
  have hb : single.binade = 2 ^ 23 := rfl
  have e : (1593835520 : Nat) = 189 * single.binade + single.binade := by rw [binS]
  have h63 : (9223372036854775808 : Nat) = 2 ^ 63 := by decide
  have e2 : vV single (189 * single.binade + single.binade) = single.binade * 2 ^ 189 := vV_of single 189 _ (Nat.le_refl _) (by have := binade_pos single; omega)
  have e3 : vlS 1593835520 = single.binade * 2 ^ 189 := (congrArg (vV single) e).trans e2
  exact e3.trans (top3 23 189 63 149 _ _ _ hb unS_two h63 rfl)
theorem inrS_lt (n : Bool) (m : Nat) (h : inrS n m = true) : m < 2139095040 ∧ tqS m ≤ 9223372036854775808 ∧ (n = false → tqS m < 9223372036854775808) := by
  unfold tqS
  have ht := vlS_top
  have hp := unS_pos
  unfold inrS at h
  simp only [Bool.or_eq_true, Bool.and_eq_true, decide_eq_true_eq] at h
  rcases h with h | ⟨h1, h2⟩
  · have hv : vlS m < 9223372036854775808 * unS := by rw [← ht]; exact vV_lt single h
    have := (Nat.div_lt_iff_lt_mul hp).2 hv
    exact ⟨by omega, by omega, fun _ => this⟩
  · subst h2
    rw [ht, Nat.mul_div_cancel _ hp]
    exact ⟨by omega, by omega, fun hn => by rw [hn] at h1; cases h1⟩
theorem convS (n : Bool) (m : Nat) (h : inrS n m = true) : floatToIntVal .f32 (wS n m) .i64 = some (wvS n m) := by
  obtain ⟨a1, a2, a3⟩ := inrS_lt n m h
  have e := toInt_word single (wS n m) (by rw [rgS n m (by omega), infS]; exact a1) (by rw [lpS]; omega)
  rw [rgS n m (by omega), ngS n m (by omega), unS_eq] at e
  have e2 : (FloatKind.f32.decode (wS n m)).toInt .zero = some (wvS n m) := e
  unfold floatToIntVal
  rw [e2]
  have hb : IntKind.i64.min ≤ wvS n m ∧ wvS n m ≤ IntKind.i64.max := by
    have m1 : IntKind.i64.min = -9223372036854775808 := by decide
    have m2 : IntKind.i64.max = 9223372036854775807 := by decide
    rw [m1, m2]
    unfold wvS
    cases n
    · have := a3 rfl; simp only [Bool.false_eq_true, if_false]; omega
    · simp only [if_true]; omega
  simp only [hb, and_self, if_true]
theorem backordS (n : Bool) (m : Nat) (h : inrS n m = true) : (FloatKind.f32.format.order (floatOfInt .f32 (wvS n m)) (wS n m) != some .eq) = !decide (vlS m % unS = 0) := by
  obtain ⟨a1, a2, a3⟩ := inrS_lt n m h
  have hp := unS_pos
  have hdm := Nat.div_add_mod (vlS m) unS
  rw [ofIntS]
  by_cases c : vlS m / unS = 0
  · have ez : wvS n m = 0 := by
      have c' : tqS m = 0 := c
      unfold wvS; rw [c']; cases n <;> rfl
    rw [ez]
    have hz : zr single 0 = 0 := rfl
    rw [hz, show (decide ((0 : Int) < 0)) = false from by decide, ordS false n 0 m (by omega) (by omega)]
    have hv0 := vV_inj single m 0
    rw [vV_zero] at hv0
    have hv : vlS m = 0 ↔ m = 0 := hv0
    rw [c, Nat.mul_zero, Nat.zero_add] at hdm
    have hpl : plz n m = 0 ↔ m = 0 := by unfold plz; cases n <;> simp
    by_cases d : m = 0
    · have hm0 : vlS m % unS = 0 := by rw [hdm]; exact hv.2 d
      rw [cmp_eq (by rw [hpl.2 d]; rfl), decide_eq_true hm0]; rfl
    · have hm0 : ¬ vlS m % unS = 0 := by rw [hdm]; exact fun hh => d (hv.1 hh)
      rw [decide_eq_false hm0]
      have : plz n m ≠ 0 := fun hh => d (hpl.1 hh)
      rcases (by omega : plz n m < 0 ∨ 0 < plz n m) with q | q
      · rw [cmp_gt (by show plz n m < plz false 0; exact q)]; rfl
      · rw [cmp_lt (by show plz false 0 < plz n m; exact q)]; rfl
  · have c' : ¬ tqS m = 0 := c
    have hneg : decide (wvS n m < 0) = n := by
      unfold wvS; cases n
      · simp only [Bool.false_eq_true, if_false]; rw [decide_eq_false]; omega
      · simp only [if_true]; rw [decide_eq_true]; omega
    have habs : (wvS n m).natAbs = tqS m := by unfold wvS; cases n <;> simp
    have hnz : wvS n m ≠ 0 := by intro hh; rw [hh] at habs; simp at habs; omega
    have bv := back_val single n m (by rw [unS_eq]; exact c) (by rw [infS]; exact a1) (by rw [lpS]; decide) (by rw [lpS]; decide)
    rw [unS_eq] at bv
    have hzr : zr single (wvS n m) = nrung single n (vV single m / unS) := by unfold zr; rw [if_neg hnz, hneg, habs]; rfl
    rw [hneg, hzr]
    rw [infS] at bv
    obtain ⟨b1, b2⟩ := bv
    rw [ordS n n _ m (by omega) (by omega)]
    have hi := vV_inj single (nrung single n (vV single m / unS)) m
    rw [b2] at hi
    have hdm2 : unS * (vV single m / unS) + vV single m % unS = vV single m := Nat.div_add_mod _ _
    rw [Nat.mul_comm] at hdm2
    obtain ⟨r, hr⟩ : ∃ r : Nat, r = nrung single n (vV single m / unS) := ⟨_, rfl⟩
    rw [← hr] at hi ⊢
    by_cases d : vlS m % unS = 0
    · have d' : vV single m % unS = 0 := d
      have e : r = m := hi.1 (by omega)
      rw [cmp_eq (by rw [e]), decide_eq_true d]; rfl
    · have d' : ¬ vV single m % unS = 0 := d
      have e : r ≠ m := fun hh => d' (by have := hi.2 hh; omega)
      rw [decide_eq_false d]
      have : plz n r ≠ plz n m := by unfold plz; cases n <;> simp <;> omega
      rcases (by omega : plz n r < plz n m ∨ plz n m < plz n r) with q | q
      · rw [cmp_lt q]; rfl
      · rw [cmp_gt q]; rfl
end Fq
namespace Fq
open Ieee
theorem bitLen_bd (o : Nat) (h0 : o ≠ 0) (h : o < 18446744073709551616) : 0 < Lib.bitLen o ∧ Lib.bitLen o ≤ 64 ∧ 2 ^ (Lib.bitLen o - 1) ≤ o ∧ o < 2 ^ Lib.bitLen o := by
  have h64 : (2 : Nat) ^ 64 = 18446744073709551616 := by decide
  have key : ∀ k o : Nat, o ≠ 0 → o < 2 ^ 64 → o.log2 = k → Lib.bitLen o = k + 1 := by
    intro k
    induction k with
    | zero =>
      intro o h0 h hk
      have h1 : o < 2 ^ 1 := (Nat.log2_lt h0).1 (by omega)
      have : o = 1 := by omega
      subst this; decide
    | succ k ih =>
      intro o h0 h hk
      have h2 : 2 ^ (k + 1) ≤ o := by rw [← hk]; exact Nat.log2_self_le h0
      have hp := Nat.two_pow_pos k
      rw [Nat.pow_succ] at h2
      have hd : (o / 2).log2 = k := by rw [Nat.log2_def] at hk; rw [if_pos (by omega)] at hk; omega
      rw [Lib.bitLen_half o h0 h, ih (o / 2) (by omega) (by omega) hd]; omega
  have e := key o.log2 o h0 (by rw [h64]; exact h) rfl
  have l := (Nat.log2_lt h0 (k := 64)).2 (by rw [h64]; exact h)
  rw [e]
  exact ⟨by omega, by omega, by rw [Nat.add_sub_cancel]; exact Nat.log2_self_le h0, Nat.lt_log2_self⟩

def jokD (o : Nat) (E : Int) : Bool := decide (Lib.bitLen o ≤ 53) && decide (-1074 ≤ E) && decide (E + Lib.bitLen o ≤ 1024)
def jshD (o : Nat) (E : Int) : Nat := min (53 - Lib.bitLen o) (E + 1074).toNat
def jrD (o : Nat) (E : Int) : Nat := ((E + 1074).toNat - jshD o E) * 4503599627370496 + o * 2 ^ jshD o E
theorem jokD_iff (o : Nat) (E : Int) : jokD o E = true ↔ Lib.bitLen o ≤ 53 ∧ -1074 ≤ E ∧ E + Lib.bitLen o ≤ 1024 := by
  unfold jokD; simp only [Bool.and_eq_true, decide_eq_true_eq, and_assoc]
theorem jrD_spec (o : Nat) (h0 : o ≠ 0) (h : o < 18446744073709551616) (E : Int) (hj : jokD o E = true) :
    0 < jrD o E ∧ jrD o E < 9218868437227405312 ∧ vlD (jrD o E) = o * 2 ^ (E + 1074).toNat ∧ o * 2 ^ jshD o E < 9007199254740992 := by
  obtain ⟨j1, j2, j3⟩ := (jokD_iff o E).1 hj
  obtain ⟨l0, l1, l2, l3⟩ := bitLen_bd o h0 h
  obtain ⟨n, hn⟩ : ∃ n, n = Lib.bitLen o := ⟨_, rfl⟩
  obtain ⟨X, hX⟩ : ∃ X : Nat, X = (E + 1074).toNat := ⟨_, rfl⟩
  unfold jrD jshD
  rw [← hn] at j1 j3 l0 l1 l2 l3 ⊢
  rw [← hX]
  have hB : (2 : Nat) ^ 52 = 4503599627370496 := by decide
  have hb := binD
  by_cases c : 53 - n ≤ X
  · rw [Nat.min_eq_left c]
    have k1 : 4503599627370496 ≤ o * 2 ^ (53 - n) := by
      rw [← hB]
      refine Nat.le_trans (Nat.le_of_eq ?_) (Nat.mul_le_mul_right _ l2)
      rw [← Nat.pow_add]; congr 1; omega
    have k2 : o * 2 ^ (53 - n) < 9007199254740992 := by
      have h2 : (2 : Nat) ^ 53 = 9007199254740992 := by decide
      rw [← h2]
      refine Nat.lt_of_lt_of_le (Nat.mul_lt_mul_of_pos_right l3 (Nat.two_pow_pos _)) (Nat.le_of_eq ?_)
      rw [← Nat.pow_add]; congr 1; omega
    obtain ⟨M, hM⟩ : ∃ M, M = o * 2 ^ (53 - n) := ⟨_, rfl⟩
    rw [← hM] at k1 k2 ⊢
    obtain ⟨q, hq⟩ : ∃ q, q = X - (53 - n) := ⟨_, rfl⟩
    rw [← hq]
    have hv := vV_of double q M (by omega) (by omega)
    rw [hb] at hv
    refine ⟨by omega, ?_, ?_, k2⟩
    · have hq2 : q ≤ 2045 := by omega
      have := Nat.mul_le_mul_right 4503599627370496 hq2
      omega
    · show vV double (q * 4503599627370496 + M) = _
      rw [hv, hM, Nat.mul_assoc, ← Nat.pow_add]; congr 2; omega
  · rw [Nat.min_eq_right (by omega), Nat.sub_self, Nat.zero_mul, Nat.zero_add]
    have k2 : o * 2 ^ X < 4503599627370496 := by
      rw [← hB]
      refine Nat.lt_of_lt_of_le (Nat.mul_lt_mul_of_pos_right l3 (Nat.two_pow_pos _)) ?_
      rw [← Nat.pow_add]; exact Nat.pow_le_pow_right (by decide) (by omega)
    refine ⟨Nat.mul_pos (by omega) (Nat.two_pow_pos _), by omega, ?_, by omega⟩
    show vV double (o * 2 ^ X) = _
    unfold vV mM eE
    rw [if_pos (by rw [hb]; exact k2), if_pos (by rw [hb]; exact k2), Nat.pow_zero, Nat.mul_one]

def jokS (o : Nat) (E : Int) : Bool := decide (Lib.bitLen o ≤ 24) && decide (-149 ≤ E) && decide (E + Lib.bitLen o ≤ 128)
def jshS (o : Nat) (E : Int) : Nat := min (24 - Lib.bitLen o) (E + 149).toNat
def jrS (o : Nat) (E : Int) : Nat := ((E + 149).toNat - jshS o E) * 8388608 + o * 2 ^ jshS o E
theorem jokS_iff (o : Nat) (E : Int) : jokS o E = true ↔ Lib.bitLen o ≤ 24 ∧ -149 ≤ E ∧ E + Lib.bitLen o ≤ 128 := by
  unfold jokS; simp only [Bool.and_eq_true, decide_eq_true_eq, and_assoc]
theorem jrS_spec (o : Nat) (h0 : o ≠ 0) (h : o < 18446744073709551616) (E : Int) (hj : jokS o E = true) :
    0 < jrS o E ∧ jrS o E < 2139095040 ∧ vlS (jrS o E) = o * 2 ^ (E + 149).toNat ∧ o * 2 ^ jshS o E < 16777216 := by
  obtain ⟨j1, j2, j3⟩ := (jokS_iff o E).1 hj
  obtain ⟨l0, l1, l2, l3⟩ := bitLen_bd o h0 h
  obtain ⟨n, hn⟩ : ∃ n, n = Lib.bitLen o := ⟨_, rfl⟩
  obtain ⟨X, hX⟩ : ∃ X : Nat, X = (E + 149).toNat := ⟨_, rfl⟩
  unfold jrS jshS
  rw [← hn] at j1 j3 l0 l1 l2 l3 ⊢
  rw [← hX]
  have hB : (2 : Nat) ^ 23 = 8388608 := by decide
  have hb := binS
  by_cases c : 24 - n ≤ X
  · rw [Nat.min_eq_left c]
    have k1 : 8388608 ≤ o * 2 ^ (24 - n) := by
      rw [← hB]
      refine Nat.le_trans (Nat.le_of_eq ?_) (Nat.mul_le_mul_right _ l2)
      rw [← Nat.pow_add]; congr 1; omega
    have k2 : o * 2 ^ (24 - n) < 16777216 := by
      have h2 : (2 : Nat) ^ 24 = 16777216 := by decide
      rw [← h2]
      refine Nat.lt_of_lt_of_le (Nat.mul_lt_mul_of_pos_right l3 (Nat.two_pow_pos _)) (Nat.le_of_eq ?_)
      rw [← Nat.pow_add]; congr 1; omega
    obtain ⟨M, hM⟩ : ∃ M, M = o * 2 ^ (24 - n) := ⟨_, rfl⟩
    rw [← hM] at k1 k2 ⊢
    obtain ⟨q, hq⟩ : ∃ q, q = X - (24 - n) := ⟨_, rfl⟩
    rw [← hq]
    have hv := vV_of single q M (by omega) (by omega)
    rw [hb] at hv
    refine ⟨by omega, ?_, ?_, k2⟩
    · have hq2 : q ≤ 253 := by omega
      have := Nat.mul_le_mul_right 8388608 hq2
      omega
    · show vV single (q * 8388608 + M) = _
      rw [hv, hM, Nat.mul_assoc, ← Nat.pow_add]; congr 2; omega
  · rw [Nat.min_eq_right (by omega), Nat.sub_self, Nat.zero_mul, Nat.zero_add]
    have k2 : o * 2 ^ X < 8388608 := by
      rw [← hB]
      refine Nat.lt_of_lt_of_le (Nat.mul_lt_mul_of_pos_right l3 (Nat.two_pow_pos _)) ?_
      rw [← Nat.pow_add]; exact Nat.pow_le_pow_right (by decide) (by omega)
    refine ⟨Nat.mul_pos (by omega) (Nat.two_pow_pos _), by omega, ?_, by omega⟩
    show vV single (o * 2 ^ X) = _
    unfold vV mM eE
    rw [if_pos (by rw [hb]; exact k2), if_pos (by rw [hb]; exact k2), Nat.pow_zero, Nat.mul_one]
end Fq
namespace Fq
open Ieee
theorem odd_pow : ∀ s : Nat, s ≠ 0 → ∃ o k : Nat, o % 2 = 1 ∧ s = o * 2 ^ k := by
  intro s
  induction s using Nat.strongRecOn with
  | ind s ih =>
    intro h
    by_cases c : s % 2 = 1
    · exact ⟨s, 0, c, by rw [Nat.pow_zero, Nat.mul_one]⟩
    · obtain ⟨o, k, h1, h2⟩ := ih (s / 2) (by omega) (by omega)
      refine ⟨o, k + 1, h1, ?_⟩
      rw [Nat.pow_succ, ← Nat.mul_assoc, ← h2]; omega

theorem uniqD (r : Nat) (hr : r < 9218868437227405312) (s : Nat) (e : Int) (h0 : 0 < s) (h1 : s < 9007199254740992) (h2 : -1074 ≤ e) (hc : 4503599627370496 ≤ s ∨ e = -1074) (hv : s * 2 ^ (e + 1074).toNat = vlD r) : sgD r = s ∧ epD r = e := by
  by_cases c : s < 4503599627370496
  · have he : e = -1074 := by omega
    have e1 : vlD s = s * 2 ^ (e + 1074).toNat := by
      rw [he, show (-1074 + 1074 : Int).toNat = 0 from rfl, Nat.pow_zero, Nat.mul_one]
      show vV double s = s
      unfold vV mM eE
      rw [binD, if_pos (by omega), if_pos (by omega), Nat.pow_zero, Nat.mul_one]
    have e2 : s = r := (vV_inj double _ _).1 (e1.trans hv)
    refine ⟨?_, ?_⟩
    · rw [← e2]; unfold sgD sgG; rw [if_pos (by omega)]
    · rw [← e2]; unfold epD epG; rw [if_pos (by omega)]; exact he.symm
  · have e1 := vV_of double (e + 1074).toNat s (by rw [binD]; omega) (by rw [binD]; omega)
    have e2 : (e + 1074).toNat * double.binade + s = r := (vV_inj double _ _).1 (e1.trans hv)
    rw [binD] at e2
    refine ⟨?_, ?_⟩
    · rw [← e2]; unfold sgD sgG; (repeat' split) <;> omega
    · rw [← e2]; unfold epD epG; (repeat' split) <;> omega
theorem vlsgD (m : Nat) (hm : m < 9218868437227405312) : sgD m * 2 ^ (epD m + 1074).toNat = vlD m ∧ sgD m < 9007199254740992 ∧ (m = 0 ↔ sgD m = 0) ∧ -1074 ≤ epD m ∧ epD m ≤ 971 := by
  have hb := binD
  by_cases c : m < 4503599627370496
  · have e1 : sgD m = m := by unfold sgD sgG; rw [if_pos c]
    have e2 : epD m = -1074 := by unfold epD epG; rw [if_pos c]
    rw [e1, e2, show (-1074 + 1074 : Int).toNat = 0 from rfl, Nat.pow_zero, Nat.mul_one]
    refine ⟨?_, by omega, Iff.rfl, by omega, by omega⟩
    show m = vV double m
    unfold vV mM eE
    rw [hb, if_pos c, if_pos c, Nat.pow_zero, Nat.mul_one]
  · have e1 : sgD m = 4503599627370496 + m % 4503599627370496 := by unfold sgD sgG; rw [if_neg c, if_pos hm]
    have e2 : epD m = -1074 + m / 4503599627370496 - 1 := by unfold epD epG; (repeat' split) <;> omega
    rw [e1, e2]
    have hd := Nat.div_add_mod m 4503599627370496
    have hq : 1 ≤ m / 4503599627370496 := by omega
    have hr := Nat.mod_lt m (by decide : 0 < 4503599627370496)
    have hq2 : m / 4503599627370496 ≤ 2046 := by omega
    refine ⟨?_, by omega, by omega, by omega, by omega⟩
    rw [show (-1074 + (m : Int) / 4503599627370496 - 1 + 1074).toNat = m / 4503599627370496 - 1 from by omega]
    have hv := vV_of double (m / 4503599627370496 - 1) (4503599627370496 + m % 4503599627370496) (by rw [hb]; omega) (by rw [hb]; omega)
    rw [← hv]
    show vV double _ = vV double m
    congr 1
    rw [hb]
    have : (m / 4503599627370496 - 1) * 4503599627370496 + 4503599627370496 = m / 4503599627370496 * 4503599627370496 := by rw [Nat.sub_mul, Nat.one_mul, Nat.sub_add_cancel (by omega)]
    omega
theorem jok_ofD (m : Nat) (hm : m < 9218868437227405312) (o k : Nat) (ho : o % 2 = 1) (hs : sgD m = o * 2 ^ k) : jokD o (epD m + k) = true ∧ jrD o (epD m + k) = m ∧ k ≤ 53 := by
  obtain ⟨v1, v2, v3, v4, v5⟩ := vlsgD m hm
  rw [hs] at v1 v2
  have hp := Nat.two_pow_pos k
  have ho64 : o < 18446744073709551616 := by
    have := Nat.le_mul_of_pos_right o hp
    omega
  obtain ⟨l0, l1, l2, l3⟩ := bitLen_bd o (by omega) ho64
  have hlen : Lib.bitLen o - 1 + k < 53 := by
    have h2 : 2 ^ (Lib.bitLen o - 1 + k) ≤ o * 2 ^ k := by rw [Nat.pow_add]; exact Nat.mul_le_mul_right _ l2
    have h3 : (2 : Nat) ^ 53 = 9007199254740992 := by decide
    exact (Nat.pow_lt_pow_iff_right (by decide : 1 < 2)).1 (Nat.lt_of_le_of_lt h2 (by rw [h3]; exact v2))
  have hj : jokD o (epD m + k) = true := (jokD_iff _ _).2 ⟨by omega, by omega, by omega⟩
  obtain ⟨r1, r2, r3, r4⟩ := jrD_spec o (by omega) ho64 (epD m + k) hj
  refine ⟨hj, (vV_inj double _ _).1 (r3.trans ?_), by omega⟩
  refine Eq.trans ?_ v1
  rw [Nat.mul_assoc, ← Nat.pow_add]; congr 2; omega

theorem uniqS (r : Nat) (hr : r < 2139095040) (s : Nat) (e : Int) (h0 : 0 < s) (h1 : s < 16777216) (h2 : -149 ≤ e) (hc : 8388608 ≤ s ∨ e = -149) (hv : s * 2 ^ (e + 149).toNat = vlS r) : sgS r = s ∧ epS r = e := by
  by_cases c : s < 8388608
  · have he : e = -149 := by omega
    have e1 : vlS s = s * 2 ^ (e + 149).toNat := by
      rw [he, show (-149 + 149 : Int).toNat = 0 from rfl, Nat.pow_zero, Nat.mul_one]
      show vV single s = s
      unfold vV mM eE
      rw [binS, if_pos (by omega), if_pos (by omega), Nat.pow_zero, Nat.mul_one]
    have e2 : s = r := (vV_inj single _ _).1 (e1.trans hv)
    refine ⟨?_, ?_⟩
    · rw [← e2]; unfold sgS sgG; rw [if_pos (by omega)]
    · rw [← e2]; unfold epS epG; rw [if_pos (by omega)]; exact he.symm
  · have e1 := vV_of single (e + 149).toNat s (by rw [binS]; omega) (by rw [binS]; omega)
    have e2 : (e + 149).toNat * single.binade + s = r := (vV_inj single _ _).1 (e1.trans hv)
    rw [binS] at e2
    refine ⟨?_, ?_⟩
    · rw [← e2]; unfold sgS sgG; (repeat' split) <;> omega
    · rw [← e2]; unfold epS epG; (repeat' split) <;> omega
theorem vlsgS (m : Nat) (hm : m < 2139095040) : sgS m * 2 ^ (epS m + 149).toNat = vlS m ∧ sgS m < 16777216 ∧ (m = 0 ↔ sgS m = 0) ∧ -149 ≤ epS m ∧ epS m ≤ 104 := by
  have hb := binS
  by_cases c : m < 8388608
  · have e1 : sgS m = m := by unfold sgS sgG; rw [if_pos c]
    have e2 : epS m = -149 := by unfold epS epG; rw [if_pos c]
    rw [e1, e2, show (-149 + 149 : Int).toNat = 0 from rfl, Nat.pow_zero, Nat.mul_one]
    refine ⟨?_, by omega, Iff.rfl, by omega, by omega⟩
    show m = vV single m
    unfold vV mM eE
    rw [hb, if_pos c, if_pos c, Nat.pow_zero, Nat.mul_one]
  · have e1 : sgS m = 8388608 + m % 8388608 := by unfold sgS sgG; rw [if_neg c, if_pos hm]
    have e2 : epS m = -149 + m / 8388608 - 1 := by unfold epS epG; (repeat' split) <;> omega
    rw [e1, e2]
    have hd := Nat.div_add_mod m 8388608
    have hq : 1 ≤ m / 8388608 := by omega
    have hr := Nat.mod_lt m (by decide : 0 < 8388608)
    have hq2 : m / 8388608 ≤ 254 := by omega
    refine ⟨?_, by omega, by omega, by omega, by omega⟩
    rw [show (-149 + (m : Int) / 8388608 - 1 + 149).toNat = m / 8388608 - 1 from by omega]
    have hv := vV_of single (m / 8388608 - 1) (8388608 + m % 8388608) (by rw [hb]; omega) (by rw [hb]; omega)
    rw [← hv]
    show vV single _ = vV single m
    congr 1
    rw [hb]
    have : (m / 8388608 - 1) * 8388608 + 8388608 = m / 8388608 * 8388608 := by rw [Nat.sub_mul, Nat.one_mul, Nat.sub_add_cancel (by omega)]
    omega
theorem jok_ofS (m : Nat) (hm : m < 2139095040) (o k : Nat) (ho : o % 2 = 1) (hs : sgS m = o * 2 ^ k) : jokS o (epS m + k) = true ∧ jrS o (epS m + k) = m ∧ k ≤ 24 := by
  obtain ⟨v1, v2, v3, v4, v5⟩ := vlsgS m hm
  rw [hs] at v1 v2
  have hp := Nat.two_pow_pos k
  have ho64 : o < 18446744073709551616 := by
    have := Nat.le_mul_of_pos_right o hp
    omega
  obtain ⟨l0, l1, l2, l3⟩ := bitLen_bd o (by omega) ho64
  have hlen : Lib.bitLen o - 1 + k < 24 := by
    have h2 : 2 ^ (Lib.bitLen o - 1 + k) ≤ o * 2 ^ k := by rw [Nat.pow_add]; exact Nat.mul_le_mul_right _ l2
    have h3 : (2 : Nat) ^ 24 = 16777216 := by decide
    exact (Nat.pow_lt_pow_iff_right (by decide : 1 < 2)).1 (Nat.lt_of_le_of_lt h2 (by rw [h3]; exact v2))
  have hj : jokS o (epS m + k) = true := (jokS_iff _ _).2 ⟨by omega, by omega, by omega⟩
  obtain ⟨r1, r2, r3, r4⟩ := jrS_spec o (by omega) ho64 (epS m + k) hj
  refine ⟨hj, (vV_inj single _ _).1 (r3.trans ?_), by omega⟩
  refine Eq.trans ?_ v1
  rw [Nat.mul_assoc, ← Nat.pow_add]; congr 2; omega
end Fq
namespace Fq

/-- -0 as 0 -/
def pla (x : Nat) : Nat := if x = 9223372036854775808 then 0 else x
open Ieee in
theorem feq (n n' : Bool) (m m' : Nat) (h : m < 9223372036854775808) (h' : m' < 9223372036854775808) : (FloatKind.f64.format.order (wD n m) (wD n' m') == some Ordering.eq) = decide (m ≤ 9218868437227405312 ∧ m' ≤ 9218868437227405312 ∧ plz n m = plz n' m') := by
  by_cases c : 9218868437227405312 < m
  · rw [ordD_nanl n m _ c h, decide_eq_false (by omega)]; rfl
  by_cases c' : 9218868437227405312 < m'
  · rw [ordD_nanr n' m' _ c' h', decide_eq_false (by omega)]; rfl
  rw [ordD n n' m m' (by omega) (by omega)]
  by_cases e : plz n m = plz n' m'
  · rw [cmp_eq e, decide_eq_true ⟨by omega, by omega, e⟩]; rfl
  · rw [decide_eq_false (fun x => e x.2.2)]
    rcases Int.lt_or_gt_of_ne e with g | g
    · rw [cmp_lt g]; rfl
    · rw [cmp_gt g]; rfl
open Ieee in
theorem fle (n n' : Bool) (m m' : Nat) (h : m < 9223372036854775808) (h' : m' < 9223372036854775808) : (FloatKind.f64.format.order (wD n m) (wD n' m') == some Ordering.lt || FloatKind.f64.format.order (wD n m) (wD n' m') == some Ordering.eq) = decide (m ≤ 9218868437227405312 ∧ m' ≤ 9218868437227405312 ∧ plz n m ≤ plz n' m') := by
  by_cases c : 9218868437227405312 < m
  · rw [ordD_nanl n m _ c h, decide_eq_false (by omega)]; rfl
  by_cases c' : 9218868437227405312 < m'
  · rw [ordD_nanr n' m' _ c' h', decide_eq_false (by omega)]; rfl
  rw [ordD n n' m m' (by omega) (by omega)]
  rcases Int.lt_trichotomy (plz n m) (plz n' m') with g | g | g
  · rw [cmp_lt g, decide_eq_true ⟨by omega, by omega, by omega⟩]; rfl
  · rw [cmp_eq g, decide_eq_true ⟨by omega, by omega, by omega⟩]; rfl
  · rw [cmp_gt g, decide_eq_false (by omega)]; rfl
open Ieee in
theorem flt (n n' : Bool) (m m' : Nat) (h : m < 9223372036854775808) (h' : m' < 9223372036854775808) : (FloatKind.f64.format.order (wD n m) (wD n' m') == some Ordering.lt) = decide (m ≤ 9218868437227405312 ∧ m' ≤ 9218868437227405312 ∧ plz n m < plz n' m') := by
  by_cases c : 9218868437227405312 < m
  · rw [ordD_nanl n m _ c h, decide_eq_false (by omega)]; rfl
  by_cases c' : 9218868437227405312 < m'
  · rw [ordD_nanr n' m' _ c' h', decide_eq_false (by omega)]; rfl
  rw [ordD n n' m m' (by omega) (by omega)]
  rcases Int.lt_trichotomy (plz n m) (plz n' m') with g | g | g
  · rw [cmp_lt g, decide_eq_true ⟨by omega, by omega, by omega⟩]; rfl
  · rw [cmp_eq g, decide_eq_false (by omega)]; rfl
  · rw [cmp_gt g, decide_eq_false (by omega)]; rfl
theorem feq0 (x : Nat) (h : x < 18446744073709551616) : (FloatKind.f64.format.order x 0 == some Ordering.eq) = decide (x = 0 ∨ x = 9223372036854775808) := by
  obtain ⟨n, m, hm, rfl⟩ := exD x h
  have g := feq n false m 0 hm (by decide)
  rw [show wD false 0 = 0 from rfl] at g
  rw [g]; congr 1; apply propext
  unfold plz wD
  cases n <;> simp <;> omega
theorem feqI (x : Nat) (h : x < 18446744073709551616) : (FloatKind.f64.format.order x 9218868437227405312 == some Ordering.eq) = decide (x = 9218868437227405312) := by
  obtain ⟨n, m, hm, rfl⟩ := exD x h
  have g := feq n false m 9218868437227405312 hm (by decide)
  rw [show wD false 9218868437227405312 = 9218868437227405312 from rfl] at g
  rw [g]; congr 1; apply propext
  unfold plz wD
  cases n <;> simp <;> omega
theorem feqM (x : Nat) (h : x < 18446744073709551616) : (FloatKind.f64.format.order x 18442240474082181120 == some Ordering.eq) = decide (x = 18442240474082181120) := by
  obtain ⟨n, m, hm, rfl⟩ := exD x h
  have g := feq n true m 9218868437227405312 hm (by decide)
  rw [show wD true 9218868437227405312 = 18442240474082181120 from rfl] at g
  rw [g]; congr 1; apply propext
  unfold plz wD
  cases n <;> simp <;> omega
/-- do two ends make an interval that is not empty? -/
def snd (a b : Nat) : Bool := (FloatKind.f64.format.order a b == some Ordering.lt || FloatKind.f64.format.order a b == some Ordering.eq) && (!(decide (a = 9218868437227405312)) && !(decide (b = 18442240474082181120)))
def rlo (a b : Nat) : Nat := if snd a b then pla a else 9218868437227405312
def rhi (a b : Nat) : Nat := if snd a b then pla b else 18442240474082181120
theorem pla_lt (x : Nat) (h : x < 18446744073709551616) : pla x < 18446744073709551616 := by unfold pla; split <;> omega
theorem rlo_lt (a b : Nat) (h : a < 18446744073709551616) : rlo a b < 18446744073709551616 := by
  unfold rlo; split
  · exact pla_lt a h
  · omega
theorem rhi_lt (a b : Nat) (h : b < 18446744073709551616) : rhi a b < 18446744073709551616 := by
  unfold rhi; split
  · exact pla_lt b h
  · omega
theorem snd_w (n n' : Bool) (m m' : Nat) (h : m < 9223372036854775808) (h' : m' < 9223372036854775808) : snd (wD n m) (wD n' m') = decide (m ≤ 9218868437227405312 ∧ m' ≤ 9218868437227405312 ∧ plz n m ≤ plz n' m' ∧ ¬ (n = false ∧ m = 9218868437227405312) ∧ ¬ (n' = true ∧ m' = 9218868437227405312)) := by
  unfold snd
  rw [fle n n' m m' h h']
  have e1 : (wD n m = 9218868437227405312) ↔ (n = false ∧ m = 9218868437227405312) := by unfold wD; cases n <;> simp; omega
  have e2 : (wD n' m' = 18442240474082181120) ↔ (n' = true ∧ m' = 9218868437227405312) := by unfold wD; cases n' <;> simp <;> omega
  simp only [e1, e2]
  by_cases c1 : m ≤ 9218868437227405312 ∧ m' ≤ 9218868437227405312 ∧ plz n m ≤ plz n' m' <;> by_cases c2 : n = false ∧ m = 9218868437227405312 <;> by_cases c3 : n' = true ∧ m' = 9218868437227405312 <;> simp [c1, c2, c3]
end Fq
end Go.Proofs.YtgiffpohngaonaaGreatDoor
