import Derived.Test.YtidpeakojcgngaaGreatDoorProg
import Derived.Test.YtidpeakojcgngaaGreatDoorKXA0
import Derived.Test.YtidpeakojcgngaaGreatDoorKXM
import Derived.Test.YtidpeakojcgngaaGreatDoorKXT
import Derived.Test.YtidpeakojcgngaaGreatDoorKXPR
import Derived.Test.YtidpeakojcgngaaGreatDoorKXRN
import Derived.Laws.FloatArith
import Derived.Laws.BitsAllLaws
import Derived.RowKit
import Derived.WalkKit
import Derived.ProofKit
import Derived.RowKit3
import Derived.WalkSpells
import Derived.StillTactics
import Derived.Deep.QuietTactic
import Derived.BigQuiet
import Derived.Below
import Derived.Deep.OwnRows
import Derived.OwnWalk
import Derived.Laws.Bits64b
namespace Go.Proofs.YtidpeakojcgngaaGreatDoor
open Go.RowKit
namespace Fb
open Ieee

/-- the rung of a word, and its sign. -/
def rg (f : Format) (x : Nat) : Nat := x % f.signWeight
def ng (f : Format) (x : Nat) : Bool := x / f.signWeight % 2 == 1
/-- the place: the rung with the sign. -/
def pl (f : Format) (x : Nat) : Int := if ng f x then -(rg f x : Int) else rg f x
def eE (f : Format) (r : Nat) : Nat := if r < f.binade then 0 else r / f.binade - 1
def mM (f : Format) (r : Nat) : Nat := if r < f.binade then r else f.binade + r % f.binade
def vV (f : Format) (r : Nat) : Nat := mM f r * 2 ^ eE f r

theorem binade_pos (f : Format) : 0 < f.binade := Nat.two_pow_pos _

theorem vV_step (f : Format) (r : Nat) : vV f r < vV f (r + 1) := by
  have hB := binade_pos f
  unfold vV mM eE
  generalize f.binade = B at *
  by_cases h1 : r + 1 < B
  · have : r < B := by omega
    simp [h1, this]
  · by_cases h2 : r < B
    · have h3 : r + 1 = B := by omega
      simp [h2, h3]
      rw [Nat.div_self hB]; simp; omega
    · have hq : 1 ≤ r / B := (Nat.le_div_iff_mul_le hB).2 (by omega)
      simp only [h1, h2, if_false]
      have hdm := Nat.div_add_mod r B
      have hm := Nat.mod_lt r hB
      by_cases h4 : r % B + 1 < B
      · have e1 : (r + 1) / B = r / B := by
          rw [show r + 1 = (r % B + 1) + B * (r / B) from by omega, Nat.add_mul_div_left _ _ hB, Nat.div_eq_of_lt h4]; omega
        have e2 : (r + 1) % B = r % B + 1 := by
          rw [show r + 1 = (r % B + 1) + B * (r / B) from by omega, Nat.add_mul_mod_self_left, Nat.mod_eq_of_lt h4]
        rw [e1, e2]
        exact Nat.mul_lt_mul_of_pos_right (by omega) (Nat.two_pow_pos _)
      · have e0 : r + 1 = B * (r / B + 1) := by rw [Nat.mul_add]; omega
        have e1 : (r + 1) / B = r / B + 1 := by rw [e0, Nat.mul_div_cancel_left _ hB]
        have e2 : (r + 1) % B = 0 := by rw [e0, Nat.mul_mod_right]
        rw [e1, e2]
        obtain ⟨k, hk⟩ : ∃ k, r / B = k + 1 := ⟨r / B - 1, by omega⟩
        rw [hk]
        simp only [Nat.add_sub_cancel, Nat.add_zero]
        rw [Nat.pow_succ, Nat.mul_comm (2 ^ k) 2, ← Nat.mul_assoc]
        exact Nat.mul_lt_mul_of_pos_right (by omega) (Nat.two_pow_pos _)

theorem vV_lt (f : Format) {r s : Nat} (h : r < s) : vV f r < vV f s := by
  induction s with
  | zero => omega
  | succ s ih =>
    by_cases e : r = s
    · subst e; exact vV_step f r
    · exact Nat.lt_trans (ih (by omega)) (vV_step f s)

theorem vV_lt_iff (f : Format) (r s : Nat) : vV f r < vV f s ↔ r < s := by
  constructor
  · intro h
    by_cases c : r < s
    · exact c
    · exfalso
      by_cases e : r = s
      · subst e; omega
      · have := vV_lt f (r := s) (s := r) (by omega); omega
  · exact vV_lt f

theorem vV_inj (f : Format) (r s : Nat) : vV f r = vV f s ↔ r = s := by
  constructor
  · intro h
    by_cases c : r < s
    · have := vV_lt f c; omega
    · by_cases d : s < r
      · have := vV_lt f d; omega
      · omega
  · intro h; rw [h]

theorem vV_zero (f : Format) : vV f 0 = 0 := by
  unfold vV mM; simp [binade_pos f]

theorem rg_lt (f : Format) (x : Nat) : rg f x < f.signWeight := Nat.mod_lt _ (Nat.two_pow_pos _)

theorem read_fin (f : Format) (x : Nat) (h : rg f x < f.infRung) :
    f.read x = .number (ng f x) (mM f (rg f x)) (f.leastPlace + (eE f (rg f x) : Nat)) := by
  unfold Format.read mM eE
  change (if rg f x < f.binade then _ else _) = _
  by_cases c : rg f x < f.binade
  · rw [if_pos c, if_pos c, if_pos c, Int.natCast_zero, Int.add_zero]; rfl
  · rw [if_neg c]
    change (if rg f x < f.infRung then _ else _) = _
    rw [if_pos h, if_neg c, if_neg c]; rfl

theorem read_inf (f : Format) (x : Nat) (hb : f.binade ≤ f.infRung) (h : rg f x = f.infRung) :
    f.read x = .infinity (ng f x) := by
  unfold Format.read
  change (if rg f x < f.binade then _ else if rg f x < f.infRung then _ else if rg f x = f.infRung then _ else _) = _
  rw [if_neg (by omega), if_neg (by omega), if_pos h]; rfl

theorem read_nan (f : Format) (x : Nat) (hb : f.binade ≤ f.infRung) (h : f.infRung < rg f x) :
    f.read x = .nan (ng f x) (rg f x - f.infRung) := by
  unfold Format.read
  change (if rg f x < f.binade then _ else if rg f x < f.infRung then _ else if rg f x = f.infRung then _ else _) = _
  rw [if_neg (by omega), if_neg (by omega), if_neg (by omega)]; rfl

theorem cmp_congr {a b c d : Int} (h1 : a < b ↔ c < d) (h2 : a = b ↔ c = d) : compare a b = compare c d := by
  simp only [compare, compareOfLessAndEq, h1, h2]

theorem cmp_lt {a b : Int} (h : a < b) : compare a b = .lt := by simp [compare, compareOfLessAndEq, h]
theorem cmp_gt {a b : Int} (h : b < a) : compare a b = .gt := by
  have h1 : ¬ a < b := by omega
  have h2 : a ≠ b := by omega
  simp [compare, compareOfLessAndEq, h1, h2]
theorem cmp_eq {a b : Int} (h : a = b) : compare a b = .eq := by subst h; simp [compare, compareOfLessAndEq]

theorem signed_eq (s : Bool) (m k : Nat) : signed s m k = if s then -((m * 2 ^ k : Nat) : Int) else ((m * 2 ^ k : Nat) : Int) := by
  unfold signed; rw [Nat.shiftLeft_eq]

/-- signed V -/
def sV (f : Format) (x : Nat) : Int := if ng f x then -(vV f (rg f x) : Int) else vV f (rg f x)

theorem sV_lt (f : Format) (x y : Nat) : sV f x < sV f y ↔ pl f x < pl f y := by
  have h1 := vV_lt_iff f (rg f x) (rg f y)
  have h2 := vV_lt_iff f (rg f y) (rg f x)
  have h3 := vV_inj f (rg f x) 0
  have h4 := vV_inj f (rg f y) 0
  rw [vV_zero] at h3 h4
  unfold sV pl
  cases ng f x <;> cases ng f y <;> simp <;> omega

theorem sV_eq (f : Format) (x y : Nat) : sV f x = sV f y ↔ pl f x = pl f y := by
  have h1 := vV_inj f (rg f x) (rg f y)
  have h3 := vV_inj f (rg f x) 0
  have h4 := vV_inj f (rg f y) 0
  rw [vV_zero] at h3 h4
  unfold sV pl
  cases ng f x <;> cases ng f y <;> simp <;> omega

theorem scale (f : Format) (x : Nat) (b : Int) (c : Nat) (hb : b = f.leastPlace + (c : Nat)) (hc : c ≤ eE f (rg f x)) :
    signed (ng f x) (mM f (rg f x)) (f.leastPlace + (eE f (rg f x) : Nat) - b).toNat * (2 ^ c : Nat) = sV f x := by
  subst hb
  rw [signed_eq, show (f.leastPlace + (eE f (rg f x) : Nat) - (f.leastPlace + (c : Nat)) : Int).toNat = eE f (rg f x) - c from by omega]
  unfold sV vV
  have e : mM f (rg f x) * 2 ^ eE f (rg f x) = mM f (rg f x) * 2 ^ (eE f (rg f x) - c) * 2 ^ c := by
    rw [Nat.mul_assoc, ← Nat.pow_add, Nat.sub_add_cancel hc]
  rw [e]
  cases ng f x
  · simp only [Bool.false_eq_true, if_false]; exact (Int.natCast_mul _ _).symm
  · simp only [if_true]; rw [Int.neg_mul]; congr 1

theorem order_fin (f : Format) (x y : Nat) (hx : rg f x < f.infRung) (hy : rg f y < f.infRung) :
    f.order x y = some (compare (pl f x) (pl f y)) := by
  unfold Format.order
  rw [read_fin f x hx, read_fin f y hy]
  simp only [Datum.order]
  congr 1
  have hm : min (f.leastPlace + (eE f (rg f x) : Nat)) (f.leastPlace + (eE f (rg f y) : Nat)) = f.leastPlace + ((min (eE f (rg f x)) (eE f (rg f y)) : Nat) : Int) := by omega
  have sx := scale f x _ _ hm (Nat.min_le_left _ _)
  have sy := scale f y _ _ hm (Nat.min_le_right _ _)
  have hp : (0 : Int) < ((2 ^ (min (eE f (rg f x)) (eE f (rg f y))) : Nat) : Int) := by exact_mod_cast Nat.two_pow_pos _
  refine cmp_congr ?_ ?_
  · rw [← sV_lt, ← sx, ← sy]
    exact (Int.mul_lt_mul_right hp).symm
  · rw [← sV_eq, ← sx, ← sy]
    constructor
    · intro h; rw [h]
    · intro h; exact Int.eq_of_mul_eq_mul_right (by omega) h

theorem order_num (f : Format) (x y : Nat) (hb : f.binade ≤ f.infRung) (hx : rg f x ≤ f.infRung) (hy : rg f y ≤ f.infRung) :
    f.order x y = some (compare (pl f x) (pl f y)) := by
  have hB := binade_pos f
  by_cases cx : rg f x < f.infRung
  · by_cases cy : rg f y < f.infRung
    · exact order_fin f x y cx cy
    · have ey : rg f y = f.infRung := by omega
      unfold Format.order
      rw [read_fin f x cx, read_inf f y hb ey]
      simp only [Datum.order]
      congr 1
      unfold pl
      rw [ey]
      cases ng f x <;> cases ng f y <;> simp only [Bool.false_eq_true, if_false, if_true] <;> symm <;> first | (apply cmp_lt; omega) | (apply cmp_gt; omega)
  · have ex : rg f x = f.infRung := by omega
    by_cases cy : rg f y < f.infRung
    · unfold Format.order
      rw [read_inf f x hb ex, read_fin f y cy]
      simp only [Datum.order]
      congr 1
      unfold pl
      rw [ex]
      cases ng f x <;> cases ng f y <;> simp only [Bool.false_eq_true, if_false, if_true] <;> symm <;> first | (apply cmp_lt; omega) | (apply cmp_gt; omega)
    · have ey : rg f y = f.infRung := by omega
      unfold Format.order
      rw [read_inf f x hb ex, read_inf f y hb ey]
      simp only [Datum.order]
      congr 1
      unfold pl
      rw [ex, ey]
      cases ng f x <;> cases ng f y <;> simp only [Bool.false_eq_true, if_false, if_true]
      · rw [cmp_eq rfl]; rfl
      · rw [cmp_gt (by omega)]; rfl
      · rw [cmp_lt (by omega)]; rfl
      · rw [cmp_eq rfl]; rfl

theorem order_nan_left (f : Format) (x y : Nat) (hb : f.binade ≤ f.infRung) (hx : f.infRung < rg f x) : f.order x y = none := by
  unfold Format.order; rw [read_nan f x hb hx]; rfl

theorem order_nan_right (f : Format) (x y : Nat) (hb : f.binade ≤ f.infRung) (hy : f.infRung < rg f y) : f.order x y = none := by
  unfold Format.order; rw [read_nan f y hb hy]
  cases f.read x <;> rfl



/-! ### words by sign and rung -/
/-- the place of a sign and a rung -/
def plz (n : Bool) (m : Nat) : Int := if n then -(m : Int) else m
def wD (n : Bool) (m : Nat) : Nat := if n then 9223372036854775808 + m else m
def wS (n : Bool) (m : Nat) : Nat := if n then 2147483648 + m else m

theorem signD : double.signWeight = 9223372036854775808 := by decide +kernel
theorem signS : single.signWeight = 2147483648 := by decide +kernel
theorem infD : double.infRung = 9218868437227405312 := by decide +kernel
theorem infS : single.infRung = 2139095040 := by decide +kernel
theorem binD : double.binade = 4503599627370496 := by decide +kernel
theorem binS : single.binade = 8388608 := by decide +kernel
theorem binfD : double.binade ≤ double.infRung := by rw [binD, infD]; decide
theorem binfS : single.binade ≤ single.infRung := by rw [binS, infS]; decide

theorem rgD (n : Bool) (m : Nat) (h : m < 9223372036854775808) : rg double (wD n m) = m := by
  unfold rg wD; rw [signD]; cases n <;> simp <;> omega
theorem rgS (n : Bool) (m : Nat) (h : m < 2147483648) : rg single (wS n m) = m := by
  unfold rg wS; rw [signS]; cases n <;> simp <;> omega
theorem ngD (n : Bool) (m : Nat) (h : m < 9223372036854775808) : ng double (wD n m) = n := by
  unfold ng wD; rw [signD]; cases n <;> simp <;> omega
theorem ngS (n : Bool) (m : Nat) (h : m < 2147483648) : ng single (wS n m) = n := by
  unfold ng wS; rw [signS]; cases n <;> simp <;> omega

theorem exD (x : Nat) (h : x < 18446744073709551616) : ∃ n m, m < 9223372036854775808 ∧ x = wD n m := by
  by_cases c : x < 9223372036854775808
  · exact ⟨false, x, c, rfl⟩
  · exact ⟨true, x - 9223372036854775808, by omega, by unfold wD; simp; omega⟩
theorem exS (x : Nat) (h : x < 4294967296) : ∃ n m, m < 2147483648 ∧ x = wS n m := by
  by_cases c : x < 2147483648
  · exact ⟨false, x, c, rfl⟩
  · exact ⟨true, x - 2147483648, by omega, by unfold wS; simp; omega⟩

theorem ordD (n n' : Bool) (m m' : Nat) (h : m ≤ 9218868437227405312) (h' : m' ≤ 9218868437227405312) :
    FloatKind.f64.format.order (wD n m) (wD n' m') = some (compare (plz n m) (plz n' m')) := by
  have e := order_num double (wD n m) (wD n' m') binfD (by rw [rgD n m (by omega), infD]; exact h) (by rw [rgD n' m' (by omega), infD]; exact h')
  have p1 : pl double (wD n m) = plz n m := by unfold pl plz; rw [rgD n m (by omega), ngD n m (by omega)]
  have p2 : pl double (wD n' m') = plz n' m' := by unfold pl plz; rw [rgD n' m' (by omega), ngD n' m' (by omega)]
  rw [p1, p2] at e; exact e
theorem ordS (n n' : Bool) (m m' : Nat) (h : m ≤ 2139095040) (h' : m' ≤ 2139095040) :
    FloatKind.f32.format.order (wS n m) (wS n' m') = some (compare (plz n m) (plz n' m')) := by
  have e := order_num single (wS n m) (wS n' m') binfS (by rw [rgS n m (by omega), infS]; exact h) (by rw [rgS n' m' (by omega), infS]; exact h')
  have p1 : pl single (wS n m) = plz n m := by unfold pl plz; rw [rgS n m (by omega), ngS n m (by omega)]
  have p2 : pl single (wS n' m') = plz n' m' := by unfold pl plz; rw [rgS n' m' (by omega), ngS n' m' (by omega)]
  rw [p1, p2] at e; exact e

theorem ordD_nanl (n : Bool) (m y : Nat) (h : 9218868437227405312 < m) (h2 : m < 9223372036854775808) : FloatKind.f64.format.order (wD n m) y = none :=
  order_nan_left double _ _ binfD (by rw [rgD n m h2, infD]; exact h)
theorem ordD_nanr (n : Bool) (m y : Nat) (h : 9218868437227405312 < m) (h2 : m < 9223372036854775808) : FloatKind.f64.format.order y (wD n m) = none :=
  order_nan_right double _ _ binfD (by rw [rgD n m h2, infD]; exact h)
theorem ordS_nanl (n : Bool) (m y : Nat) (h : 2139095040 < m) (h2 : m < 2147483648) : FloatKind.f32.format.order (wS n m) y = none :=
  order_nan_left single _ _ binfS (by rw [rgS n m h2, infS]; exact h)
theorem ordS_nanr (n : Bool) (m y : Nat) (h : 2139095040 < m) (h2 : m < 2147483648) : FloatKind.f32.format.order y (wS n m) = none :=
  order_nan_right single _ _ binfS (by rw [rgS n m h2, infS]; exact h)

theorem xor_top (k m : Nat) (h : m < 2 ^ k) : m ^^^ 2 ^ k = 2 ^ k + m := by
  apply Nat.eq_of_testBit_eq
  intro i
  rw [Nat.testBit_xor, Nat.testBit_two_pow]
  by_cases c : k = i
  · subst c
    rw [Nat.testBit_two_pow_add_eq, Nat.testBit_lt_two_pow h]; simp
  · by_cases d : i < k
    · rw [Nat.testBit_two_pow_add_gt d]; simp [c]
    · have g : k < i := by omega
      have l1 : m < 2 ^ i := Nat.lt_of_lt_of_le h (Nat.pow_le_pow_right (by decide) (by omega))
      have l2 : 2 ^ k + m < 2 ^ i := Nat.lt_of_lt_of_le (by rw [Nat.pow_succ]; omega : 2 ^ k + m < 2 ^ (k + 1)) (Nat.pow_le_pow_right (by decide) (by omega))
      rw [Nat.testBit_lt_two_pow l1, Nat.testBit_lt_two_pow l2]; simp [c]

theorem negD (n : Bool) (m : Nat) (h : m < 9223372036854775808) : Op.negFloat .f64 (wD n m) = wD (!n) m := by
  have e := xor_top 63 m h
  have h2 : Op.negFloat .f64 (wD n m) = wD n m ^^^ 2 ^ 63 := rfl
  rw [h2]
  cases n
  · show m ^^^ 2 ^ 63 = _; rw [e]; rfl
  · show (2 ^ 63 + m) ^^^ 2 ^ 63 = m
    rw [← e, Nat.xor_assoc, Nat.xor_self, Nat.xor_zero]
theorem negS (n : Bool) (m : Nat) (h : m < 2147483648) : Op.negFloat .f32 (wS n m) = wS (!n) m := by
  have e := xor_top 31 m h
  have h2 : Op.negFloat .f32 (wS n m) = wS n m ^^^ 2 ^ 31 := rfl
  rw [h2]
  cases n
  · show m ^^^ 2 ^ 31 = _; rw [e]; rfl
  · show (2 ^ 31 + m) ^^^ 2 ^ 31 = m
    rw [← e, Nat.xor_assoc, Nat.xor_self, Nat.xor_zero]

/-! ### the pattern's two bit operations -/
theorem andD (n : Bool) (m : Nat) (h : m < 9223372036854775808) : RowKit.wrap64 (bits .andNot .u64 ((wD n m : Nat) : Int) 9223372036854775808) = (m : Int) := by
  have e := u64_andNot_nat (wD n m) 9223372036854775808 (by unfold wD; split <;> omega) (by decide)
  have e2 : wD n m &&& (18446744073709551615 - 9223372036854775808) = m := by
    have := Nat.and_two_pow_sub_one_eq_mod (wD n m) 63
    rw [show (18446744073709551615 - 9223372036854775808 : Nat) = 2 ^ 63 - 1 from by decide, this]
    unfold wD; split <;> omega
  rw [e2] at e
  have e3 : bits .andNot .u64 ((wD n m : Nat) : Int) 9223372036854775808 = (m : Int) := e
  rw [e3]; unfold RowKit.wrap64; omega
theorem andS (n : Bool) (m : Nat) (h : m < 2147483648) : RowKit.wrap64 (bits .andNot .u32 ((wS n m : Nat) : Int) 2147483648) = (m : Int) := by
  have e := u32_andNot_nat (wS n m) 2147483648 (by unfold wS; split <;> omega) (by decide)
  have e2 : wS n m &&& (4294967295 - 2147483648) = m := by
    have := Nat.and_two_pow_sub_one_eq_mod (wS n m) 31
    rw [show (4294967295 - 2147483648 : Nat) = 2 ^ 31 - 1 from by decide, this]
    unfold wS; split <;> omega
  rw [e2] at e
  have e3 : bits .andNot .u32 ((wS n m : Nat) : Int) 2147483648 = (m : Int) := e
  rw [e3]; unfold RowKit.wrap64; omega
theorem shrD (n : Bool) (m : Nat) (h : m < 9223372036854775808) : (((wD n m : Nat) : Int) / 9223372036854775808 != 0) = n := by
  unfold wD; cases n <;> simp <;> omega
theorem shrS (n : Bool) (m : Nat) (h : m < 2147483648) : (((wS n m : Nat) : Int) / 2147483648 != 0) = n := by
  unfold wS; cases n <;> simp <;> omega


theorem wrapU {x : Int} (h : 0 ≤ x) (h2 : x < 18446744073709551616) : IntKind.u64.wrap x = x := by
  rw [IntKind.wrap_u64]; omega
theorem wrapI {x : Int} (h : -9223372036854775808 ≤ x) (h2 : x < 9223372036854775808) : wrap64 x = x := by
  unfold wrap64; omega
theorem bitsR (B u s r : Int) (h0 : 0 ≤ u) (hu : u < 18446744073709551616) (h1 : 0 ≤ u * B) (h2 : u * B + s < 18446744073709551616) (hs : B ≤ s ∧ 0 ≤ B) (hr : u * B + s - B = r) :
    IntKind.u64.wrap (IntKind.u64.wrap (IntKind.u64.wrap (IntKind.u64.wrap u * B) + s) - B) = r := by
  rw [wrapU h0 hu, wrapU h1 (by omega), wrapU (by omega) h2, wrapU (by omega) (by omega), hr]
def kdG (I : Nat) (m : Nat) : Int := if m < I then 0 else if m = I then 1 else 2
def sgG (B I : Nat) (m : Nat) : Nat := if m < B then m else if m < I then B + m % B else m % B
def epG (L : Int) (B I : Nat) (m : Nat) : Int := if m < B then L else if m < I then L + (m / B : Nat) - 1 else L
def kdD := kdG 9218868437227405312
def sgD := sgG 4503599627370496 9218868437227405312
def epD := epG (-1074) 4503599627370496 9218868437227405312
def kdS := kdG 2139095040
def sgS := sgG 8388608 2139095040
def epS := epG (-149) 8388608 2139095040

theorem eqzD (n : Bool) (m : Nat) (h : m < 9223372036854775808) : (FloatKind.f64.format.order (wD n m) 0 == some .eq) = (m == 0) := by
  by_cases c : 9218868437227405312 < m
  · rw [ordD_nanl n m 0 c h]; simp; omega
  · have e : FloatKind.f64.format.order (wD n m) 0 = some (compare (plz n m) 0) := ordD n false m 0 (by omega) (by omega)
    rw [e]; by_cases d : m = 0
    · subst d; rw [cmp_eq (by unfold plz; split <;> rfl)]; simp
    · have hd : (m == 0) = false := by simp [d]
      rw [hd]
      cases n
      · rw [cmp_gt (by show (0:Int) < (m : Int); omega)]; rfl
      · rw [cmp_lt (by show -(m : Int) < 0; omega)]; rfl
theorem eqzS (n : Bool) (m : Nat) (h : m < 2147483648) : (FloatKind.f32.format.order (wS n m) 0 == some .eq) = (m == 0) := by
  by_cases c : 2139095040 < m
  · rw [ordS_nanl n m 0 c h]; simp; omega
  · have e : FloatKind.f32.format.order (wS n m) 0 = some (compare (plz n m) 0) := ordS n false m 0 (by omega) (by omega)
    rw [e]; by_cases d : m = 0
    · subst d; rw [cmp_eq (by unfold plz; split <;> rfl)]; simp
    · have hd : (m == 0) = false := by simp [d]
      rw [hd]
      cases n
      · rw [cmp_gt (by show (0:Int) < (m : Int); omega)]; rfl
      · rw [cmp_lt (by show -(m : Int) < 0; omega)]; rfl
def rkG (I : Nat) (n : Bool) (m : Nat) : Int := if I < m then 9223372036854775807 else plz n m - (if n then 1 else 0)
def rkD := rkG 9218868437227405312
def rkS := rkG 2139095040
def sto (p q : Int) : Bool := decide (-9223372036854775808 ≤ q - p ∧ q - p ≤ 9223372036854775807)
def stv (p q : Int) : Int := if -9223372036854775808 ≤ q - p ∧ q - p ≤ 9223372036854775807 then q - p else 0
theorem sto_def (p q : Int) : sto p q = decide (-9223372036854775808 ≤ q - p ∧ q - p ≤ 9223372036854775807) := rfl
theorem stv_def (p q : Int) : stv p q = if -9223372036854775808 ≤ q - p ∧ q - p ≤ 9223372036854775807 then q - p else 0 := rfl
def sti (I : Nat) (n : Bool) (m : Nat) (n' : Bool) (m' : Nat) : Int := if I < m ∨ I < m' then 0 else stv (plz n m) (plz n' m')
def stb (I : Nat) (n : Bool) (m : Nat) (n' : Bool) (m' : Nat) : Bool := if I < m ∨ I < m' then false else sto (plz n m) (plz n' m')
theorem wrapQ {x : Int} (h : -27670116110564327424 ≤ x) (h2 : x < 27670116110564327424) : (x < -9223372036854775808 ∧ wrap64 x = x + 18446744073709551616) ∨ (9223372036854775807 < x ∧ wrap64 x = x - 18446744073709551616) ∨ (-9223372036854775808 ≤ x ∧ x ≤ 9223372036854775807 ∧ wrap64 x = x) := by
  unfold wrap64; omega
def cmpz (x y : Int) : Int := if x < y then -1 else if y < x then 1 else 0

theorem plz_bd (n : Bool) (m : Nat) : -(m : Int) ≤ plz n m ∧ plz n m ≤ m := by unfold plz; cases n <;> simp <;> omega

def fD (p : Int) : Nat := wD (decide (p < 0)) p.natAbs
def fS (p : Int) : Nat := wS (decide (p < 0)) p.natAbs

def clsG (I B : Nat) (n : Bool) (m : Nat) : Int :=
  if I < m then 0 else
  let k : Int := if m = I then 3 else if B ≤ m then 2 else if 0 < m then 1 else 0
  if n then 4 - k else 5 + k
def clsD := clsG 9218868437227405312 4503599627370496
def clsS := clsG 2139095040 8388608
end Fb
set_option maxRecDepth 20000 in
set_option maxHeartbeats 1000000 in
theorem rtimes_ (p q : Option Addr) (c d : Nat) (xs ys : List Int) (w : World) (hx : Arr w p xs) (hy : Arr w q ys) (hwx : Wd xs) (hwy : Wd ys) (lx : xs.length ≤ 16777216) (ly : ys.length ≤ 16777216) :
    Calls Tryz.prog 81 #[.slice p xs.length c, .slice q ys.length d] w fun e w' => ∃ v, e = .returned v ∧ Own w' w.heap.size v (dig (val xs * val ys)) ∧ Kp w w' := by
  have h1 := words_ p c xs w hx (by omega)
  have h2 := words_ q d ys w hy (by omega)
  have lS := tl_le xs
  have lT := tl_le ys
  have hvx := val_tl xs
  have hvy := val_tl ys
  obtain ⟨N, hN⟩ : ∃ N, N = xs.length := ⟨_, rfl⟩
  obtain ⟨M, hM⟩ : ∃ M, M = ys.length := ⟨_, rfl⟩
  obtain ⟨S, hS⟩ : ∃ S, S = tl xs := ⟨_, rfl⟩
  obtain ⟨T, hT⟩ : ∃ T, T = tl ys := ⟨_, rfl⟩
  rw [← hS] at h1 lS hvx
  rw [← hT] at h2 lT hvy
  have hmk : ∀ w : World, (Instr.makeSlice 41 (.int .i64 ((S : Int) + (T : Int))) (.int .i64 ((S : Int) + (T : Int)))).run Tryz.prog w = .ok (.slice (some ⟨w.heap.size, 0, none⟩) (S + T) (S + T)) (w.alloc (.cells (madeCells #[.int .u32 0] (S + T)) 93)) := by
    have := mk32 (S + T) (by omega)
    simpa using this
  have hk1 : Kp w (w.alloc (.cells (madeCells #[.int .u32 0] (S + T)) 93)) := (Kp.refl w).alloc _
  have hrz : Rw (w.alloc (.cells (madeCells #[.int .u32 0] (S + T)) 93)) w.heap.size (S + T) (List.replicate (S + T) 0) := World.rowIs.congr (World.rowIs_made w (.int .u32 0) (S + T) 93) (fun j _ => by rw [rep0_getD])
  obtain ⟨zs0, hz0⟩ : ∃ zs0, zs0 = List.replicate (S + T) (0 : Int) := ⟨_, rfl⟩
  have hzl0 : zs0.length = S + T := by rw [hz0]; simp
  have hwz0 : Wd zs0 := by rw [hz0]; exact Wd_rep0 _
  have hzz0 : ∀ j, zs0.getD j 0 = 0 := fun j => by rw [hz0]; exact rep0_getD _ _
  have hvz0 := val_zeros zs0 hzz0
  rw [← hz0] at hrz
  have HX : Hid (Arr w p xs ∧ Wd xs ∧ val (xs.take S) = val xs) := ⟨hx, hwx, hvx⟩
  have HY : Hid (Arr w q ys ∧ Wd ys ∧ val (ys.take T) = val ys) := ⟨hy, hwy, hvy⟩
  have HN : Hid (N = xs.length ∧ M = ys.length) := ⟨hN, hM⟩
  obtain ⟨g, hg⟩ : ∃ g, g = w.heap.size := ⟨_, rfl⟩
  rw [← hg] at hrz
  have HG : Hid (g = w.heap.size) := hg
  rw [← hN] at lx h1 lS ⊢
  rw [← hM] at ly h2 lT ⊢
  clear hx hy hwx hwy hN hM hz0 hS hT hvx hvy
  go_enter Tryz.func81, Tryz.ntmps81
  go_wp2_with fail
  refine h1.mono ?_; rintro e w' ⟨rfl, hw'⟩; obtain rfl := hw'.symm
  go_wp2_with fail
  refine h2.mono ?_; rintro e w' ⟨rfl, hw'⟩; obtain rfl := hw'.symm
  go_wp2
  rw [← hg]
  clear hmk hg h1 h2
  go_loopw [8] (fun i wr => ∃ (k : Nat) (zs : List Int), i = .int .i64 k ∧ k ≤ T ∧ Rw wr g (S + T) zs ∧ zs.length = S + T ∧ Wd zs ∧ val zs = val (ys.take k) * val xs ∧ (∀ j, k + S ≤ j → zs.getD j 0 = 0) ∧ Kp w wr) (fun i _ => T - (intOf i).toNat)
  case atStart => exact ⟨0, zs0, rfl, Nat.zero_le _, hrz, hzl0, hwz0, by rw [hvz0]; simp [val], fun j _ => hzz0 j, hk1⟩
  case round =>
    clear hrz hzl0 hwz0 hzz0 hvz0 hk1
    obtain ⟨k, zs, rfl, hk, hrow, hzl, hwz, hv, hzz, hkp⟩ := hrel
    obtain ⟨hN, hM⟩ := HN.out
    by_cases ck : k < T
    · obtain ⟨b, off, rfl, hc⟩ := HY.out.1.at (k := k) (by omega)
      have e0 := hc k (by omega)
      have e1 := kkeep hkp e0
      have wy := HY.out.2.1 k
      have hrp := row_prod ys k (val xs)
      obtain ⟨Y, hY⟩ : ∃ Y : Nat, (Y : Int) = ys.getD k 0 := ⟨(ys.getD k 0).toNat, by omega⟩
      rw [← hY] at e1 wy hrp
      rw [Int.toNat_natCast] at hrp
      have i0 : (0 : Int) ≤ (k : Int) := by omega
      have i1 : (k : Int) < (T : Int) := by omega
      have i1' : (k : Int) < (M : Int) := by omega
      by_cases cY : Y = 0
      · subst cY
        have hv2 : val zs = val (ys.take (k + 1)) * val xs := by rw [← hrp, hv]; simp
        have t1 : (((0 : Nat) : Int) == 0) = true := by simp
        clear hc e0 HX HY HN HG hN hM hY wy hrp hv
        go_wp2
        exact ⟨⟨k + 1, zs, by go_num, by omega, hrow, hzl, hwz, hv2, fun j hj => hzz j (by omega), hkp⟩, by simp [intOf]; omega⟩
      · have t1 : ((Y : Int) == 0) = false := by simp; omega
        have fY : IntKind.u64.wrap (Y : Int) = (Y : Int) := by rw [IntKind.wrap_u64]; omega
        have hY32 : Y < 4294967296 := by omega
        have HV : Hid (val zs + val xs * Y * 4294967296 ^ k = val (ys.take (k + 1)) * val xs ∧ (∀ j, k + S ≤ j → zs.getD j 0 = 0)) := ⟨by rw [hv]; exact hrp, hzz⟩
        clear hc e0 HY hN hM hY wy hrp hv hzz
        go_wp2
        clear t1 fY
        go_loopw [10, 11] (fun cc ii wq => ∃ (m C : Nat) (us : List Int), cc = .int .u64 (C : Int) ∧ ii = .int .i64 m ∧ m ≤ S ∧ Rw wq g (S + T) us ∧ us.length = S + T ∧ Wd us ∧ C < 4294967296 ∧ val us + C * 4294967296 ^ (k + m) = val zs + val (xs.take m) * Y * 4294967296 ^ k ∧ (∀ j, k + m ≤ j → us.getD j 0 = zs.getD j 0) ∧ Kp w wq) (fun _ i _ => S - (intOf i).toNat)
        case atStart => exact ⟨0, 0, zs, rfl, rfl, Nat.zero_le _, hrow, hzl, hwz, by omega, by simp [val], fun j _ => rfl, hkp⟩
        case round =>
          clear hrow hwz hkp e1
          obtain ⟨m, C, us, rfl, rfl, hm, hrow, hul, hwu, hC, hv, hsam, hkp⟩ := hrel
          obtain ⟨hN, hM⟩ := HN.out
          by_cases cm : m < S
          · obtain ⟨b', off', rfl, hc'⟩ := HX.out.1.at (k := m) (by omega)
            have e2 := kkeep hkp (hc' m (by omega))
            have e1 := World.rowIs.cell hrow (i := m + k) (by omega)
            have wx := HX.out.2.1 m
            have wz := hwu (m + k)
            obtain ⟨X, hX⟩ : ∃ X : Nat, (X : Int) = xs.getD m 0 := ⟨(xs.getD m 0).toNat, by omega⟩
            obtain ⟨Z0, hZ0⟩ : ∃ Z0 : Nat, (Z0 : Int) = us.getD (m + k) 0 := ⟨(us.getD (m + k) 0).toNat, by omega⟩
            rw [← hX] at e2
            rw [← hZ0] at e1
            have hmw := mul_word X Y C Z0 (by omega) hY32 hC (by omega)
            obtain ⟨P, hP⟩ : ∃ P, P = X * Y := ⟨_, rfl⟩
            rw [← hP] at hmw
            obtain ⟨Q, hQ⟩ : ∃ Q : Nat, Q = (Z0 : Int).toNat + ((P : Nat) : Int).toNat + C := ⟨_, rfl⟩
            rw [Nat.add_comm m k] at hZ0
            have hst := sum_step us (k + m) C Q _ (Z0 : Int) (P : Int) (by omega) hZ0.symm hQ hv
            simp only [Int.toNat_natCast] at hQ hst
            have hg2 := mul_grow xs Y k m
            rw [← hX, Int.toNat_natCast, ← hP] at hg2
            rw [Nat.add_assoc (val zs), ← hg2, Nat.add_assoc k m 1] at hst
            have f1 : IntKind.u64.wrap (X : Int) = (X : Int) := by rw [IntKind.wrap_u64]; omega
            have f2 : IntKind.u64.wrap ((X : Int) * (Y : Int)) = (P : Int) := by
              have : (X : Int) * (Y : Int) = (P : Int) := by rw [hP]; exact (Int.natCast_mul X Y).symm
              rw [this, IntKind.wrap_u64]; omega
            have f3 : IntKind.u64.wrap (Z0 : Int) = (Z0 : Int) := by rw [IntKind.wrap_u64]; omega
            have f4 : IntKind.u64.wrap ((C : Int) + (Z0 : Int)) = (C : Int) + (Z0 : Int) := by rw [IntKind.wrap_u64]; omega
            have f5 : IntKind.u64.wrap ((C : Int) + (Z0 : Int) + (P : Int)) = (Q : Int) := by rw [IntKind.wrap_u64]; omega
            have f8 := and32 Q (by omega)
            obtain ⟨Z, hZ⟩ : ∃ Z : Nat, Z = Q % 4294967296 := ⟨_, rfl⟩
            obtain ⟨C', hC2⟩ : ∃ C' : Nat, C' = Q / 4294967296 := ⟨_, rfl⟩
            rw [← hZ] at f8
            have f6 : IntKind.u32.wrap (Z : Int) = (Z : Int) := by rw [IntKind.wrap_u32]; omega
            have f7 : (Q : Int) / 4294967296 = (C' : Int) := by omega
            rw [← hZ, ← hC2] at hst
            have hC' : C' < 4294967296 := by omega
            have hw2 : Wd (us.set (m + k) (Z : Int)) := hwu.set (m + k) Z (by omega)
            have hl2 : (us.set (m + k) (Z : Int)).length = S + T := by rw [List.length_set]; exact hul
            have hsam2 : ∀ j, k + (m + 1) ≤ j → (us.set (m + k) (Z : Int)).getD j 0 = zs.getD j 0 := fun j h1 => by
              rw [← hsam j (by omega)]; simp [List.getD, show ¬ m + k = j from by omega]
            have ekm : k + m = m + k := Nat.add_comm k m
            rw [ekm] at hst
            clear ekm
            have hik : m + k < us.length := by omega
            have hik2 : m + k < S + T := by omega
            have j0 : (0 : Int) ≤ (m : Int) := by omega
            have j1 : (m : Int) < (S : Int) := by omega
            have j2 : (m : Int) < (N : Int) := by omega
            have j3 : (0 : Int) ≤ (m : Int) + (k : Int) := by omega
            have j4 : (m : Int) + (k : Int) < (S : Int) + (T : Int) := by omega
            have hgw : w.heap.size ≤ g := by rw [HG.out]; exact Nat.le_refl _
            clear hc' HX HN HG hN hM hX hZ0 hZ hC2 hQ hv hP hg2 wx wz hwu hC hsam hul hmw HV hzl
            go_wp2
            refine wp_region_kp (by kernel_rfl) (by kernel_rfl) (fun ι _ G hG hall => ?_)
            have c0 : ∀ n, (G n).cell? ⟨g, m + k, none⟩ = some (.int .u32 (Z0 : Int)) := fun n => kkeep (hG n) e1
            have c1 : ∀ n, (G n).cell? ⟨b', off' + m, none⟩ = some (.int .u32 (X : Int)) := fun n => kkeep (hG n) e2
            repeat (go_big_quiet_step (fail))
            refine wpQuiet_nil ?_
            rintro _ ⟨nq, rfl⟩
            have gq := hG nq
            replace hrow := hrow.grown gq
            have e3 := World.rowIs.cell hrow (i := m + k) hik2
            have e4 := World.rowIs.frozen hrow (m + k)
            have hR := hrow.set (m + k) (Z : Int) hik
            have hK := (hkp.trans gq).setCell (p := ⟨g, m + k, none⟩) hgw (.int .u32 (Z : Int))
            clear c0 c1 hall hG gq e1 e2 hrow hkp
            go_wp2
            exact ⟨⟨m + 1, C', us.set (m + k) (Z : Int), by go_num, by go_num, by omega, hR, hl2, hw2, hC', hst, hsam2, hK⟩, by simp [intOf]; omega⟩
          · have hmS : m = S := by omega
            subst hmS
            have hvx := HX.out.2.2
            rw [hvx] at hv
            obtain ⟨hV1, hV2⟩ := HV.out
            have hu0 : us.getD (k + m) 0 = 0 := by rw [hsam _ (Nat.le_refl _)]; exact hV2 _ (Nat.le_refl _)
            have hvs := val_set us (k + m) (C : Int) (by omega)
            rw [hu0, Int.toNat_natCast, hv, hV1] at hvs
            have hv3 : val (us.set (k + m) (C : Int)) = val (ys.take (k + 1)) * val xs := by simpa using hvs
            have hgw : w.heap.size ≤ g := by rw [HG.out]; exact Nat.le_refl _
            have hR := hrow.set (k + m) (C : Int) (by omega)
            have hK : Kp w (wr.setCell ⟨g, k + m, none⟩ (.int .u32 (C : Int))) := hkp.setCell hgw _
            have hw3 : Wd (us.set (k + m) (C : Int)) := hwu.set _ _ (by omega)
            have hl3 : (us.set (k + m) (C : Int)).length = m + T := by rw [List.length_set]; exact hul
            have hz3 : ∀ j, k + 1 + m ≤ j → (us.set (k + m) (C : Int)).getD j 0 = 0 := fun j hj => by
              have e1 : (us.set (k + m) (C : Int)).getD j 0 = us.getD j 0 := by simp [List.getD, show ¬ k + m = j from by omega]
              rw [e1, hsam j (by omega)]
              exact hV2 j (by omega)
            have e3 := World.rowIs.cell hrow (i := k + m) (by omega)
            have e4 := World.rowIs.frozen hrow (k + m)
            have f6 : IntKind.u32.wrap (C : Int) = (C : Int) := by rw [IntKind.wrap_u32]; omega
            have i2 : ¬ ((m : Int) < (m : Int)) := by omega
            have j3 : (0 : Int) ≤ (k : Int) + (m : Int) := by omega
            have j4 : (k : Int) + (m : Int) < (m : Int) + (T : Int) := by omega
            clear HX HN HG hN hM hv hvs hsam hkp hrow HV hV1 hV2 hvx hwu hul hu0 hC cm hm hzl
            go_wp2
            exact ⟨⟨k + 1, us.set (k + m) (C : Int), by go_num, by omega, hR, hl3, hw3, hv3, hz3, hK⟩, by simp [intOf]; omega⟩
    · have hkN : k = T := by omega
      subst hkN
      have hvy := HY.out.2.2
      rw [hvy] at hv
      have hA := hrow.arr (S + k) (Nat.le_refl _) (by omega)
      rw [List.take_of_length_le (by omega)] at hA
      have hno := rnorm_ (some ⟨g, 0, none⟩) (S + k) zs wr hA (by omega)
      rw [nz_dig zs hwz, hv, hzl, Nat.mul_comm] at hno
      have hsz := hkp.size
      have i2 : ¬ ((k : Int) < (k : Int)) := by omega
      clear hA hrow hzl hwz hv HX HY HN HG hN hM hzz hvy hk ck
      go_wp2_with fail
      refine hno.mono ?_
      rintro e w2 ⟨v2, rfl, hO2, hk2⟩
      clear hno
      go_wp2
      exact bodyPost_ret (v := v2) (by simp [results, Tryz.results81, go_sem] <;> simp only [*]) rfl ⟨v2, rfl, hO2.mono hsz, hkp.trans hk2⟩
end Go.Proofs.YtidpeakojcgngaaGreatDoor
