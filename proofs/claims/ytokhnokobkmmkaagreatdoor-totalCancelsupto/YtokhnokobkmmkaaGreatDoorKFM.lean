import Derived.Test.YtokhnokobkmmkaaGreatDoorKNSm
namespace Go.Proofs.YtokhnokobkmmkaaGreatDoor
open Go.RowKit
namespace Fb
open Ieee

def rg (f : Format) (x : Nat) : Nat := x % f.signWeight
def ng (f : Format) (x : Nat) : Bool := x / f.signWeight % 2 == 1
def pl (f : Format) (x : Nat) : Int := if ng f x then -(rg f x : Int) else rg f x
def eE (f : Format) (r : Nat) : Nat := if r < f.binade then 0 else r / f.binade - 1
def mM (f : Format) (r : Nat) : Nat := if r < f.binade then r else f.binade + r % f.binade
def vV (f : Format) (r : Nat) : Nat := mM f r * 2 ^ eE f r

theorem binade_pos (f : Format) : 0 < f.binade := Nat.two_pow_pos _

theorem vV_step (f : Format) (r : Nat) : vV f r < vV f (r + 1) := by
  have hB := binade_pos f
  unfold vV mM eE
  generalize f.binade = B at *
  by_cases h1 : r + 1 < B
  · have : r < B := by omega
    simp [h1, this]
  · by_cases h2 : r < B
    · have h3 : r + 1 = B := by omega
      simp [h2, h3]
      rw [Nat.div_self hB]; simp; omega
    · have hq : 1 ≤ r / B := (Nat.le_div_iff_mul_le hB).2 (by omega)
      simp only [h1, h2, if_false]
      have hdm := Nat.div_add_mod r B
      have hm := Nat.mod_lt r hB
      by_cases h4 : r % B + 1 < B
      · have e1 : (r + 1) / B = r / B := by
          rw [show r + 1 = (r % B + 1) + B * (r / B) from by omega, Nat.add_mul_div_left _ _ hB, Nat.div_eq_of_lt h4]; omega
        have e2 : (r + 1) % B = r % B + 1 := by
          rw [show r + 1 = (r % B + 1) + B * (r / B) from by omega, Nat.add_mul_mod_self_left, Nat.mod_eq_of_lt h4]
        rw [e1, e2]
        exact Nat.mul_lt_mul_of_pos_right (by omega) (Nat.two_pow_pos _)
      · have e0 : r + 1 = B * (r / B + 1) := by rw [Nat.mul_add]; omega
        have e1 : (r + 1) / B = r / B + 1 := by rw [e0, Nat.mul_div_cancel_left _ hB]
        have e2 : (r + 1) % B = 0 := by rw [e0, Nat.mul_mod_right]
        rw [e1, e2]
        obtain ⟨k, hk⟩ : ∃ k, r / B = k + 1 := ⟨r / B - 1, by omega⟩
        rw [hk]
        simp only [Nat.add_sub_cancel, Nat.add_zero]
        rw [Nat.pow_succ, Nat.mul_comm (2 ^ k) 2, ← Nat.mul_assoc]
        exact Nat.mul_lt_mul_of_pos_right (by omega) (Nat.two_pow_pos _)

theorem vV_lt (f : Format) {r s : Nat} (h : r < s) : vV f r < vV f s := by
  induction s with
  | zero => omega
  | succ s ih =>
    by_cases e : r = s
    · subst e; exact vV_step f r
    · exact Nat.lt_trans (ih (by omega)) (vV_step f s)

theorem vV_lt_iff (f : Format) (r s : Nat) : vV f r < vV f s ↔ r < s := by
  constructor
  · intro h
    by_cases c : r < s
    · exact c
    · exfalso
      by_cases e : r = s
      · subst e; omega
      · have := vV_lt f (r := s) (s := r) (by omega); omega
  · exact vV_lt f

theorem vV_inj (f : Format) (r s : Nat) : vV f r = vV f s ↔ r = s := by
  constructor
  · intro h
    by_cases c : r < s
    · have := vV_lt f c; omega
    · by_cases d : s < r
      · have := vV_lt f d; omega
      · omega
  · intro h; rw [h]

theorem vV_zero (f : Format) : vV f 0 = 0 := by
  unfold vV mM; simp [binade_pos f]

theorem read_fin (f : Format) (x : Nat) (h : rg f x < f.infRung) :
    f.read x = .number (ng f x) (mM f (rg f x)) (f.leastPlace + (eE f (rg f x) : Nat)) := by
  unfold Format.read mM eE
  change (if rg f x < f.binade then _ else _) = _
  by_cases c : rg f x < f.binade
  · rw [if_pos c, if_pos c, if_pos c, Int.natCast_zero, Int.add_zero]; rfl
  · rw [if_neg c]
    change (if rg f x < f.infRung then _ else _) = _
    rw [if_pos h, if_neg c, if_neg c]; rfl

theorem read_inf (f : Format) (x : Nat) (hb : f.binade ≤ f.infRung) (h : rg f x = f.infRung) :
    f.read x = .infinity (ng f x) := by
  unfold Format.read
  change (if rg f x < f.binade then _ else if rg f x < f.infRung then _ else if rg f x = f.infRung then _ else _) = _
  rw [if_neg (by omega), if_neg (by omega), if_pos h]; rfl

theorem read_nan (f : Format) (x : Nat) (hb : f.binade ≤ f.infRung) (h : f.infRung < rg f x) :
    f.read x = .nan (ng f x) (rg f x - f.infRung) := by
  unfold Format.read
  change (if rg f x < f.binade then _ else if rg f x < f.infRung then _ else if rg f x = f.infRung then _ else _) = _
  rw [if_neg (by omega), if_neg (by omega), if_neg (by omega)]; rfl

theorem cmp_congr {a b c d : Int} (h1 : a < b ↔ c < d) (h2 : a = b ↔ c = d) : compare a b = compare c d := by
  simp only [compare, compareOfLessAndEq, h1, h2]

theorem cmp_lt {a b : Int} (h : a < b) : compare a b = .lt := by simp [compare, compareOfLessAndEq, h]
theorem cmp_gt {a b : Int} (h : b < a) : compare a b = .gt := by
  have h1 : ¬ a < b := by omega
  have h2 : a ≠ b := by omega
  simp [compare, compareOfLessAndEq, h1, h2]
theorem cmp_eq {a b : Int} (h : a = b) : compare a b = .eq := by subst h; simp [compare, compareOfLessAndEq]

theorem signed_eq (s : Bool) (m k : Nat) : signed s m k = if s then -((m * 2 ^ k : Nat) : Int) else ((m * 2 ^ k : Nat) : Int) := by
  unfold signed; rw [Nat.shiftLeft_eq]

def sV (f : Format) (x : Nat) : Int := if ng f x then -(vV f (rg f x) : Int) else vV f (rg f x)

theorem sV_lt (f : Format) (x y : Nat) : sV f x < sV f y ↔ pl f x < pl f y := by
  have h1 := vV_lt_iff f (rg f x) (rg f y)
  have h2 := vV_lt_iff f (rg f y) (rg f x)
  have h3 := vV_inj f (rg f x) 0
  have h4 := vV_inj f (rg f y) 0
  rw [vV_zero] at h3 h4
  unfold sV pl
  cases ng f x <;> cases ng f y <;> simp <;> omega

theorem sV_eq (f : Format) (x y : Nat) : sV f x = sV f y ↔ pl f x = pl f y := by
  have h1 := vV_inj f (rg f x) (rg f y)
  have h3 := vV_inj f (rg f x) 0
  have h4 := vV_inj f (rg f y) 0
  rw [vV_zero] at h3 h4
  unfold sV pl
  cases ng f x <;> cases ng f y <;> simp <;> omega

theorem scale (f : Format) (x : Nat) (b : Int) (c : Nat) (hb : b = f.leastPlace + (c : Nat)) (hc : c ≤ eE f (rg f x)) :
    signed (ng f x) (mM f (rg f x)) (f.leastPlace + (eE f (rg f x) : Nat) - b).toNat * (2 ^ c : Nat) = sV f x := by
  subst hb
  rw [signed_eq, show (f.leastPlace + (eE f (rg f x) : Nat) - (f.leastPlace + (c : Nat)) : Int).toNat = eE f (rg f x) - c from by omega]
  unfold sV vV
  have e : mM f (rg f x) * 2 ^ eE f (rg f x) = mM f (rg f x) * 2 ^ (eE f (rg f x) - c) * 2 ^ c := by
    rw [Nat.mul_assoc, ← Nat.pow_add, Nat.sub_add_cancel hc]
  rw [e]
  cases ng f x
  · simp only [Bool.false_eq_true, if_false]; exact (Int.natCast_mul _ _).symm
  · simp only [if_true]; rw [Int.neg_mul]; congr 1

theorem order_fin (f : Format) (x y : Nat) (hx : rg f x < f.infRung) (hy : rg f y < f.infRung) :
    f.order x y = some (compare (pl f x) (pl f y)) := by
  unfold Format.order
  rw [read_fin f x hx, read_fin f y hy]
  simp only [Datum.order]
  congr 1
  have hm : min (f.leastPlace + (eE f (rg f x) : Nat)) (f.leastPlace + (eE f (rg f y) : Nat)) = f.leastPlace + ((min (eE f (rg f x)) (eE f (rg f y)) : Nat) : Int) := by omega
  have sx := scale f x _ _ hm (Nat.min_le_left _ _)
  have sy := scale f y _ _ hm (Nat.min_le_right _ _)
  have hp : (0 : Int) < ((2 ^ (min (eE f (rg f x)) (eE f (rg f y))) : Nat) : Int) := by exact_mod_cast Nat.two_pow_pos _
  refine cmp_congr ?_ ?_
  · rw [← sV_lt, ← sx, ← sy]
    exact (Int.mul_lt_mul_right hp).symm
  · rw [← sV_eq, ← sx, ← sy]
    constructor
    · intro h; rw [h]
    · intro h; exact Int.eq_of_mul_eq_mul_right (by omega) h

theorem order_num (f : Format) (x y : Nat) (hb : f.binade ≤ f.infRung) (hx : rg f x ≤ f.infRung) (hy : rg f y ≤ f.infRung) :
    f.order x y = some (compare (pl f x) (pl f y)) := by
  have hB := binade_pos f
  by_cases cx : rg f x < f.infRung
  · by_cases cy : rg f y < f.infRung
    · exact order_fin f x y cx cy
    · have ey : rg f y = f.infRung := by omega
      unfold Format.order
      rw [read_fin f x cx, read_inf f y hb ey]
      simp only [Datum.order]
      congr 1
      unfold pl
      rw [ey]
      cases ng f x <;> cases ng f y <;> simp only [Bool.false_eq_true, if_false, if_true] <;> symm <;> first | (apply cmp_lt; omega) | (apply cmp_gt; omega)
  · have ex : rg f x = f.infRung := by omega
    by_cases cy : rg f y < f.infRung
    · unfold Format.order
      rw [read_inf f x hb ex, read_fin f y cy]
      simp only [Datum.order]
      congr 1
      unfold pl
      rw [ex]
      cases ng f x <;> cases ng f y <;> simp only [Bool.false_eq_true, if_false, if_true] <;> symm <;> first | (apply cmp_lt; omega) | (apply cmp_gt; omega)
    · have ey : rg f y = f.infRung := by omega
      unfold Format.order
      rw [read_inf f x hb ex, read_inf f y hb ey]
      simp only [Datum.order]
      congr 1
      unfold pl
      rw [ex, ey]
      cases ng f x <;> cases ng f y <;> simp only [Bool.false_eq_true, if_false, if_true]
      · rw [cmp_eq rfl]; rfl
      · rw [cmp_gt (by omega)]; rfl
      · rw [cmp_lt (by omega)]; rfl
      · rw [cmp_eq rfl]; rfl

theorem order_nan_left (f : Format) (x y : Nat) (hb : f.binade ≤ f.infRung) (hx : f.infRung < rg f x) : f.order x y = none := by
  unfold Format.order; rw [read_nan f x hb hx]; rfl

theorem order_nan_right (f : Format) (x y : Nat) (hb : f.binade ≤ f.infRung) (hy : f.infRung < rg f y) : f.order x y = none := by
  unfold Format.order; rw [read_nan f y hb hy]
  cases f.read x <;> rfl



/-! ### words by sign and rung -/
def plz (n : Bool) (m : Nat) : Int := if n then -(m : Int) else m
def wD (n : Bool) (m : Nat) : Nat := if n then 9223372036854775808 + m else m
theorem signD : double.signWeight = 9223372036854775808 := by decide +kernel
theorem infD : double.infRung = 9218868437227405312 := by decide +kernel
theorem binD : double.binade = 4503599627370496 := by decide +kernel
theorem binfD : double.binade ≤ double.infRung := by rw [binD, infD]; decide
theorem rgD (n : Bool) (m : Nat) (h : m < 9223372036854775808) : rg double (wD n m) = m := by
  unfold rg wD; rw [signD]; cases n <;> simp <;> omega
theorem ngD (n : Bool) (m : Nat) (h : m < 9223372036854775808) : ng double (wD n m) = n := by
  unfold ng wD; rw [signD]; cases n <;> simp <;> omega
theorem exD (x : Nat) (h : x < 18446744073709551616) : ∃ n m, m < 9223372036854775808 ∧ x = wD n m := by
  by_cases c : x < 9223372036854775808
  · exact ⟨false, x, c, rfl⟩
  · exact ⟨true, x - 9223372036854775808, by omega, by unfold wD; simp; omega⟩
theorem ordD (n n' : Bool) (m m' : Nat) (h : m ≤ 9218868437227405312) (h' : m' ≤ 9218868437227405312) :
    FloatKind.f64.format.order (wD n m) (wD n' m') = some (compare (plz n m) (plz n' m')) := by
  have e := order_num double (wD n m) (wD n' m') binfD (by rw [rgD n m (by omega), infD]; exact h) (by rw [rgD n' m' (by omega), infD]; exact h')
  have p1 : pl double (wD n m) = plz n m := by unfold pl plz; rw [rgD n m (by omega), ngD n m (by omega)]
  have p2 : pl double (wD n' m') = plz n' m' := by unfold pl plz; rw [rgD n' m' (by omega), ngD n' m' (by omega)]
  rw [p1, p2] at e; exact e
theorem ordD_nanl (n : Bool) (m y : Nat) (h : 9218868437227405312 < m) (h2 : m < 9223372036854775808) : FloatKind.f64.format.order (wD n m) y = none :=
  order_nan_left double _ _ binfD (by rw [rgD n m h2, infD]; exact h)
theorem ordD_nanr (n : Bool) (m y : Nat) (h : 9218868437227405312 < m) (h2 : m < 9223372036854775808) : FloatKind.f64.format.order y (wD n m) = none :=
  order_nan_right double _ _ binfD (by rw [rgD n m h2, infD]; exact h)
theorem xor_top (k m : Nat) (h : m < 2 ^ k) : m ^^^ 2 ^ k = 2 ^ k + m := by
  apply Nat.eq_of_testBit_eq
  intro i
  rw [Nat.testBit_xor, Nat.testBit_two_pow]
  by_cases c : k = i
  · subst c
    rw [Nat.testBit_two_pow_add_eq, Nat.testBit_lt_two_pow h]; simp
  · by_cases d : i < k
    · rw [Nat.testBit_two_pow_add_gt d]; simp [c]
    · have g : k < i := by omega
      have l1 : m < 2 ^ i := Nat.lt_of_lt_of_le h (Nat.pow_le_pow_right (by decide) (by omega))
      have l2 : 2 ^ k + m < 2 ^ i := Nat.lt_of_lt_of_le (by rw [Nat.pow_succ]; omega : 2 ^ k + m < 2 ^ (k + 1)) (Nat.pow_le_pow_right (by decide) (by omega))
      rw [Nat.testBit_lt_two_pow l1, Nat.testBit_lt_two_pow l2]; simp [c]

theorem negD (n : Bool) (m : Nat) (h : m < 9223372036854775808) : Op.negFloat .f64 (wD n m) = wD (!n) m := by
  have e := xor_top 63 m h
  have h2 : Op.negFloat .f64 (wD n m) = wD n m ^^^ 2 ^ 63 := rfl
  rw [h2]
  cases n
  · show m ^^^ 2 ^ 63 = _; rw [e]; rfl
  · show (2 ^ 63 + m) ^^^ 2 ^ 63 = m
    rw [← e, Nat.xor_assoc, Nat.xor_self, Nat.xor_zero]
theorem andD (n : Bool) (m : Nat) (h : m < 9223372036854775808) : RowKit.wrap64 (bits .andNot .u64 ((wD n m : Nat) : Int) 9223372036854775808) = (m : Int) := by
  have e := u64_andNot_nat (wD n m) 9223372036854775808 (by unfold wD; split <;> omega) (by decide)
  have e2 : wD n m &&& (18446744073709551615 - 9223372036854775808) = m := by
    have := Nat.and_two_pow_sub_one_eq_mod (wD n m) 63
    rw [show (18446744073709551615 - 9223372036854775808 : Nat) = 2 ^ 63 - 1 from by decide, this]
    unfold wD; split <;> omega
  rw [e2] at e
  have e3 : bits .andNot .u64 ((wD n m : Nat) : Int) 9223372036854775808 = (m : Int) := e
  rw [e3]; unfold RowKit.wrap64; omega
theorem shrD (n : Bool) (m : Nat) (h : m < 9223372036854775808) : (((wD n m : Nat) : Int) / 9223372036854775808 != 0) = n := by
  unfold wD; cases n <;> simp <;> omega
theorem wrapU {x : Int} (h : 0 ≤ x) (h2 : x < 18446744073709551616) : IntKind.u64.wrap x = x := by
  rw [IntKind.wrap_u64]; omega
theorem wrapI {x : Int} (h : -9223372036854775808 ≤ x) (h2 : x < 9223372036854775808) : wrap64 x = x := by
  unfold wrap64; omega
def sgG (B I : Nat) (m : Nat) : Nat := if m < B then m else if m < I then B + m % B else m % B
def epG (L : Int) (B I : Nat) (m : Nat) : Int := if m < B then L else if m < I then L + (m / B : Nat) - 1 else L
def sgD := sgG 4503599627370496 9218868437227405312
def epD := epG (-1074) 4503599627370496 9218868437227405312
def cmpz (x y : Int) : Int := if x < y then -1 else if y < x then 1 else 0

theorem plz_bd (n : Bool) (m : Nat) : -(m : Int) ≤ plz n m ∧ plz n m ≤ m := by unfold plz; cases n <;> simp <;> omega

def fD (p : Int) : Nat := wD (decide (p < 0)) p.natAbs
end Fb
set_option maxRecDepth 20000 in
set_option maxHeartbeats 400000 in
theorem div32_ (hi lo b : Nat) (h0 : 0 < b) (h1 : hi < b) (h2 : b < 4294967296) (h3 : lo < 4294967296) (w : World) : Calls Tryz.prog 148 #[.int .u32 (hi : Int), .int .u32 (lo : Int), .int .u32 (b : Int)] w fun e w' => e = .returned (.tuple #[.int .u32 (((hi * 4294967296 + lo) / b : Nat) : Int), .int .u32 (((hi * 4294967296 + lo) % b : Nat) : Int)]) ∧ w' = w.drew := by
  obtain ⟨d1, d2, d3⟩ := div_word hi lo b h0 h1
  obtain ⟨hd, hhd⟩ : ∃ hd, hd = hi * 4294967296 + lo := ⟨_, rfl⟩
  rw [← hhd] at d2 d3 ⊢
  obtain ⟨q0, hq0⟩ : ∃ q0, q0 = hd / b := ⟨_, rfl⟩
  obtain ⟨r0, hr0⟩ : ∃ r0, r0 = hd % b := ⟨_, rfl⟩
  have fq : (hd : Int) / (b : Int) = (q0 : Int) := by rw [hq0]; exact (Int.natCast_ediv hd b).symm
  have fr : (hd : Int) % (b : Int) = (r0 : Int) := by rw [hr0]; exact (Int.natCast_emod hd b).symm
  have fq2 : Int.tdiv (hd : Int) (b : Int) = (q0 : Int) := by rw [hq0]; rfl
  have fr2 : Int.tmod (hd : Int) (b : Int) = (r0 : Int) := by rw [hr0]; rfl
  rw [← hr0] at d2
  rw [← hq0] at d3
  rw [← hq0, ← hr0]
  have hq32 := d3 h3
  have fq3 : IntKind.u64.wrap (q0 : Int) = (q0 : Int) := by rw [IntKind.wrap_u64]; omega
  have fr3 : IntKind.u64.wrap (r0 : Int) = (r0 : Int) := by rw [IntKind.wrap_u64]; omega
  have fq4 : IntKind.u32.wrap (q0 : Int) = (q0 : Int) := by rw [IntKind.wrap_u32]; omega
  have fr4 : IntKind.u32.wrap (r0 : Int) = (r0 : Int) := by rw [IntKind.wrap_u32]; omega
  obtain ⟨S, hS⟩ : ∃ S, S = hi * 4294967296 := ⟨_, rfl⟩
  have f1 : IntKind.u64.wrap (hi : Int) = (hi : Int) := by rw [IntKind.wrap_u64]; omega
  have f2 : IntKind.u64.wrap (lo : Int) = (lo : Int) := by rw [IntKind.wrap_u64]; omega
  have f2b : IntKind.u64.wrap (b : Int) = (b : Int) := by rw [IntKind.wrap_u64]; omega
  have f3 : IntKind.u64.wrap ((hi : Int) * 4294967296) = (S : Int) := by rw [IntKind.wrap_u64]; omega
  have f4 : bits BinOp.or IntKind.u64 (S : Int) (lo : Int) = (hd : Int) := by
    rw [hS, bits_or_u64_nat (hi * 4294967296) lo (by omega) (by omega)]
    have e2 : hi * 4294967296 ||| lo = hd := by
      rw [Nat.or_comm, hhd]
      have := or_low lo hi 32 (by omega)
      rw [show (2 : Nat) ^ 32 = 4294967296 from rfl] at this
      omega
    rw [e2]
  have t0 : ¬ b = 0 := by omega
  have t1 : ¬ ((b : Int) ≤ (hi : Int)) := by omega
  clear d1 d2 d3 hhd hq0 hr0 hq32 hS h0 h1 h2 h3
  go_enter Tryz.func148, Tryz.ntmps148
  go_wp2
  go_region
  clear fq fr fq2 fr2 fq3 fr3 fq4 fr4 f1 f2 f2b f3 f4 t0 t1
  go_wp2
  exact bodyPost_ret (v := .tuple #[.int .u32 (q0 : Int), .int .u32 (r0 : Int)]) (by simp [results, Tryz.results148, go_sem]) rfl ⟨rfl, rfl⟩
set_option maxRecDepth 20000 in
set_option maxHeartbeats 1000000 in
theorem byWord_ (p : Option Addr) (c b : Nat) (xs : List Int) (w : World) (hx : Arr w p xs) (hwx : Wd xs) (lx : xs.length ≤ 1048576) (hb0 : 0 < b) (hb1 : b < 4294967296) :
    Calls Tryz.prog 141 #[.slice p xs.length c, .int .u32 (b : Int)] w fun e w' => ∃ v, e = .returned v ∧ Two w' w.heap.size (dig (val xs / b)) (dig (val xs % b)) v ∧ Kp w w' := by
  obtain ⟨N, hN⟩ : ∃ N, N = xs.length := ⟨_, rfl⟩
  rw [← hN]
  have lN : N ≤ 1048576 := by omega
  have hmk := mk32 N (by omega)
  obtain ⟨gq, hgq⟩ : ∃ gq, gq = w.heap.size := ⟨_, rfl⟩
  have hrq : Rw (w.alloc (.cells (madeCells #[.int .u32 0] N) 110)) w.heap.size N (List.replicate N 0) := World.rowIs.congr (World.rowIs_made w (.int .u32 0) N 110) (fun j _ => by rw [rep0_getD])
  rw [← hgq] at hrq
  have HS : Hid (Rw (w.alloc (.cells (madeCells #[.int .u32 0] N) 110)) gq N (List.replicate N 0) ∧ Kp w (w.alloc (.cells (madeCells #[.int .u32 0] N) 110)) ∧ w.heap.size ≤ gq) := ⟨hrq, (Kp.refl w).alloc _, by omega⟩
  have HX : Hid (Arr w p xs ∧ Wd xs ∧ N = xs.length ∧ 0 < b ∧ b < 4294967296) := ⟨hx, hwx, hN, hb0, hb1⟩
  clear hx hwx lx hb0 hb1 hN hrq
  go_enter Tryz.func141, Tryz.ntmps141
  go_wp2
  rw [← hgq]
  clear hgq
  go_loopw [6, 14] (fun rr ii wr => ∃ (k rest : Nat) (qs : List Int), rr = .int .u32 (rest : Int) ∧ ii = .int .i64 k ∧ k ≤ N ∧ rest < b ∧ Rw wr gq N qs ∧ qs.length = N ∧ Wd qs ∧ (∀ j, j < N - k → qs.getD j 0 = 0) ∧ val qs * b + rest * 4294967296 ^ (N - k) + val (xs.take (N - k)) = val xs ∧ Kp w wr) (fun _ i _ => N - (intOf i).toNat)
  case atStart =>
    obtain ⟨hrq, hk, hg⟩ := HS.out
    obtain ⟨hx, hwx, hN, hb0, hb1⟩ := HX.out
    refine ⟨0, 0, List.replicate N 0, rfl, rfl, Nat.zero_le _, hb0, hrq, by simp, fun j => by rw [rep0_getD]; omega, fun j _ => rep0_getD N j, ?_, hk⟩
    rw [val_zeros _ (fun j => rep0_getD N j), Nat.zero_mul, Nat.zero_mul, Nat.zero_add, Nat.sub_zero, List.take_of_length_le (by omega)]
  case round =>
    obtain ⟨k, rest, qs, rfl, rfl, hk, hrb, hrq, hql, hwq, hq0, hval, hkp⟩ := hrel
    obtain ⟨_, _, hgw⟩ := HS.out
    obtain ⟨hx, hwx, hN, hb0, hb1⟩ := HX.out
    by_cases ck : k < N
    · obtain ⟨r, hr⟩ : ∃ r, r = N - 1 - k := ⟨_, rfl⟩
      have hr1 : N - k = r + 1 := by omega
      rw [hr1] at hval
      obtain ⟨b', off', rfl, hc'⟩ := hx.at (k := r) (by omega)
      have e1 := kkeep hkp (hc' r (by omega))
      have hbg : b' ≠ gq := by have := cell_lt (hc' r (by omega)); omega
      have wx := hwx r
      obtain ⟨x, hx9⟩ : ∃ x : Nat, (x : Int) = xs.getD r 0 := ⟨_, Int.toNat_of_nonneg wx.1⟩
      rw [← hx9] at e1
      obtain ⟨d1, d2, d3⟩ := div_word rest x b hb0 hrb
      have hdv := div32_ rest x b hb0 hrb hb1 (by omega)
      obtain ⟨D, hD⟩ : ∃ D, D = (rest * 4294967296 + x) / b := ⟨_, rfl⟩
      obtain ⟨R, hR⟩ : ∃ R, R = (rest * 4294967296 + x) % b := ⟨_, rfl⟩
      rw [← hD, ← hR] at hdv d1
      rw [← hR] at d2
      rw [← hD] at d3
      have hD32 := d3 (by omega)
      have hst := bw_step qs xs b r D rest R x _ (by omega) (hq0 r (by omega)) (by rw [← hx9]; rfl) d1 hval
      have hrN : r < N := by omega
      have e3 := World.rowIs.cell hrq (i := r) hrN
      have e4 := World.rowIs.frozen hrq r
      have hRq : Rw (wr.drew.setCell ⟨gq, r, none⟩ (.int .u32 (D : Int))) gq N (qs.set r (D : Int)) := by
        have h : Rw wr.drew gq N qs := hrq
        exact h.set r (D : Int) (by omega)
      have hKp : Kp w (wr.drew.setCell ⟨gq, r, none⟩ (.int .u32 (D : Int))) := (hkp.drew).setCell hgw _
      have hw2 : Wd (qs.set r (D : Int)) := hwq.set r D (by omega)
      have hl2 : (qs.set r (D : Int)).length = N := by rw [List.length_set]; exact hql
      have hr2 : N - (k + 1) = r := by omega
      have hz2 : ∀ j, j < N - (k + 1) → (qs.set r (D : Int)).getD j 0 = 0 := fun j hj => by
        have e2 : (qs.set r (D : Int)).getD j 0 = qs.getD j 0 := by simp [List.getD, show ¬ r = j from by omega]
        rw [e2, hq0 j (by omega)]
      have HF : Hid (R < b ∧ Rw (wr.drew.setCell ⟨gq, r, none⟩ (.int .u32 (D : Int))) gq N (qs.set r (D : Int)) ∧ (qs.set r (D : Int)).length = N ∧ Wd (qs.set r (D : Int)) ∧ (∀ j, j < N - (k + 1) → (qs.set r (D : Int)).getD j 0 = 0) ∧ val (qs.set r (D : Int)) * b + R * 4294967296 ^ (N - (k + 1)) + val (xs.take (N - (k + 1))) = val xs ∧ Kp w (wr.drew.setCell ⟨gq, r, none⟩ (.int .u32 (D : Int)))) := ⟨d2, hRq, hl2, hw2, hz2, by rw [hr2]; exact hst, hKp⟩
      have fr : IntKind.i64.wrap ((N : Int) - 1 - (k : Int)) = (r : Int) := by rw [IntKind.wrap_i64]; omega
      have fr1 : (N : Int) - 1 - (k : Int) = (r : Int) := by omega
      have i0 : (k : Int) < (N : Int) := by omega
      have i1 : (r : Int) < (N : Int) := by omega
      have hkN : k + 1 ≤ N := by omega
      clear HX HS hx hwx hN hb0 hb1 hk hrb hrq hql hwq hq0 hval hkp hgw hr hr1 hc' wx hx9 d1 d2 d3 hD hR hD32 hst hRq hKp hw2 hl2 hr2 hz2 hmk
      go_wp2_with (first | (go_at_call 148; refine (hdv _).mono ?_; rintro e w' ⟨rfl, hw'⟩; obtain rfl := hw'.symm))
      obtain ⟨a1, a2, a3, a4, a5, a6, a7⟩ := HF.out
      exact ⟨⟨k + 1, R, qs.set r (D : Int), rfl, by go_num, hkN, a1, a2, a3, a4, a5, a6, a7⟩, by simp [intOf]; omega⟩
    · have hkN : k = N := by omega
      subst hkN
      rw [Nat.sub_self, Nat.pow_zero, Nat.mul_one, List.take_zero, show val ([] : List Int) = 0 from rfl, Nat.add_zero] at hval
      obtain ⟨he1, he2⟩ := bw_end _ _ _ _ hval hrb
      have htr := trim_ (some ⟨gq, 0, none⟩) k qs wr (hrq.all hql) (by omega) (by omega)
      have hsm := nsmall_ rest (by omega)
      rw [hql] at htr
      have hOq : ∀ w', Kp wr w' → Own w' w.heap.size (.slice (some ⟨gq, 0, none⟩) (tl qs) k) (dig (val xs / b)) := fun w' h => by
        have h1 := Own.of_row (base := w.heap.size) (k := tl qs) (hrq.grown h) hgw (by have := tl_le qs; omega) hql (by unfold maxLen; omega)
        have h2 : qs.take (tl qs) = dig (val xs / b) := by rw [← he1, ← nz_dig qs hwq]; rfl
        rw [h2] at h1
        exact h1
      have htl : tl qs = (dig (val xs / b)).length := by rw [← he1, tl_len qs hwq]; rfl
      have hgql : gq < wr.heap.size := World.rowIs.lt hrq
      obtain ⟨T, hT⟩ : ∃ T, T = tl qs := ⟨_, rfl⟩
      rw [← hT] at htr hOq htl
      have i2 : ¬ ((k : Int) < (k : Int)) := by omega
      have f1 : IntKind.u64.wrap (rest : Int) = (rest : Int) := by rw [IntKind.wrap_u64]; omega
      have HF : Hid ((∀ w', Kp wr w' → Own w' w.heap.size (.slice (some ⟨gq, 0, none⟩) T k) (dig (val xs / b))) ∧ T = (dig (val xs / b)).length ∧ gq < wr.heap.size ∧ Kp w wr ∧ rest = val xs % b) := ⟨hOq, htl, hgql, hkp, he2⟩
      clear HX HS hx hwx hN hb0 hb1 hk hrb hrq hql hwq hq0 hval hkp hgw ck he1 he2 hOq htl hgql hT hmk
      go_wp2_with (first | (go_at_call 100; refine htr.mono ?_; rintro e w' ⟨rfl, hw'⟩; obtain rfl := hw'.symm))
      refine (hsm _).mono ?_
      rintro e w' ⟨vr, rfl, hOr, hkr⟩
      obtain ⟨hOq, htl, hgql, hkp, he2⟩ := HF.out
      rw [he2] at hOr
      have hKf : Kp w w' := hkp.trans hkr
      have hTwo : Two w' w.heap.size (dig (val xs / b)) (dig (val xs % b)) (.tuple #[.slice (some ⟨gq, 0, none⟩) T k, vr]) := by
        obtain ⟨pr, cr, rfl, hor⟩ := hOr.len
        refine ⟨some ⟨gq, 0, none⟩, k, pr, cr, by rw [htl], by rw [← htl]; exact hOq w' hkr, hOr.mono hkp.size, fun g e e2 => ?_⟩
        cases e
        rw [e2] at hOr
        have h1 := hOr.above.1
        omega
      have HZ : Hid (Two w' w.heap.size (dig (val xs / b)) (dig (val xs % b)) (.tuple #[.slice (some ⟨gq, 0, none⟩) T k, vr]) ∧ Kp w w') := ⟨hTwo, hKf⟩
      clear HF hOq htl hgql hkp hKf hTwo hOr hkr htr hsm f1 he2
      go_wp2
      exact bodyPost_ret (v := .tuple #[.slice (some ⟨gq, 0, none⟩) T k, vr]) (by simp [results, Tryz.results141, go_sem]) rfl ⟨_, rfl, HZ.out.1, HZ.out.2⟩
set_option maxRecDepth 20000 in
set_option maxHeartbeats 400000 in
theorem isnan_i (x : Int) (w : World) : Calls Tryz.prog 152 #[.int .i64 x] w fun e w' => e = .returned (.bool false) ∧ w' = w := by
  go_enter Tryz.func152, Tryz.ntmps152
  go_wp2
  exact bodyPost_ret (v := .bool false) (by simp [results, Tryz.results152, go_sem] <;> simp only [*]) rfl ⟨rfl, rfl⟩
set_option maxRecDepth 20000 in
set_option maxHeartbeats 400000 in
theorem compare_i (x y : Int) (w : World) : Calls Tryz.prog 144 #[.int .i64 x, .int .i64 y] w fun e w' => e = .returned (.int .i64 (cmpz x y)) ∧ w' = w := by
  rcases (by omega : x < y ∨ y < x ∨ x = y) with c | c | c
  · have ec : cmpz x y = -1 := by unfold cmpz; simp [c]
    rw [ec]; clear ec
    go_enter Tryz.func144, Tryz.ntmps144
    go_wp2_with (first | (go_at_call 152; refine (isnan_i _ _).mono ?_; rintro e w' ⟨rfl, rfl⟩))
    exact bodyPost_ret (v := .int .i64 (-1)) (by simp [results, Tryz.results144, go_sem] <;> simp only [*]) rfl ⟨rfl, rfl⟩
  · have d : ¬ (x < y) := by omega
    have ec : cmpz x y = 1 := by unfold cmpz; simp [c, d]
    rw [ec]; clear ec
    go_enter Tryz.func144, Tryz.ntmps144
    go_wp2_with (first | (go_at_call 152; refine (isnan_i _ _).mono ?_; rintro e w' ⟨rfl, rfl⟩))
    exact bodyPost_ret (v := .int .i64 1) (by simp [results, Tryz.results144, go_sem] <;> simp only [*]) rfl ⟨rfl, rfl⟩
  · subst c
    have d : ¬ (x < x) := by omega
    have ec : cmpz x x = 0 := by unfold cmpz; simp
    rw [ec]; clear ec
    go_enter Tryz.func144, Tryz.ntmps144
    go_wp2_with (first | (go_at_call 152; refine (isnan_i _ _).mono ?_; rintro e w' ⟨rfl, rfl⟩))
    exact bodyPost_ret (v := .int .i64 0) (by simp [results, Tryz.results144, go_sem] <;> simp only [*]) rfl ⟨rfl, rfl⟩
set_option maxRecDepth 20000 in
set_option maxHeartbeats 400000 in
theorem isnan_u (x : Int) (w : World) : Calls Tryz.prog 153 #[.int .u32 x] w fun e w' => e = .returned (.bool false) ∧ w' = w := by
  go_enter Tryz.func153, Tryz.ntmps153
  go_wp2
  exact bodyPost_ret (v := .bool false) (by simp [results, Tryz.results153, go_sem] <;> simp only [*]) rfl ⟨rfl, rfl⟩
set_option maxRecDepth 20000 in
set_option maxHeartbeats 400000 in
theorem compare_u (x y : Int) (w : World) : Calls Tryz.prog 145 #[.int .u32 x, .int .u32 y] w fun e w' => e = .returned (.int .i64 (cmpz x y)) ∧ w' = w := by
  rcases (by omega : x < y ∨ y < x ∨ x = y) with c | c | c
  · have ec : cmpz x y = -1 := by unfold cmpz; simp [c]
    rw [ec]; clear ec
    go_enter Tryz.func145, Tryz.ntmps145
    go_wp2_with (first | (go_at_call 153; refine (isnan_u _ _).mono ?_; rintro e w' ⟨rfl, rfl⟩))
    exact bodyPost_ret (v := .int .i64 (-1)) (by simp [results, Tryz.results145, go_sem] <;> simp only [*]) rfl ⟨rfl, rfl⟩
  · have d : ¬ (x < y) := by omega
    have ec : cmpz x y = 1 := by unfold cmpz; simp [c, d]
    rw [ec]; clear ec
    go_enter Tryz.func145, Tryz.ntmps145
    go_wp2_with (first | (go_at_call 153; refine (isnan_u _ _).mono ?_; rintro e w' ⟨rfl, rfl⟩))
    exact bodyPost_ret (v := .int .i64 1) (by simp [results, Tryz.results145, go_sem] <;> simp only [*]) rfl ⟨rfl, rfl⟩
  · subst c
    have d : ¬ (x < x) := by omega
    have ec : cmpz x x = 0 := by unfold cmpz; simp
    rw [ec]; clear ec
    go_enter Tryz.func145, Tryz.ntmps145
    go_wp2_with (first | (go_at_call 153; refine (isnan_u _ _).mono ?_; rintro e w' ⟨rfl, rfl⟩))
    exact bodyPost_ret (v := .int .i64 0) (by simp [results, Tryz.results145, go_sem] <;> simp only [*]) rfl ⟨rfl, rfl⟩
set_option maxRecDepth 20000 in
set_option maxHeartbeats 1000000 in
theorem ncmp_ (p q : Option Addr) (c d : Nat) (xs ys : List Int) (w : World) (hx : Arr w p xs) (hy : Arr w q ys) (hwx : Wd xs) (hwy : Wd ys) (lx : xs.length ≤ 1099511627776) (ly : ys.length ≤ 1099511627776) (hc : xs.length ≤ c) (hd : ys.length ≤ d) :
    Calls Tryz.prog 133 #[.slice p xs.length c, .slice q ys.length d] w fun e w' => e = .returned (.int .i64 (cmpN (val xs) (val ys))) ∧ Kp w w' := by
  have h1 := trim_ p c xs w hx lx hc
  have h2 := trim_ q d ys w hy ly hd
  have lS := tl_le xs
  have lT := tl_le ys
  have hg : Kp w w := Kp.refl w
  have dne : tl xs ≠ tl ys → cmpz (tl xs : Int) (tl ys : Int) = cmpN (val xs) (val ys) := fun h => by
    rcases (by omega : tl xs < tl ys ∨ tl ys < tl xs) with e | e
    · rw [cmpN_lt (tl_lt_val xs ys hwx hwy e)]; unfold cmpz; rw [if_pos (by omega)]
    · rw [cmpN_gt (tl_lt_val ys xs hwy hwx e)]; unfold cmpz; rw [if_neg (by omega), if_pos (by omega)]
  have deq : tl xs = tl ys → (∀ j, j < tl xs → xs.getD j 0 = ys.getD j 0) → cmpN (val xs) (val ys) = 0 := fun e h => by
    apply cmpN_eq
    rw [← val_tl xs, ← val_tl ys, ← e]
    exact cmp_all xs ys _ h
  have tne : ∀ k, tl xs = tl ys → k < tl xs → xs.getD k 0 ≠ ys.getD k 0 → (∀ j, k < j → j < tl xs → xs.getD j 0 = ys.getD j 0) → cmpz (xs.getD k 0) (ys.getD k 0) = cmpN (val xs) (val ys) := fun k e h1 h2 h3 => by
    rcases (by omega : xs.getD k 0 < ys.getD k 0 ∨ ys.getD k 0 < xs.getD k 0) with f | f
    · rw [cmpN_lt (by rw [← val_tl xs, ← val_tl ys, ← e]; exact cmp_top xs ys hwx k (hwx k).1 f _ h1 h3)]; unfold cmpz; rw [if_pos f]
    · rw [cmpN_gt (by rw [← val_tl xs, ← val_tl ys, ← e]; exact cmp_top ys xs hwy k (hwy k).1 f _ h1 (fun j a b => (h3 j a b).symm))]; unfold cmpz; rw [if_neg (by omega), if_pos f]
  obtain ⟨R, hR⟩ : ∃ R, R = cmpN (val xs) (val ys) := ⟨_, rfl⟩
  obtain ⟨N, hN⟩ : ∃ N, N = xs.length := ⟨_, rfl⟩
  obtain ⟨M, hM⟩ : ∃ M, M = ys.length := ⟨_, rfl⟩
  obtain ⟨S, hS⟩ : ∃ S, S = tl xs := ⟨_, rfl⟩
  obtain ⟨T, hT⟩ : ∃ T, T = tl ys := ⟨_, rfl⟩
  rw [← hS, ← hN] at h1 lS
  rw [← hT, ← hM] at h2 lT
  rw [← hS, ← hT, ← hR] at dne deq tne
  rw [← hN, ← hM, ← hR]
  have HX : Hid (Arr w p xs) := hx
  have HY : Hid (Arr w q ys) := hy
  have HN : Hid (N = xs.length ∧ M = ys.length) := ⟨hN, hM⟩
  have lS2 : S ≤ 1099511627776 := by omega
  clear hx hy hwx hwy lx ly hN hM hS hT hR hc hd
  by_cases cST : S = T
  · subst cST
    have t1 : ((S : Int) != (S : Int)) = false := by simp
    have HD : Hid ((∀ j, j < S → xs.getD j 0 = ys.getD j 0) → R = 0) := deq rfl
    have HL : Hid (∀ k, k < S → xs.getD k 0 ≠ ys.getD k 0 → (∀ j, k < j → j < S → xs.getD j 0 = ys.getD j 0) → cmpz (xs.getD k 0) (ys.getD k 0) = R) := fun k => tne k rfl
    clear dne deq tne
    go_enter Tryz.func133, Tryz.ntmps133
    go_wp2_with fail
    refine h1.mono ?_; rintro e w' ⟨rfl, hw'⟩; obtain rfl := hw'.symm
    go_wp2_with fail
    refine h2.mono ?_; rintro e w' ⟨rfl, hw'⟩; obtain rfl := hw'.symm
    clear h1 h2
    go_wp2
    clear t1
    go_loopw [23] (fun i wr => ∃ (k : Nat), k ≤ S ∧ i = .int .i64 k ∧ Kp w wr ∧ ∀ j, S ≤ j + k → j < S → xs.getD j 0 = ys.getD j 0) (fun i _ => S - (intOf i).toNat)
    case atStart => exact ⟨0, Nat.zero_le _, rfl, hg, fun j _ _ => by omega⟩
    case round =>
      clear hg
      obtain ⟨k, hk, rfl, hg, hs⟩ := hrel
      by_cases ck : k < S
      · obtain ⟨hN, hM⟩ := HN.out
        obtain ⟨m, hm⟩ : ∃ m : Nat, m + k + 1 = S := ⟨S - 1 - k, by omega⟩
        obtain ⟨b, off, rfl, hc⟩ := HX.out.at (k := m) (by omega)
        obtain ⟨b', off', rfl, hc'⟩ := HY.out.at (k := m) (by omega)
        have e1 := kkeep hg (hc m (by omega))
        have e2 := kkeep hg (hc' m (by omega))
        have hm2 : m = S - 1 - k := by omega
        rw [hm2] at e1 e2
        have i0 : (0 : Int) ≤ (S : Int) - 1 - (k : Int) := by omega
        have i1 : (S : Int) - 1 - (k : Int) < (S : Int) := by omega
        have i2 : (k : Int) < (S : Int) := by omega
        have i3 : wrap64 ((S : Int) - 1) = (S : Int) - 1 := by unfold wrap64; omega
        have i5 : (k : Int) ≤ (S : Int) - 1 := by omega
        have i4 : wrap64 ((S : Int) - 1 - (k : Int)) = (S : Int) - 1 - (k : Int) := by unfold wrap64; omega
        have rl := fun h => HL.out m (by omega) h (fun j a b => hs j (by omega) b)
        have re : xs.getD m 0 = ys.getD m 0 → ∀ j, S ≤ j + (k + 1) → j < S → xs.getD j 0 = ys.getD j 0 := fun h j a b => by
          by_cases e : j = m
          · subst e; exact h
          · exact hs j (by omega) b
        obtain ⟨X, hX⟩ : ∃ X, X = xs.getD m 0 := ⟨_, rfl⟩
        obtain ⟨Y, hY⟩ : ∃ Y, Y = ys.getD m 0 := ⟨_, rfl⟩
        rw [hm2] at hX hY
        rw [← hX] at e1
        rw [← hY] at e2
        rw [← hm2] at hX hY
        rw [← hX, ← hY] at rl re
        clear hc hc' HX HY HN HD HL hs hN hM hX hY lS lT
        by_cases cx : X = Y
        · have hs2 := re cx
          subst cx
          have t1 : (X != X) = false := by simp
          clear rl re
          go_wp2
          refine wp_region_kp (by kernel_rfl) (by kernel_rfl) (fun ι _ G hG hall => ?_)
          have c0 : ∀ n, (G n).cell? ⟨b, off + (S - 1 - k), none⟩ = some (.int .u32 X) := fun n => kkeep (hG n) e1
          have c1 : ∀ n, (G n).cell? ⟨b', off' + (S - 1 - k), none⟩ = some (.int .u32 X) := fun n => kkeep (hG n) e2
          repeat (go_big_quiet_step (fail))
          refine wpQuiet_nil ?_
          rintro _ ⟨nq, rfl⟩
          have gq := hG nq
          replace e1 := kkeep gq e1
          replace e2 := kkeep gq e2
          replace hg := hg.trans gq
          clear c0 c1 hall hG gq
          go_wp2
          exact ⟨⟨k + 1, by omega, by go_num, hg, hs2⟩, by simp [intOf]; omega⟩
        · have t1 : (X != Y) = true := by simp [cx]
          have hcm := compare_u X Y
          rw [rl cx] at hcm
          clear rl re cx
          go_wp2
          refine wp_region_kp (by kernel_rfl) (by kernel_rfl) (fun ι _ G hG hall => ?_)
          have c0 : ∀ n, (G n).cell? ⟨b, off + (S - 1 - k), none⟩ = some (.int .u32 X) := fun n => kkeep (hG n) e1
          have c1 : ∀ n, (G n).cell? ⟨b', off' + (S - 1 - k), none⟩ = some (.int .u32 Y) := fun n => kkeep (hG n) e2
          repeat (go_big_quiet_step (fail))
          refine wpQuiet_nil ?_
          rintro _ ⟨nq, rfl⟩
          have gq := hG nq
          replace e1 := kkeep gq e1
          replace e2 := kkeep gq e2
          replace hg := hg.trans gq
          clear c0 c1 hall hG gq
          go_wp2
          go_region_held3 (fun w' => w'.cell? ⟨b, off + (S - 1 - k), none⟩ = some (.int .u32 X) ∧ w'.cell? ⟨b', off' + (S - 1 - k), none⟩ = some (.int .u32 Y)) (exact ⟨e1, e2⟩) (first | (go_at_call 145; refine (hcm _).mono ?_; rintro e w' ⟨rfl, rfl⟩))
          go_wp2
          exact bodyPost_ret (v := .int .i64 R) (by simp [results, Tryz.results133, go_sem] <;> simp only [*]) rfl ⟨rfl, (by repeat (with_reducible (first | assumption | exact Kp.refl _ | apply Kp.drew | apply Kp.alloc | apply Kp.drewN | (refine Kp.trans ?_ (by assumption)))))⟩
      · have hR0 := HD.out (fun j hj => hs j (by omega) hj)
        subst hR0
        have i2 : ¬ ((k : Int) < (S : Int)) := by omega
        clear HX HY HN HD HL hs lS lT hk ck
        go_wp2
        exact bodyPost_ret (v := .int .i64 0) (by simp [results, Tryz.results133, go_sem] <;> simp only [*]) rfl ⟨rfl, hg⟩
  · have t1 : ((S : Int) != (T : Int)) = true := by simp; omega
    have hcm := compare_i (S : Int) (T : Int)
    rw [dne cST] at hcm
    clear dne deq tne HX HY HN cST lS lT
    go_enter Tryz.func133, Tryz.ntmps133
    go_wp2_with fail
    refine h1.mono ?_; rintro e w' ⟨rfl, hw'⟩; obtain rfl := hw'.symm
    go_wp2_with fail
    refine h2.mono ?_; rintro e w' ⟨rfl, hw'⟩; obtain rfl := hw'.symm
    go_wp2_with (first | (go_at_call 144; refine (hcm _).mono ?_; rintro e w' ⟨rfl, rfl⟩))
    exact bodyPost_ret (v := .int .i64 R) (by simp [results, Tryz.results133, go_sem] <;> simp only [*]) rfl ⟨rfl, hg⟩
end Go.Proofs.YtokhnokobkmmkaaGreatDoor
