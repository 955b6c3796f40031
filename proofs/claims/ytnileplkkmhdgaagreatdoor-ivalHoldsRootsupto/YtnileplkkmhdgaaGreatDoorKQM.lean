import Derived.Below
import Derived.Laws.BitsAllLaws
import Derived.Laws.FloatArith
import Derived.RowKit
namespace Go.Proofs.YtnileplkkmhdgaaGreatDoor
open Go.RowKit
namespace Fq
open Ieee

def rg (f:Format) (x:Nat):Nat:=x % f.signWeight
def ng (f:Format) (x:Nat):Bool:=x / f.signWeight % 2 == 1
def pl (f:Format) (x:Nat):Int:=if ng f x then -(rg f x:Int) else rg f x
def eE (f:Format) (r:Nat):Nat:=if r < f.binade then 0 else r / f.binade - 1
def mM (f:Format) (r:Nat):Nat:=if r < f.binade then r else f.binade + r % f.binade
def vV (f:Format) (r:Nat):Nat:=mM f r * 2 ^ eE f r

theorem binade_pos (f:Format):0 < f.binade:=Nat.two_pow_pos _

theorem vV_step (f:Format) (r:Nat):vV f r < vV f (r + 1):=by
  have hB:=binade_pos f
  unfold vV mM eE
  generalize f.binade = B at *
  by_cases h1:r + 1 < B
  · have:r < B:=by omega
    simp [h1,this]
  · by_cases h2:r < B
    · have h3:r + 1 = B:=by omega
      simp [h2,h3]
      rw [Nat.div_self hB];simp;omega
    · have hq:1≤r / B:=(Nat.le_div_iff_mul_le hB).2 (by omega)
      simp only [h1,h2,if_false]
      have hdm:=Nat.div_add_mod r B
      have hm:=Nat.mod_lt r hB
      by_cases h4:r % B + 1 < B
      · have e1:(r + 1) / B = r / B:=by
          rw [show r + 1 = (r % B + 1) + B * (r / B) from by omega,Nat.add_mul_div_left _ _ hB,Nat.div_eq_of_lt h4];omega
        have e2:(r + 1) % B = r % B + 1:=by
          rw [show r + 1 = (r % B + 1) + B * (r / B) from by omega,Nat.add_mul_mod_self_left,Nat.mod_eq_of_lt h4]
        rw [e1,e2]
        exact Nat.mul_lt_mul_of_pos_right (by omega) (Nat.two_pow_pos _)
      · have e0:r + 1 = B * (r / B + 1):=by rw [Nat.mul_add];omega
        have e1:(r + 1) / B = r / B + 1:=by rw [e0,Nat.mul_div_cancel_left _ hB]
        have e2:(r + 1) % B = 0:=by rw [e0,Nat.mul_mod_right]
        rw [e1,e2]
        obtain ⟨k,hk⟩:∃ k,r / B = k + 1:=⟨r / B - 1,by omega⟩
        rw [hk]
        simp only [Nat.add_sub_cancel,Nat.add_zero]
        rw [Nat.pow_succ,Nat.mul_comm (2 ^ k) 2,← Nat.mul_assoc]
        exact Nat.mul_lt_mul_of_pos_right (by omega) (Nat.two_pow_pos _)

theorem vV_lt (f:Format) {r s:Nat} (h:r < s):vV f r < vV f s:=by
  induction s with
  | zero=>omega
  | succ s ih =>
    by_cases e:r = s
    · subst e;exact vV_step f r
    · exact Nat.lt_trans (ih (by omega)) (vV_step f s)

theorem vV_lt_iff (f:Format) (r s:Nat):vV f r < vV f s ↔ r < s:=by
  constructor
  · intro h
    by_cases c:r < s
    · exact c
    · exfalso
      by_cases e:r = s
      · subst e;omega
      · have:=vV_lt f (r:=s) (s:=r) (by omega);omega
  · exact vV_lt f

theorem vV_inj (f:Format) (r s:Nat):vV f r = vV f s ↔ r = s:=by
  constructor
  · intro h
    by_cases c:r < s
    · have:=vV_lt f c;omega
    · by_cases d:s < r
      · have:=vV_lt f d;omega
      · omega
  · intro h;rw [h]

theorem vV_zero (f:Format):vV f 0 = 0:=by
  unfold vV mM;simp [binade_pos f]

theorem read_fin (f:Format) (x:Nat) (h:rg f x < f.infRung) :
    f.read x = .number (ng f x) (mM f (rg f x)) (f.leastPlace + (eE f (rg f x):Nat)):=by
  unfold Format.read mM eE
  change (if rg f x < f.binade then _ else _) = _
  by_cases c:rg f x < f.binade
  · rw [if_pos c,if_pos c,if_pos c,Int.natCast_zero,Int.add_zero];rfl
  · rw [if_neg c]
    change (if rg f x < f.infRung then _ else _) = _
    rw [if_pos h,if_neg c,if_neg c];rfl

theorem read_inf (f:Format) (x:Nat) (hb:f.binade≤f.infRung) (h:rg f x = f.infRung) :
    f.read x = .infinity (ng f x):=by
  unfold Format.read
  change (if rg f x < f.binade then _ else if rg f x < f.infRung then _ else if rg f x = f.infRung then _ else _) = _
  rw [if_neg (by omega),if_neg (by omega),if_pos h];rfl

theorem read_nan (f:Format) (x:Nat) (hb:f.binade≤f.infRung) (h:f.infRung < rg f x) :
    f.read x = .nan (ng f x) (rg f x - f.infRung):=by
  unfold Format.read
  change (if rg f x < f.binade then _ else if rg f x < f.infRung then _ else if rg f x = f.infRung then _ else _) = _
  rw [if_neg (by omega),if_neg (by omega),if_neg (by omega)];rfl

theorem cmp_congr {a b c d:Int} (h1:a < b ↔ c < d) (h2:a = b ↔ c = d):compare a b = compare c d:=by
  simp only [compare,compareOfLessAndEq,h1,h2]

theorem cmp_lt {a b:Int} (h:a < b):compare a b = .lt:=by simp [compare,compareOfLessAndEq,h]
theorem cmp_gt {a b:Int} (h:b < a):compare a b = .gt:=by
  have h1:¬ a < b:=by omega
  have h2:a≠b:=by omega
  simp [compare,compareOfLessAndEq,h1,h2]
theorem cmp_eq {a b:Int} (h:a = b):compare a b = .eq:=by subst h;simp [compare,compareOfLessAndEq]

theorem signed_eq (s:Bool) (m k:Nat):signed s m k = if s then -((m * 2 ^ k:Nat):Int) else ((m * 2 ^ k:Nat):Int):=by
  unfold signed;rw [Nat.shiftLeft_eq]

def sV (f:Format) (x:Nat):Int:=if ng f x then -(vV f (rg f x):Int) else vV f (rg f x)

theorem sV_lt (f:Format) (x y:Nat):sV f x < sV f y ↔ pl f x < pl f y:=by
  have h1:=vV_lt_iff f (rg f x) (rg f y)
  have h2:=vV_lt_iff f (rg f y) (rg f x)
  have h3:=vV_inj f (rg f x) 0
  have h4:=vV_inj f (rg f y) 0
  rw [vV_zero] at h3 h4
  unfold sV pl
  cases ng f x <;> cases ng f y <;> simp <;> omega

theorem sV_eq (f:Format) (x y:Nat):sV f x = sV f y ↔ pl f x = pl f y:=by
  have h1:=vV_inj f (rg f x) (rg f y)
  have h3:=vV_inj f (rg f x) 0
  have h4:=vV_inj f (rg f y) 0
  rw [vV_zero] at h3 h4
  unfold sV pl
  cases ng f x <;> cases ng f y <;> simp <;> omega

theorem scale (f:Format) (x:Nat) (b:Int) (c:Nat) (hb:b = f.leastPlace + (c:Nat)) (hc:c≤eE f (rg f x)) :
    signed (ng f x) (mM f (rg f x)) (f.leastPlace + (eE f (rg f x):Nat) - b).toNat * (2 ^ c:Nat) = sV f x:=by
  subst hb
  rw [signed_eq,show (f.leastPlace + (eE f (rg f x):Nat) - (f.leastPlace + (c:Nat)):Int).toNat = eE f (rg f x) - c from by omega]
  unfold sV vV
  have e:mM f (rg f x) * 2 ^ eE f (rg f x) = mM f (rg f x) * 2 ^ (eE f (rg f x) - c) * 2 ^ c:=by
    rw [Nat.mul_assoc,← Nat.pow_add,Nat.sub_add_cancel hc]
  rw [e]
  cases ng f x
  · simp only [Bool.false_eq_true,if_false];exact (Int.natCast_mul _ _).symm
  · simp only [if_true];rw [Int.neg_mul];congr 1

theorem order_fin (f:Format) (x y:Nat) (hx:rg f x < f.infRung) (hy:rg f y < f.infRung) :
    f.order x y = some (compare (pl f x) (pl f y)):=by
  unfold Format.order
  rw [read_fin f x hx,read_fin f y hy]
  simp only [Datum.order]
  congr 1
  have hm:min (f.leastPlace + (eE f (rg f x):Nat)) (f.leastPlace + (eE f (rg f y):Nat)) = f.leastPlace + ((min (eE f (rg f x)) (eE f (rg f y)):Nat):Int):=by omega
  have sx:=scale f x _ _ hm (Nat.min_le_left _ _)
  have sy:=scale f y _ _ hm (Nat.min_le_right _ _)
  have hp:(0:Int) < ((2 ^ (min (eE f (rg f x)) (eE f (rg f y))):Nat):Int):=by exact_mod_cast Nat.two_pow_pos _
  refine cmp_congr ?_ ?_
  · rw [← sV_lt,← sx,← sy]
    exact (Int.mul_lt_mul_right hp).symm
  · rw [← sV_eq,← sx,← sy]
    constructor
    · intro h;rw [h]
    · intro h;exact Int.eq_of_mul_eq_mul_right (by omega) h

theorem order_num (f:Format) (x y:Nat) (hb:f.binade≤f.infRung) (hx:rg f x≤f.infRung) (hy:rg f y≤f.infRung) :
    f.order x y = some (compare (pl f x) (pl f y)):=by
  have hB:=binade_pos f
  by_cases cx:rg f x < f.infRung
  · by_cases cy:rg f y < f.infRung
    · exact order_fin f x y cx cy
    · have ey:rg f y = f.infRung:=by omega
      unfold Format.order
      rw [read_fin f x cx,read_inf f y hb ey]
      simp only [Datum.order]
      congr 1
      unfold pl
      rw [ey]
      cases ng f x <;> cases ng f y <;> simp only [Bool.false_eq_true,if_false,if_true] <;> symm <;> first | (apply cmp_lt;omega) | (apply cmp_gt;omega)
  · have ex:rg f x = f.infRung:=by omega
    by_cases cy:rg f y < f.infRung
    · unfold Format.order
      rw [read_inf f x hb ex,read_fin f y cy]
      simp only [Datum.order]
      congr 1
      unfold pl
      rw [ex]
      cases ng f x <;> cases ng f y <;> simp only [Bool.false_eq_true,if_false,if_true] <;> symm <;> first | (apply cmp_lt;omega) | (apply cmp_gt;omega)
    · have ey:rg f y = f.infRung:=by omega
      unfold Format.order
      rw [read_inf f x hb ex,read_inf f y hb ey]
      simp only [Datum.order]
      congr 1
      unfold pl
      rw [ex,ey]
      cases ng f x <;> cases ng f y <;> simp only [Bool.false_eq_true,if_false,if_true]
      · rw [cmp_eq rfl];rfl
      · rw [cmp_gt (by omega)];rfl
      · rw [cmp_lt (by omega)];rfl
      · rw [cmp_eq rfl];rfl

theorem order_nan_left (f:Format) (x y:Nat) (hb:f.binade≤f.infRung) (hx:f.infRung < rg f x):f.order x y = none:=by
  unfold Format.order;rw [read_nan f x hb hx];rfl

theorem order_nan_right (f:Format) (x y:Nat) (hb:f.binade≤f.infRung) (hy:f.infRung < rg f y):f.order x y = none:=by
  unfold Format.order;rw [read_nan f y hb hy]
  cases f.read x <;> rfl



/-! ### words by sign and rung -/
def plz (n:Bool) (m:Nat):Int:=if n then -(m:Int) else m
def wD (n:Bool) (m:Nat):Nat:=if n then 9223372036854775808 + m else m
theorem signD:double.signWeight = 9223372036854775808:=by decide +kernel
theorem infD:double.infRung = 9218868437227405312:=by decide +kernel
theorem infS:single.infRung = 2139095040:=by decide +kernel
theorem binD:double.binade = 4503599627370496:=by decide +kernel
theorem binfD:double.binade≤double.infRung:=by rw [binD,infD];decide
theorem rgD (n:Bool) (m:Nat) (h:m < 9223372036854775808):rg double (wD n m) = m:=by
  unfold rg wD;rw [signD];cases n <;> simp <;> omega
theorem ngD (n:Bool) (m:Nat) (h:m < 9223372036854775808):ng double (wD n m) = n:=by
  unfold ng wD;rw [signD];cases n <;> simp <;> omega
theorem exD (x:Nat) (h:x < 18446744073709551616):∃ n m,m < 9223372036854775808∧x = wD n m:=by
  by_cases c:x < 9223372036854775808
  · exact ⟨false,x,c,rfl⟩
  · exact ⟨true,x - 9223372036854775808,by omega,by unfold wD;simp;omega⟩
theorem ordD (n n':Bool) (m m':Nat) (h:m≤9218868437227405312) (h':m'≤9218868437227405312) :
    FloatKind.f64.format.order (wD n m) (wD n' m') = some (compare (plz n m) (plz n' m')):=by
  have e:=order_num double (wD n m) (wD n' m') binfD (by rw [rgD n m (by omega),infD];exact h) (by rw [rgD n' m' (by omega),infD];exact h')
  have p1:pl double (wD n m) = plz n m:=by unfold pl plz;rw [rgD n m (by omega),ngD n m (by omega)]
  have p2:pl double (wD n' m') = plz n' m':=by unfold pl plz;rw [rgD n' m' (by omega),ngD n' m' (by omega)]
  rw [p1,p2] at e;exact e
theorem ordD_nanl (n:Bool) (m y:Nat) (h:9218868437227405312 < m) (h2:m < 9223372036854775808):FloatKind.f64.format.order (wD n m) y = none :=
  order_nan_left double _ _ binfD (by rw [rgD n m h2,infD];exact h)
theorem ordD_nanr (n:Bool) (m y:Nat) (h:9218868437227405312 < m) (h2:m < 9223372036854775808):FloatKind.f64.format.order y (wD n m) = none :=
  order_nan_right double _ _ binfD (by rw [rgD n m h2,infD];exact h)
theorem xor_top (k m:Nat) (h:m < 2 ^ k):m ^^^ 2 ^ k = 2 ^ k + m:=by
  apply Nat.eq_of_testBit_eq
  intro i
  rw [Nat.testBit_xor,Nat.testBit_two_pow]
  by_cases c:k = i
  · subst c
    rw [Nat.testBit_two_pow_add_eq,Nat.testBit_lt_two_pow h];simp
  · by_cases d:i < k
    · rw [Nat.testBit_two_pow_add_gt d];simp [c]
    · have g:k < i:=by omega
      have l1:m < 2 ^ i:=Nat.lt_of_lt_of_le h (Nat.pow_le_pow_right (by decide) (by omega))
      have l2:2 ^ k + m < 2 ^ i:=Nat.lt_of_lt_of_le (by rw [Nat.pow_succ];omega:2 ^ k + m < 2 ^ (k + 1)) (Nat.pow_le_pow_right (by decide) (by omega))
      rw [Nat.testBit_lt_two_pow l1,Nat.testBit_lt_two_pow l2];simp [c]

theorem negD (n:Bool) (m:Nat) (h:m < 9223372036854775808):Op.negFloat .f64 (wD n m) = wD (!n) m:=by
  have e:=xor_top 63 m h
  have h2:Op.negFloat .f64 (wD n m) = wD n m ^^^ 2 ^ 63:=rfl
  rw [h2]
  cases n
  · show m ^^^ 2 ^ 63 = _;rw [e];rfl
  · show (2 ^ 63 + m) ^^^ 2 ^ 63 = m
    rw [← e,Nat.xor_assoc,Nat.xor_self,Nat.xor_zero]
theorem andD (n:Bool) (m:Nat) (h:m < 9223372036854775808):RowKit.wrap64 (bits .andNot .u64 ((wD n m:Nat):Int) 9223372036854775808) = (m:Int):=by
  have e:=u64_andNot_nat (wD n m) 9223372036854775808 (by unfold wD;split <;> omega) (by decide)
  have e2:wD n m &&& (18446744073709551615 - 9223372036854775808) = m:=by
    have:=Nat.and_two_pow_sub_one_eq_mod (wD n m) 63
    rw [show (18446744073709551615 - 9223372036854775808:Nat) = 2 ^ 63 - 1 from by decide,this]
    unfold wD;split <;> omega
  rw [e2] at e
  have e3:bits .andNot .u64 ((wD n m:Nat):Int) 9223372036854775808 = (m:Int):=e
  rw [e3];unfold RowKit.wrap64;omega
theorem shrD (n:Bool) (m:Nat) (h:m < 9223372036854775808):(((wD n m:Nat):Int) / 9223372036854775808 != 0) = n:=by
  unfold wD;cases n <;> simp <;> omega
theorem wrapU {x:Int} (h:0≤x) (h2:x < 18446744073709551616):IntKind.u64.wrap x = x:=by
  rw [IntKind.wrap_u64];omega
theorem wrapI {x:Int} (h:-9223372036854775808≤x) (h2:x < 9223372036854775808):wrap64 x = x:=by
  unfold wrap64;omega
def sgG (B I:Nat) (m:Nat):Nat:=if m < B then m else if m < I then B + m % B else m % B
def epG (L:Int) (B I:Nat) (m:Nat):Int:=if m < B then L else if m < I then L + (m / B:Nat) - 1 else L
def sgD:=sgG 4503599627370496 9218868437227405312
def epD:=epG (-1074) 4503599627370496 9218868437227405312
theorem eqzD (n:Bool) (m:Nat) (h:m < 9223372036854775808):(FloatKind.f64.format.order (wD n m) 0 == some .eq) = (m == 0):=by
  by_cases c:9218868437227405312 < m
  · rw [ordD_nanl n m 0 c h];simp;omega
  · have e:FloatKind.f64.format.order (wD n m) 0 = some (compare (plz n m) 0):=ordD n false m 0 (by omega) (by omega)
    rw [e];by_cases d:m = 0
    · subst d;rw [cmp_eq (by unfold plz;split <;> rfl)];simp
    · have hd:(m == 0) = false:=by simp [d]
      rw [hd]
      cases n
      · rw [cmp_gt (by show (0:Int) < (m:Int);omega)];rfl
      · rw [cmp_lt (by show -(m:Int) < 0;omega)];rfl
def cmpz (x y:Int):Int:=if x < y then -1 else if y < x then 1 else 0

theorem plz_bd (n:Bool) (m:Nat):-(m:Int)≤plz n m∧plz n m≤m:=by unfold plz;cases n <;> simp <;> omega

def fD (p:Int):Nat:=wD (decide (p < 0)) p.natAbs
end Fq
end Go.Proofs.YtnileplkkmhdgaaGreatDoor
