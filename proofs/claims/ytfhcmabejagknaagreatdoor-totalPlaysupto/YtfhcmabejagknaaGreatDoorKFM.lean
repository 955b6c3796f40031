import Derived.Test.YtfhcmabejagknaaGreatDoorKG3D
set_option maxHeartbeats 1000000
set_option maxRecDepth 20000
namespace Go.Proofs.YtfhcmabejagknaaGreatDoor
open Go.RowKit
namespace Fb
open Ieee

def rg (f:Format) (x:Nat):Nat:=x % f.signWeight
def ng (f:Format) (x:Nat):Bool:=x / f.signWeight % 2 == 1
def pl (f:Format) (x:Nat):Int:=if ng f x then -(rg f x:Int) else rg f x
def eE (f:Format) (r:Nat):Nat:=if r < f.binade then 0 else r / f.binade - 1
def mM (f:Format) (r:Nat):Nat:=if r < f.binade then r else f.binade + r % f.binade
def vV (f:Format) (r:Nat):Nat:=mM f r * 2 ^ eE f r

theorem binade_pos (f:Format):0 < f.binade:=Nat.two_pow_pos _

theorem vV_step (f:Format) (r:Nat):vV f r < vV f (r + 1):=by
  have hB:=binade_pos f
  unfold vV mM eE
  generalize f.binade = B at *
  by_cases h1:r + 1 < B
  · have:r < B:=by omega
    simp [h1,this]
  · by_cases h2:r < B
    · have h3:r + 1 = B:=by omega
      simp [h2,h3]
      rw [Nat.div_self hB];simp;omega
    · have hq:1≤r / B:=(Nat.le_div_iff_mul_le hB).2 (by omega)
      simp only [h1,h2,if_false]
      have hdm:=Nat.div_add_mod r B
      have hm:=Nat.mod_lt r hB
      by_cases h4:r % B + 1 < B
      · have e1:(r + 1) / B = r / B:=by
          rw [show r + 1 = (r % B + 1) + B * (r / B) from by omega,Nat.add_mul_div_left _ _ hB,Nat.div_eq_of_lt h4];omega
        have e2:(r + 1) % B = r % B + 1:=by
          rw [show r + 1 = (r % B + 1) + B * (r / B) from by omega,Nat.add_mul_mod_self_left,Nat.mod_eq_of_lt h4]
        rw [e1,e2]
        exact Nat.mul_lt_mul_of_pos_right (by omega) (Nat.two_pow_pos _)
      · have e0:r + 1 = B * (r / B + 1):=by rw [Nat.mul_add];omega
        have e1:(r + 1) / B = r / B + 1:=by rw [e0,Nat.mul_div_cancel_left _ hB]
        have e2:(r + 1) % B = 0:=by rw [e0,Nat.mul_mod_right]
        rw [e1,e2]
        obtain ⟨k,hk⟩:∃ k,r / B = k + 1:=⟨r / B - 1,by omega⟩
        rw [hk]
        simp only [Nat.add_sub_cancel,Nat.add_zero]
        rw [Nat.pow_succ,Nat.mul_comm (2 ^ k) 2,← Nat.mul_assoc]
        exact Nat.mul_lt_mul_of_pos_right (by omega) (Nat.two_pow_pos _)

theorem vV_lt (f:Format) {r s:Nat} (h:r < s):vV f r < vV f s:=by
  induction s with
  | zero=>omega
  | succ s ih =>
    by_cases e:r = s
    · subst e;exact vV_step f r
    · exact Nat.lt_trans (ih (by omega)) (vV_step f s)

theorem vV_lt_iff (f:Format) (r s:Nat):vV f r < vV f s ↔ r < s:=by
  constructor
  · intro h
    by_cases c:r < s
    · exact c
    · exfalso
      by_cases e:r = s
      · subst e;omega
      · have:=vV_lt f (r:=s) (s:=r) (by omega);omega
  · exact vV_lt f

theorem vV_inj (f:Format) (r s:Nat):vV f r = vV f s ↔ r = s:=by
  constructor
  · intro h
    by_cases c:r < s
    · have:=vV_lt f c;omega
    · by_cases d:s < r
      · have:=vV_lt f d;omega
      · omega
  · intro h;rw [h]

theorem vV_zero (f:Format):vV f 0 = 0:=by
  unfold vV mM;simp [binade_pos f]

theorem read_fin (f:Format) (x:Nat) (h:rg f x < f.infRung) :
    f.read x = .number (ng f x) (mM f (rg f x)) (f.leastPlace + (eE f (rg f x):Nat)):=by
  unfold Format.read mM eE
  change (if rg f x < f.binade then _ else _) = _
  by_cases c:rg f x < f.binade
  · rw [if_pos c,if_pos c,if_pos c,Int.natCast_zero,Int.add_zero];rfl
  · rw [if_neg c]
    change (if rg f x < f.infRung then _ else _) = _
    rw [if_pos h,if_neg c,if_neg c];rfl

theorem read_inf (f:Format) (x:Nat) (hb:f.binade≤f.infRung) (h:rg f x = f.infRung) :
    f.read x = .infinity (ng f x):=by
  unfold Format.read
  change (if rg f x < f.binade then _ else if rg f x < f.infRung then _ else if rg f x = f.infRung then _ else _) = _
  rw [if_neg (by omega),if_neg (by omega),if_pos h];rfl

theorem read_nan (f:Format) (x:Nat) (hb:f.binade≤f.infRung) (h:f.infRung < rg f x) :
    f.read x = .nan (ng f x) (rg f x - f.infRung):=by
  unfold Format.read
  change (if rg f x < f.binade then _ else if rg f x < f.infRung then _ else if rg f x = f.infRung then _ else _) = _
  rw [if_neg (by omega),if_neg (by omega),if_neg (by omega)];rfl

theorem cmp_congr {a b c d:Int} (h1:a < b ↔ c < d) (h2:a = b ↔ c = d):compare a b = compare c d:=by
  simp only [compare,compareOfLessAndEq,h1,h2]

theorem cmp_lt {a b:Int} (h:a < b):compare a b = .lt:=by simp [compare,compareOfLessAndEq,h]
theorem cmp_gt {a b:Int} (h:b < a):compare a b = .gt:=by
  have h1:¬ a < b:=by omega
  have h2:a≠b:=by omega
  simp [compare,compareOfLessAndEq,h1,h2]
theorem cmp_eq {a b:Int} (h:a = b):compare a b = .eq:=by subst h;simp [compare,compareOfLessAndEq]

theorem signed_eq (s:Bool) (m k:Nat):signed s m k = if s then -((m * 2 ^ k:Nat):Int) else ((m * 2 ^ k:Nat):Int):=by
  unfold signed;rw [Nat.shiftLeft_eq]

def sV (f:Format) (x:Nat):Int:=if ng f x then -(vV f (rg f x):Int) else vV f (rg f x)

theorem sV_lt (f:Format) (x y:Nat):sV f x < sV f y ↔ pl f x < pl f y:=by
  have h1:=vV_lt_iff f (rg f x) (rg f y)
  have h2:=vV_lt_iff f (rg f y) (rg f x)
  have h3:=vV_inj f (rg f x) 0
  have h4:=vV_inj f (rg f y) 0
  rw [vV_zero] at h3 h4
  unfold sV pl
  cases ng f x <;> cases ng f y <;> simp <;> omega

theorem sV_eq (f:Format) (x y:Nat):sV f x = sV f y ↔ pl f x = pl f y:=by
  have h1:=vV_inj f (rg f x) (rg f y)
  have h3:=vV_inj f (rg f x) 0
  have h4:=vV_inj f (rg f y) 0
  rw [vV_zero] at h3 h4
  unfold sV pl
  cases ng f x <;> cases ng f y <;> simp <;> omega

theorem scale (f:Format) (x:Nat) (b:Int) (c:Nat) (hb:b = f.leastPlace + (c:Nat)) (hc:c≤eE f (rg f x)) :
    signed (ng f x) (mM f (rg f x)) (f.leastPlace + (eE f (rg f x):Nat) - b).toNat * (2 ^ c:Nat) = sV f x:=by
  subst hb
  rw [signed_eq,show (f.leastPlace + (eE f (rg f x):Nat) - (f.leastPlace + (c:Nat)):Int).toNat = eE f (rg f x) - c from by omega]
  unfold sV vV
  have e:mM f (rg f x) * 2 ^ eE f (rg f x) = mM f (rg f x) * 2 ^ (eE f (rg f x) - c) * 2 ^ c:=by
    rw [Nat.mul_assoc,← Nat.pow_add,Nat.sub_add_cancel hc]
  rw [e]
  cases ng f x
  · simp only [Bool.false_eq_true,if_false];exact (Int.natCast_mul _ _).symm
  · simp only [if_true];rw [Int.neg_mul];congr 1

theorem order_fin (f:Format) (x y:Nat) (hx:rg f x < f.infRung) (hy:rg f y < f.infRung) :
    f.order x y = some (compare (pl f x) (pl f y)):=by
  unfold Format.order
  rw [read_fin f x hx,read_fin f y hy]
  simp only [Datum.order]
  congr 1
  have hm:min (f.leastPlace + (eE f (rg f x):Nat)) (f.leastPlace + (eE f (rg f y):Nat)) = f.leastPlace + ((min (eE f (rg f x)) (eE f (rg f y)):Nat):Int):=by omega
  have sx:=scale f x _ _ hm (Nat.min_le_left _ _)
  have sy:=scale f y _ _ hm (Nat.min_le_right _ _)
  have hp:(0:Int) < ((2 ^ (min (eE f (rg f x)) (eE f (rg f y))):Nat):Int):=by exact_mod_cast Nat.two_pow_pos _
  refine cmp_congr ?_ ?_
  · rw [← sV_lt,← sx,← sy]
    exact (Int.mul_lt_mul_right hp).symm
  · rw [← sV_eq,← sx,← sy]
    constructor
    · intro h;rw [h]
    · intro h;exact Int.eq_of_mul_eq_mul_right (by omega) h

theorem order_num (f:Format) (x y:Nat) (hb:f.binade≤f.infRung) (hx:rg f x≤f.infRung) (hy:rg f y≤f.infRung) :
    f.order x y = some (compare (pl f x) (pl f y)):=by
  have hB:=binade_pos f
  by_cases cx:rg f x < f.infRung
  · by_cases cy:rg f y < f.infRung
    · exact order_fin f x y cx cy
    · have ey:rg f y = f.infRung:=by omega
      unfold Format.order
      rw [read_fin f x cx,read_inf f y hb ey]
      simp only [Datum.order]
      congr 1
      unfold pl
      rw [ey]
      cases ng f x <;> cases ng f y <;> simp only [Bool.false_eq_true,if_false,if_true] <;> symm <;> first | (apply cmp_lt;omega) | (apply cmp_gt;omega)
  · have ex:rg f x = f.infRung:=by omega
    by_cases cy:rg f y < f.infRung
    · unfold Format.order
      rw [read_inf f x hb ex,read_fin f y cy]
      simp only [Datum.order]
      congr 1
      unfold pl
      rw [ex]
      cases ng f x <;> cases ng f y <;> simp only [Bool.false_eq_true,if_false,if_true] <;> symm <;> first | (apply cmp_lt;omega) | (apply cmp_gt;omega)
    · have ey:rg f y = f.infRung:=by omega
      unfold Format.order
      rw [read_inf f x hb ex,read_inf f y hb ey]
      simp only [Datum.order]
      congr 1
      unfold pl
      rw [ex,ey]
      cases ng f x <;> cases ng f y <;> simp only [Bool.false_eq_true,if_false,if_true]
      · rw [cmp_eq rfl];rfl
      · rw [cmp_gt (by omega)];rfl
      · rw [cmp_lt (by omega)];rfl
      · rw [cmp_eq rfl];rfl

theorem order_nan_left (f:Format) (x y:Nat) (hb:f.binade≤f.infRung) (hx:f.infRung < rg f x):f.order x y = none:=by
  unfold Format.order;rw [read_nan f x hb hx];rfl

theorem order_nan_right (f:Format) (x y:Nat) (hb:f.binade≤f.infRung) (hy:f.infRung < rg f y):f.order x y = none:=by
  unfold Format.order;rw [read_nan f y hb hy]
  cases f.read x <;> rfl



/-! ### words by sign and rung -/
def plz (n:Bool) (m:Nat):Int:=if n then -(m:Int) else m
def wD (n:Bool) (m:Nat):Nat:=if n then 9223372036854775808 + m else m
theorem signD:double.signWeight = 9223372036854775808:=by decide +kernel
theorem infD:double.infRung = 9218868437227405312:=by decide +kernel
theorem binD:double.binade = 4503599627370496:=by decide +kernel
theorem binfD:double.binade≤double.infRung:=by rw [binD,infD];decide
theorem rgD (n:Bool) (m:Nat) (h:m < 9223372036854775808):rg double (wD n m) = m:=by
  unfold rg wD;rw [signD];cases n <;> simp <;> omega
theorem ngD (n:Bool) (m:Nat) (h:m < 9223372036854775808):ng double (wD n m) = n:=by
  unfold ng wD;rw [signD];cases n <;> simp <;> omega
theorem exD (x:Nat) (h:x < 18446744073709551616):∃ n m,m < 9223372036854775808∧x = wD n m:=by
  by_cases c:x < 9223372036854775808
  · exact ⟨false,x,c,rfl⟩
  · exact ⟨true,x - 9223372036854775808,by omega,by unfold wD;simp;omega⟩
theorem ordD (n n':Bool) (m m':Nat) (h:m≤9218868437227405312) (h':m'≤9218868437227405312) :
    FloatKind.f64.format.order (wD n m) (wD n' m') = some (compare (plz n m) (plz n' m')):=by
  have e:=order_num double (wD n m) (wD n' m') binfD (by rw [rgD n m (by omega),infD];exact h) (by rw [rgD n' m' (by omega),infD];exact h')
  have p1:pl double (wD n m) = plz n m:=by unfold pl plz;rw [rgD n m (by omega),ngD n m (by omega)]
  have p2:pl double (wD n' m') = plz n' m':=by unfold pl plz;rw [rgD n' m' (by omega),ngD n' m' (by omega)]
  rw [p1,p2] at e;exact e
theorem ordD_nanl (n:Bool) (m y:Nat) (h:9218868437227405312 < m) (h2:m < 9223372036854775808):FloatKind.f64.format.order (wD n m) y = none :=
  order_nan_left double _ _ binfD (by rw [rgD n m h2,infD];exact h)
theorem ordD_nanr (n:Bool) (m y:Nat) (h:9218868437227405312 < m) (h2:m < 9223372036854775808):FloatKind.f64.format.order y (wD n m) = none :=
  order_nan_right double _ _ binfD (by rw [rgD n m h2,infD];exact h)
theorem xor_top (k m:Nat) (h:m < 2 ^ k):m ^^^ 2 ^ k = 2 ^ k + m:=by
  apply Nat.eq_of_testBit_eq
  intro i
  rw [Nat.testBit_xor,Nat.testBit_two_pow]
  by_cases c:k = i
  · subst c
    rw [Nat.testBit_two_pow_add_eq,Nat.testBit_lt_two_pow h];simp
  · by_cases d:i < k
    · rw [Nat.testBit_two_pow_add_gt d];simp [c]
    · have g:k < i:=by omega
      have l1:m < 2 ^ i:=Nat.lt_of_lt_of_le h (Nat.pow_le_pow_right (by decide) (by omega))
      have l2:2 ^ k + m < 2 ^ i:=Nat.lt_of_lt_of_le (by rw [Nat.pow_succ];omega:2 ^ k + m < 2 ^ (k + 1)) (Nat.pow_le_pow_right (by decide) (by omega))
      rw [Nat.testBit_lt_two_pow l1,Nat.testBit_lt_two_pow l2];simp [c]

theorem negD (n:Bool) (m:Nat) (h:m < 9223372036854775808):Op.negFloat .f64 (wD n m) = wD (!n) m:=by
  have e:=xor_top 63 m h
  have h2:Op.negFloat .f64 (wD n m) = wD n m ^^^ 2 ^ 63:=rfl
  rw [h2]
  cases n
  · show m ^^^ 2 ^ 63 = _;rw [e];rfl
  · show (2 ^ 63 + m) ^^^ 2 ^ 63 = m
    rw [← e,Nat.xor_assoc,Nat.xor_self,Nat.xor_zero]
theorem andD (n:Bool) (m:Nat) (h:m < 9223372036854775808):RowKit.wrap64 (bits .andNot .u64 ((wD n m:Nat):Int) 9223372036854775808) = (m:Int):=by
  have e:=u64_andNot_nat (wD n m) 9223372036854775808 (by unfold wD;split <;> omega) (by decide)
  have e2:wD n m &&& (18446744073709551615 - 9223372036854775808) = m:=by
    have:=Nat.and_two_pow_sub_one_eq_mod (wD n m) 63
    rw [show (18446744073709551615 - 9223372036854775808:Nat) = 2 ^ 63 - 1 from by decide,this]
    unfold wD;split <;> omega
  rw [e2] at e
  have e3:bits .andNot .u64 ((wD n m:Nat):Int) 9223372036854775808 = (m:Int):=e
  rw [e3];unfold RowKit.wrap64;omega
theorem shrD (n:Bool) (m:Nat) (h:m < 9223372036854775808):(((wD n m:Nat):Int) / 9223372036854775808 != 0) = n:=by
  unfold wD;cases n <;> simp <;> omega
theorem wrapU {x:Int} (h:0≤x) (h2:x < 18446744073709551616):IntKind.u64.wrap x = x:=by
  rw [IntKind.wrap_u64];omega
theorem wrapI {x:Int} (h:-9223372036854775808≤x) (h2:x < 9223372036854775808):wrap64 x = x:=by
  unfold wrap64;omega
def sgG (B I:Nat) (m:Nat):Nat:=if m < B then m else if m < I then B + m % B else m % B
def epG (L:Int) (B I:Nat) (m:Nat):Int:=if m < B then L else if m < I then L + (m / B:Nat) - 1 else L
def sgD:=sgG 4503599627370496 9218868437227405312
def epD:=epG (-1074) 4503599627370496 9218868437227405312
def sgS:=sgG 8388608 2139095040
def cmpz (x y:Int):Int:=if x < y then -1 else if y < x then 1 else 0

theorem plz_bd (n:Bool) (m:Nat):-(m:Int)≤plz n m∧plz n m≤m:=by unfold plz;cases n <;> simp <;> omega

def fD (p:Int):Nat:=wD (decide (p < 0)) p.natAbs
end Fb
theorem normO (v:Value) (L:List Int) (w:World) (h:Ls w v L) (hw:Wd L) (l:L.length≤1048576) :
    Calls Tryz.prog 79 #[v] w fun e w'=>∃ v',e = .returned v'∧Own w' w.heap.size v' (dig (val L))∧Kp w w':=by
  obtain ⟨p,c,rfl,hA,hc⟩:=h
  have h:=rnorm_ p c L w hA (by omega)
  rw [nz_dig L hw] at h
  exact h
theorem zerosR (v:Value) (a:Nat) (w:World) (h:Ls w v (dig a)) (l:blen a≤33554432) :
    Calls Tryz.prog 98 #[v] w fun e w'=>e = .returned (.int .i64 (ctz a:Nat))∧w' = w:=by
  obtain ⟨p,c,rfl,hA,hc⟩:=h
  have e1:=dlen a 1048576 (by omega)
  have h:=rzeros_ p c (dig a) w hA (Wd_dig a) (by omega)
  rw [val_dig] at h
  exact h
theorem rightO (v:Value) (a m:Nat) (w:World) (h:Ls w v (dig a)) (l:blen a≤33554432) (hm:m≤33554432) :
    Calls Tryz.prog 99 #[v,.int .i64 (m:Int)] w fun e w'=>∃ v' b,e = .returned (.tuple #[v',.bool b])∧Own w' w.heap.size v' (dig (a / 2 ^ m))∧Kp w w':=by
  obtain ⟨p,c,rfl,hA,hc⟩:=h
  have e1:=dlen a 1048576 (by omega)
  have h:=rright_ p c m (dig a) w hA (Wd_dig a) (by omega) (by omega)
  rw [val_dig] at h
  exact h.mono fun e w' ⟨v,h1,h2,h3⟩=>⟨v,_,h1,h2,h3⟩
theorem leftO (v:Value) (a m:Nat) (w:World) (h:Ls w v (dig a)) (l:blen a≤16777216) (hm:m≤16777216) :
    Calls Tryz.prog 95 #[v,.int .i64 (m:Int)] w fun e w'=>∃ v',e = .returned v'∧Own w' w.heap.size v' (dig (a * 2 ^ m))∧Kp w w':=by
  obtain ⟨p,c,rfl,hA,hc⟩:=h
  have h:=rleft_ p c m (dig a) w hA (Wd_dig a) (Nat.le_trans (dlen a 524288 (by omega)) (by omega)) hm
  rw [val_dig] at h
  exact h
theorem frac_ (neg:Bool) (vn vd:Value) (Ln Ld:List Int) (exp:Int) (w:World) (hn:Ls w vn Ln) (hd:Ls w vd Ld) (hwn:Wd Ln) (hwd:Wd Ld) (ln:Ln.length≤32768) (ld:Ld.length≤32768) (hb:val Ld≠0) (he:exp.natAbs≤1048576) :
    Calls Tryz.prog 61 #[.bool neg,vn,vd,.int .i64 exp] w fun e w'=>∃ (vn' vd':Value) (a' b':Nat) (ng:Bool),e = .returned (.agg #[.bool ng,vn',vd'])∧Own w' w.heap.size vn' (dig a')∧Own w' w.heap.size vd' (dig b')∧(FracOf (val Ln) (val Ld) exp a' b'∧(val Ln≠0→ng = neg))∧Kp w w':=by
  obtain ⟨w0,hw0⟩:∃ w0,w0 = w.alloc (.cells #[.bool false,.slice none 0 0,.slice none 0 0] 27):=⟨_,rfl⟩
  have hk0:Kp w w0:=by rw [hw0];exact (Kp.refl w).alloc _
  obtain ⟨a,ha⟩:∃ a,a = val Ln:=⟨_,rfl⟩
  obtain ⟨b,hb9⟩:∃ b,b = val Ld:=⟨_,rfl⟩
  have hc:=normO vn Ln w0 (hn.kp hk0) hwn (by omega)
  have hc2:=fun w' (k:Kp w0 w')=>normO vd Ld w' ((hd.kp hk0).kp k) hwd (by omega)
  have la:blen a≤1048576:=by
    have:=blen_len a Ln.length (by rw [ha,← tl_len Ln hwn];exact tl_le Ln)
    omega
  have lb:blen b≤1048576:=by
    have:=blen_len b Ld.length (by rw [hb9,← tl_len Ld hwd];exact tl_le Ld)
    omega
  rw [← ha] at hc
  rw [← hb9] at hc2 hb
  rw [← ha,← hb9]
  have HLA:Hid (blen a≤1048576∧blen b≤1048576∧b≠0∧exp.natAbs≤1048576):=⟨la,lb,hb,he⟩
  have Hw0:Hid (w0 = w.alloc (.cells #[.bool false,.slice none 0 0,.slice none 0 0] 27)):=hw0
  clear hk0 ha hb9 hn hd hwn hwd ln ld la lb hb he
  by_cases cz:a = 0
  · subst cz
    rw [dig_zero] at hc
    go_enter Tryz.func61,Tryz.ntmps61
    go_wp2_with fail
    rw [← hw0]
    refine hc.mono ?_;rintro e w1 ⟨v1,rfl,hO,hk⟩
    obtain ⟨p1,c1,rfl,_⟩:=hO.len
    have hc3:=hc2 w1 hk
    have K0:Hid (Kp w0 w1):=hk
    clear hc hc2 hO hk hw0
    go_wp2_with fail
    refine hc3.mono ?_;rintro e w2 ⟨v2,rfl,hO,hk⟩
    replace K0:Hid (Kp w0 w2):=K0.out.trans hk
    clear hc3 hO hk
    obtain ⟨w3,hw3⟩:∃ w3,w3 = w2.alloc (.cells #[.int .u32 1] 86):=⟨_,rfl⟩
    obtain ⟨g3,hg3⟩:∃ g3,g3 = w2.heap.size:=⟨_,rfl⟩
    have O1:=own1 w2
    rw [← hw3,← hg3] at O1
    have hsz:=K0.out.size
    rw [← hg3] at hsz
    replace K0:Hid (Kp w0 w3):=K0.out.trans (by rw [hw3];exact (Kp.refl _).alloc _)
    have ON:Hid (Own w3 w0.heap.size (.slice none 0 0) (dig 0)):=by rw [dig_zero];exact Own.nil _ _
    have OD:Hid (Own w3 w0.heap.size (.slice (some ⟨g3,0,none⟩) 1 1) (dig 1)):=by
      rw [dig_one]
      exact O1.mono hsz
    have HFR:Hid (FracOf 0 b exp 0 1):=⟨by decide,by simp,fun _ _ _ h=>absurd rfl h,by rw [blen_zero];omega,by have:blen 1 = 1:=blen_uniq 1 0 (by decide) (by decide);omega⟩
    have HW3:Hid (w2.alloc (.cells #[.int .u32 1] 86) = w3∧w2.heap.size = g3):=⟨hw3.symm,hg3.symm⟩
    clear O1 hsz hw3 hg3
    have hlt:w.heap.size < w0.heap.size:=by rw [Hw0.out];simp
    have k0:=kkeep K0.out (b:=w.heap.size) (o:=0) (v:=.bool false) (by rw [Hw0.out];simp [go_sem])
    have z0:w3.frozen? ⟨w.heap.size,0,none⟩ = false:=by rw [Below.frozen K0.out hlt,Hw0.out];simp [go_sem]
    have k1:=kkeep K0.out (b:=w.heap.size) (o:=1) (v:=.slice none 0 0) (by rw [Hw0.out];simp [go_sem])
    have z1:w3.frozen? ⟨w.heap.size,1,none⟩ = false:=by rw [Below.frozen K0.out hlt,Hw0.out];simp [go_sem]
    have k2:=kkeep K0.out (b:=w.heap.size) (o:=2) (v:=.slice none 0 0) (by rw [Hw0.out];simp [go_sem])
    have z2:w3.frozen? ⟨w.heap.size,2,none⟩ = false:=by rw [Below.frozen K0.out hlt,Hw0.out];simp [go_sem]
    have hk9:Kp w w0:=by rw [Hw0.out];exact (Kp.refl w).alloc _
    have hk0:Kp w w3:=hk9.trans K0.out
    have HZ:Hid (Own (((w3.setCell ⟨w.heap.size,0,none⟩ (.bool false)).setCell ⟨w.heap.size,1,none⟩ (.slice none 0 0)).setCell ⟨w.heap.size,2,none⟩ (.slice (some ⟨g3,0,none⟩) 1 1)) w.heap.size (.slice none 0 0) (dig (0))∧Own (((w3.setCell ⟨w.heap.size,0,none⟩ (.bool false)).setCell ⟨w.heap.size,1,none⟩ (.slice none 0 0)).setCell ⟨w.heap.size,2,none⟩ (.slice (some ⟨g3,0,none⟩) 1 1)) w.heap.size (.slice (some ⟨g3,0,none⟩) 1 1) (dig (1))∧Kp w (((w3.setCell ⟨w.heap.size,0,none⟩ (.bool false)).setCell ⟨w.heap.size,1,none⟩ (.slice none 0 0)).setCell ⟨w.heap.size,2,none⟩ (.slice (some ⟨g3,0,none⟩) 1 1))):=⟨((((ON.out.setOther hlt (.bool false)).setOther hlt (.slice none 0 0)).setOther hlt (.slice (some ⟨g3,0,none⟩) 1 1))).mono (Nat.le_of_lt hlt),((((OD.out.setOther hlt (.bool false)).setOther hlt (.slice none 0 0)).setOther hlt (.slice (some ⟨g3,0,none⟩) 1 1))).mono (Nat.le_of_lt hlt),(((hk0.setCell (Nat.le_refl _) (.bool false)).setCell (Nat.le_refl _) (.slice none 0 0)).setCell (Nat.le_refl _) (.slice (some ⟨g3,0,none⟩) 1 1))⟩
    clear hk0 hlt hk9
    obtain ⟨q1,q2⟩:=HW3.out
    subst q1
    subst q2
    clear HW3
    go_wp2
    exact bodyPost_ret (v:=.agg #[.bool false,.slice none 0 0,.slice (some ⟨w2.heap.size,0,none⟩) 1 1]) (by simp [results,Tryz.results61,go_sem] <;> simp [go_sem, *]) rfl ⟨_,_,0,1,false,rfl,HZ.out.1,HZ.out.2.1,⟨HFR.out,fun h=>absurd rfl h⟩,HZ.out.2.2⟩
  · have HA0:Hid (a≠0):=cz
    obtain ⟨a1,ho1,ea,da,hka⟩:=ctz_odd a cz
    obtain ⟨b1,ho2,eb,db,hkb⟩:=ctz_odd b HLA.out.2.2.1
    obtain ⟨ka,hka9⟩:∃ ka,ka = ctz a:=⟨_,rfl⟩
    obtain ⟨kb,hkb9⟩:∃ kb,kb = ctz b:=⟨_,rfl⟩
    rw [← hka9] at ea da hka
    rw [← hkb9] at eb db hkb
    obtain ⟨e1,he1⟩:∃ e1:Int,e1 = exp + ka:=⟨_,rfl⟩
    obtain ⟨ex,hex⟩:∃ ex:Int,ex = e1 - kb:=⟨_,rfl⟩
    obtain ⟨x,hx⟩:∃ x,x = ex.toNat:=⟨_,rfl⟩
    obtain ⟨y,hy⟩:∃ y,y = (-ex).toNat:=⟨_,rfl⟩
    have hfr:=frac_of a b a1 b1 ka kb x y exp ex (by omega) (by omega) ea eb hka hkb (by rw [hex,he1]) hx hy
    have HFR:Hid (FracOf a b exp (a1 * 2 ^ x) (b1 * 2 ^ y)):=hfr
    have hla:=HLA.out
    have ba1:blen a1≤blen a:=by rw [ea,blen_mul _ _ (by omega)];omega
    have bb1:blen b1≤blen b:=by rw [eb,blen_mul _ _ (by omega)];omega
    have HB1:Hid (blen a1≤16777216∧blen b1≤16777216∧x≤16777216∧y≤16777216):=⟨by omega,by omega,by omega,by omega⟩
    have g1:wrap64 (exp + (ka:Int)) = e1:=by rw [← he1];exact w64x _ (by omega) (by omega)
    have g2:wrap64 (e1 - (kb:Int)) = ex:=by rw [← hex];exact w64x _ (by omega) (by omega)
    have HX:Hid (x = ex.toNat∧y = (-ex).toNat):=⟨hx,hy⟩
    have HD:Hid (a / 2 ^ ka = a1∧b / 2 ^ kb = b1∧ka = ctz a∧kb = ctz b∧ka≤1048576∧kb≤1048576):=⟨da,db,hka9,hkb9,by omega,by omega⟩
    have hlz:=dig_len_zero a
    obtain ⟨M,hM⟩:∃ M,M = (dig a).length:=⟨_,rfl⟩
    rw [← hM] at hlz
    have t0:¬ ((M:Int) = 0):=by have:=mt hlz.1 cz;omega
    have HM:Hid (M = (dig a).length):=hM
    clear hfr hla ba1 bb1 ho1 ho2 ea da hka eb db hkb hka9 hkb9 he1 hex hx hy hlz hM cz
    go_enter Tryz.func61,Tryz.ntmps61
    go_wp2_with fail
    rw [← hw0]
    refine hc.mono ?_;rintro e w1 ⟨v1,rfl,hO,hk⟩
    obtain ⟨p1,c1,rfl,_⟩:=hO.len
    have OA:Hid (Own w1 w0.heap.size (.slice p1 (dig a).length c1) (dig a)):=hO
    rw [← HM.out] at OA ⊢
    have hc3:=hc2 w1 hk
    have K0:Hid (Kp w0 w1):=hk
    clear hc hc2 hO hk hw0
    go_wp2_with fail
    refine hc3.mono ?_;rintro e w2 ⟨v2,rfl,hO,hk⟩
    have OB:Hid (Own w2 w0.heap.size v2 (dig b)):=hO.mono K0.out.size
    replace OA:Hid (Own w2 w0.heap.size (.slice p1 M c1) (dig a)):=OA.out.kp hk
    replace K0:Hid (Kp w0 w2):=K0.out.trans hk
    clear hc3 hO hk
    have hc:=zerosR (.slice p1 M c1) a w2 OA.out.ls (by have:=HLA.out;omega)
    rw [← HD.out.2.2.1] at hc
    go_wp2_with fail
    refine hc.mono ?_;rintro e w' ⟨rfl,hw'⟩;obtain rfl:=hw'.symm;clear hc hw'
    have hc:=rightO (.slice p1 M c1) a ka w2 OA.out.ls (by have:=HLA.out;omega) (by have:=HD.out;omega)
    rw [HD.out.1] at hc
    go_wp2_with fail
    refine hc.mono ?_;rintro e w3 ⟨v3,bb,rfl,hO,hk⟩
    replace OA:Hid (Own w3 w0.heap.size v3 (dig a1)):=hO.mono K0.out.size
    replace OB:Hid (Own w3 w0.heap.size v2 (dig b)):=OB.out.kp hk
    replace K0:Hid (Kp w0 w3):=K0.out.trans hk
    clear hc hO hk
    have hc:=zerosR v2 b w3 OB.out.ls (by have:=HLA.out;omega)
    rw [← HD.out.2.2.2.1] at hc
    go_wp2_with fail
    refine hc.mono ?_;rintro e w' ⟨rfl,hw'⟩;obtain rfl:=hw'.symm;clear hc hw'
    have hc:=rightO v2 b kb w3 OB.out.ls (by have:=HLA.out;omega) (by have:=HD.out;omega)
    rw [HD.out.2.1] at hc
    go_wp2_with fail
    refine hc.mono ?_;rintro e w4 ⟨v4,bb2,rfl,hO,hk⟩
    replace OB:Hid (Own w4 w0.heap.size v4 (dig b1)):=hO.mono K0.out.size
    replace OA:Hid (Own w4 w0.heap.size v3 (dig a1)):=OA.out.kp hk
    replace K0:Hid (Kp w0 w4):=K0.out.trans hk
    clear hc hO hk
    by_cases cx:0 < ex
    · have hx9:ex = (x:Int):=by have:=HX.out;omega
      have hc:=leftO v3 a1 x w4 OA.out.ls HB1.out.1 HB1.out.2.2.1
      rw [← hx9] at hc
      have t1:0 < ex:=cx
      have t2:¬ ex < 0:=by omega
      have HY0:Hid (y = 0):=by have:=HX.out;show _ = _;omega
      clear hx9 cx
      go_wp2_with fail
      try rw [g2]
      refine hc.mono ?_;rintro e w5 ⟨v5,rfl,hO,hk⟩
      have ON:Hid (Own w5 w0.heap.size v5 (dig (a1 * 2 ^ x))):=hO.mono K0.out.size
      have OD:Hid (Own w5 w0.heap.size v4 (dig (b1 * 2 ^ y))):=by rw [HY0.out,Nat.pow_zero,Nat.mul_one];exact OB.out.kp hk
      replace K0:Hid (Kp w0 w5):=K0.out.trans hk
      clear hc hO hk OA OB
      obtain ⟨pN,cN,hvN,_⟩:=ON.out.len
      obtain ⟨NN,hNN⟩:∃ NN,NN = (dig (a1 * 2 ^ x)).length:=⟨_,rfl⟩
      rw [← hNN] at hvN
      subst hvN
      clear hNN
      obtain ⟨pD,cD,hvD,_⟩:=OD.out.len
      obtain ⟨ND,hND⟩:∃ ND,ND = (dig (b1 * 2 ^ y)).length:=⟨_,rfl⟩
      rw [← hND] at hvD
      subst hvD
      clear hND
      have hlt:w.heap.size < w0.heap.size:=by rw [Hw0.out];simp
      have k0:=kkeep K0.out (b:=w.heap.size) (o:=0) (v:=.bool false) (by rw [Hw0.out];simp [go_sem])
      have z0:w5.frozen? ⟨w.heap.size,0,none⟩ = false:=by rw [Below.frozen K0.out hlt,Hw0.out];simp [go_sem]
      have k1:=kkeep K0.out (b:=w.heap.size) (o:=1) (v:=.slice none 0 0) (by rw [Hw0.out];simp [go_sem])
      have z1:w5.frozen? ⟨w.heap.size,1,none⟩ = false:=by rw [Below.frozen K0.out hlt,Hw0.out];simp [go_sem]
      have k2:=kkeep K0.out (b:=w.heap.size) (o:=2) (v:=.slice none 0 0) (by rw [Hw0.out];simp [go_sem])
      have z2:w5.frozen? ⟨w.heap.size,2,none⟩ = false:=by rw [Below.frozen K0.out hlt,Hw0.out];simp [go_sem]
      have hk9:Kp w w0:=by rw [Hw0.out];exact (Kp.refl w).alloc _
      have hk0:Kp w w5:=hk9.trans K0.out
      have HZ:Hid (Own (((w5.setCell ⟨w.heap.size,0,none⟩ (.bool neg)).setCell ⟨w.heap.size,1,none⟩ (.slice pN NN cN)).setCell ⟨w.heap.size,2,none⟩ (.slice pD ND cD)) w.heap.size (.slice pN NN cN) (dig (a1 * 2 ^ x))∧Own (((w5.setCell ⟨w.heap.size,0,none⟩ (.bool neg)).setCell ⟨w.heap.size,1,none⟩ (.slice pN NN cN)).setCell ⟨w.heap.size,2,none⟩ (.slice pD ND cD)) w.heap.size (.slice pD ND cD) (dig (b1 * 2 ^ y))∧Kp w (((w5.setCell ⟨w.heap.size,0,none⟩ (.bool neg)).setCell ⟨w.heap.size,1,none⟩ (.slice pN NN cN)).setCell ⟨w.heap.size,2,none⟩ (.slice pD ND cD))):=⟨((((ON.out.setOther hlt (.bool neg)).setOther hlt (.slice pN NN cN)).setOther hlt (.slice pD ND cD))).mono (Nat.le_of_lt hlt),((((OD.out.setOther hlt (.bool neg)).setOther hlt (.slice pN NN cN)).setOther hlt (.slice pD ND cD))).mono (Nat.le_of_lt hlt),(((hk0.setCell (Nat.le_refl _) (.bool neg)).setCell (Nat.le_refl _) (.slice pN NN cN)).setCell (Nat.le_refl _) (.slice pD ND cD))⟩
      clear hk0 hlt hk9
      go_wp2
      exact bodyPost_ret (v:=.agg #[.bool neg,.slice pN NN cN,.slice pD ND cD]) (by simp [results,Tryz.results61,go_sem] <;> simp [go_sem, *]) rfl ⟨_,_,a1 * 2 ^ x,b1 * 2 ^ y,neg,rfl,HZ.out.1,HZ.out.2.1,⟨HFR.out,fun _=>rfl⟩,HZ.out.2.2⟩
    · by_cases cx2:ex < 0
      · have hx9:wrap64 (-ex) = (y:Int):=by rw [show -ex = (y:Int) from by have:=HX.out;omega];exact w64x _ (by omega) (by have:=HB1.out;omega)
        have hc:=leftO v4 b1 y w4 OB.out.ls HB1.out.2.1 HB1.out.2.2.2
        have t1:¬ 0 < ex:=by omega
        have t2:ex < 0:=cx2
        have HY0:Hid (x = 0):=by have:=HX.out;show _ = _;omega
        clear cx cx2
        go_wp2_with fail
        try rw [g2]
        try rw [hx9]
        refine hc.mono ?_;rintro e w5 ⟨v5,rfl,hO,hk⟩
        have OD:Hid (Own w5 w0.heap.size v5 (dig (b1 * 2 ^ y))):=hO.mono K0.out.size
        have ON:Hid (Own w5 w0.heap.size v3 (dig (a1 * 2 ^ x))):=by rw [HY0.out,Nat.pow_zero,Nat.mul_one];exact OA.out.kp hk
        replace K0:Hid (Kp w0 w5):=K0.out.trans hk
        clear hc hO hk OA OB
        obtain ⟨pN,cN,hvN,_⟩:=ON.out.len
        obtain ⟨NN,hNN⟩:∃ NN,NN = (dig (a1 * 2 ^ x)).length:=⟨_,rfl⟩
        rw [← hNN] at hvN
        subst hvN
        clear hNN
        obtain ⟨pD,cD,hvD,_⟩:=OD.out.len
        obtain ⟨ND,hND⟩:∃ ND,ND = (dig (b1 * 2 ^ y)).length:=⟨_,rfl⟩
        rw [← hND] at hvD
        subst hvD
        clear hND
        have hlt:w.heap.size < w0.heap.size:=by rw [Hw0.out];simp
        have k0:=kkeep K0.out (b:=w.heap.size) (o:=0) (v:=.bool false) (by rw [Hw0.out];simp [go_sem])
        have z0:w5.frozen? ⟨w.heap.size,0,none⟩ = false:=by rw [Below.frozen K0.out hlt,Hw0.out];simp [go_sem]
        have k1:=kkeep K0.out (b:=w.heap.size) (o:=1) (v:=.slice none 0 0) (by rw [Hw0.out];simp [go_sem])
        have z1:w5.frozen? ⟨w.heap.size,1,none⟩ = false:=by rw [Below.frozen K0.out hlt,Hw0.out];simp [go_sem]
        have k2:=kkeep K0.out (b:=w.heap.size) (o:=2) (v:=.slice none 0 0) (by rw [Hw0.out];simp [go_sem])
        have z2:w5.frozen? ⟨w.heap.size,2,none⟩ = false:=by rw [Below.frozen K0.out hlt,Hw0.out];simp [go_sem]
        have hk9:Kp w w0:=by rw [Hw0.out];exact (Kp.refl w).alloc _
        have hk0:Kp w w5:=hk9.trans K0.out
        have HZ:Hid (Own (((w5.setCell ⟨w.heap.size,0,none⟩ (.bool neg)).setCell ⟨w.heap.size,1,none⟩ (.slice pN NN cN)).setCell ⟨w.heap.size,2,none⟩ (.slice pD ND cD)) w.heap.size (.slice pN NN cN) (dig (a1 * 2 ^ x))∧Own (((w5.setCell ⟨w.heap.size,0,none⟩ (.bool neg)).setCell ⟨w.heap.size,1,none⟩ (.slice pN NN cN)).setCell ⟨w.heap.size,2,none⟩ (.slice pD ND cD)) w.heap.size (.slice pD ND cD) (dig (b1 * 2 ^ y))∧Kp w (((w5.setCell ⟨w.heap.size,0,none⟩ (.bool neg)).setCell ⟨w.heap.size,1,none⟩ (.slice pN NN cN)).setCell ⟨w.heap.size,2,none⟩ (.slice pD ND cD))):=⟨((((ON.out.setOther hlt (.bool neg)).setOther hlt (.slice pN NN cN)).setOther hlt (.slice pD ND cD))).mono (Nat.le_of_lt hlt),((((OD.out.setOther hlt (.bool neg)).setOther hlt (.slice pN NN cN)).setOther hlt (.slice pD ND cD))).mono (Nat.le_of_lt hlt),(((hk0.setCell (Nat.le_refl _) (.bool neg)).setCell (Nat.le_refl _) (.slice pN NN cN)).setCell (Nat.le_refl _) (.slice pD ND cD))⟩
        clear hk0 hlt hk9
        go_wp2
        exact bodyPost_ret (v:=.agg #[.bool neg,.slice pN NN cN,.slice pD ND cD]) (by simp [results,Tryz.results61,go_sem] <;> simp [go_sem, *]) rfl ⟨_,_,a1 * 2 ^ x,b1 * 2 ^ y,neg,rfl,HZ.out.1,HZ.out.2.1,⟨HFR.out,fun _=>rfl⟩,HZ.out.2.2⟩
      · have t1:¬ 0 < ex:=by omega
        have t2:¬ ex < 0:=cx2
        have HY0:Hid (x = 0∧y = 0):=by have:=HX.out;exact ⟨by omega,by omega⟩
        clear cx cx2
        have ON:Hid (Own w4 w0.heap.size v3 (dig (a1 * 2 ^ x))):=by rw [HY0.out.1,Nat.pow_zero,Nat.mul_one];exact OA.out
        have OD:Hid (Own w4 w0.heap.size v4 (dig (b1 * 2 ^ y))):=by rw [HY0.out.2,Nat.pow_zero,Nat.mul_one];exact OB.out
        clear OA OB
        obtain ⟨pN,cN,hvN,_⟩:=ON.out.len
        obtain ⟨NN,hNN⟩:∃ NN,NN = (dig (a1 * 2 ^ x)).length:=⟨_,rfl⟩
        rw [← hNN] at hvN
        subst hvN
        clear hNN
        obtain ⟨pD,cD,hvD,_⟩:=OD.out.len
        obtain ⟨ND,hND⟩:∃ ND,ND = (dig (b1 * 2 ^ y)).length:=⟨_,rfl⟩
        rw [← hND] at hvD
        subst hvD
        clear hND
        have hlt:w.heap.size < w0.heap.size:=by rw [Hw0.out];simp
        have k0:=kkeep K0.out (b:=w.heap.size) (o:=0) (v:=.bool false) (by rw [Hw0.out];simp [go_sem])
        have z0:w4.frozen? ⟨w.heap.size,0,none⟩ = false:=by rw [Below.frozen K0.out hlt,Hw0.out];simp [go_sem]
        have k1:=kkeep K0.out (b:=w.heap.size) (o:=1) (v:=.slice none 0 0) (by rw [Hw0.out];simp [go_sem])
        have z1:w4.frozen? ⟨w.heap.size,1,none⟩ = false:=by rw [Below.frozen K0.out hlt,Hw0.out];simp [go_sem]
        have k2:=kkeep K0.out (b:=w.heap.size) (o:=2) (v:=.slice none 0 0) (by rw [Hw0.out];simp [go_sem])
        have z2:w4.frozen? ⟨w.heap.size,2,none⟩ = false:=by rw [Below.frozen K0.out hlt,Hw0.out];simp [go_sem]
        have hk9:Kp w w0:=by rw [Hw0.out];exact (Kp.refl w).alloc _
        have hk0:Kp w w4:=hk9.trans K0.out
        have HZ:Hid (Own (((w4.setCell ⟨w.heap.size,0,none⟩ (.bool neg)).setCell ⟨w.heap.size,1,none⟩ (.slice pN NN cN)).setCell ⟨w.heap.size,2,none⟩ (.slice pD ND cD)) w.heap.size (.slice pN NN cN) (dig (a1 * 2 ^ x))∧Own (((w4.setCell ⟨w.heap.size,0,none⟩ (.bool neg)).setCell ⟨w.heap.size,1,none⟩ (.slice pN NN cN)).setCell ⟨w.heap.size,2,none⟩ (.slice pD ND cD)) w.heap.size (.slice pD ND cD) (dig (b1 * 2 ^ y))∧Kp w (((w4.setCell ⟨w.heap.size,0,none⟩ (.bool neg)).setCell ⟨w.heap.size,1,none⟩ (.slice pN NN cN)).setCell ⟨w.heap.size,2,none⟩ (.slice pD ND cD))):=⟨((((ON.out.setOther hlt (.bool neg)).setOther hlt (.slice pN NN cN)).setOther hlt (.slice pD ND cD))).mono (Nat.le_of_lt hlt),((((OD.out.setOther hlt (.bool neg)).setOther hlt (.slice pN NN cN)).setOther hlt (.slice pD ND cD))).mono (Nat.le_of_lt hlt),(((hk0.setCell (Nat.le_refl _) (.bool neg)).setCell (Nat.le_refl _) (.slice pN NN cN)).setCell (Nat.le_refl _) (.slice pD ND cD))⟩
        clear hk0 hlt hk9
        go_wp2
        exact bodyPost_ret (v:=.agg #[.bool neg,.slice pN NN cN,.slice pD ND cD]) (by simp [results,Tryz.results61,go_sem] <;> simp [go_sem, *]) rfl ⟨_,_,a1 * 2 ^ x,b1 * 2 ^ y,neg,rfl,HZ.out.1,HZ.out.2.1,⟨HFR.out,fun _=>rfl⟩,HZ.out.2.2⟩
theorem sgep0 (m:Nat) (h:m / 4503599627370496 = 0):Fb.sgD m = m % 4503599627370496∧Fb.epD m = -1074:=by
  have h1:m < 4503599627370496:=by omega
  unfold Fb.sgD Fb.sgG Fb.epD Fb.epG
  rw [if_pos h1,if_pos h1,Nat.mod_eq_of_lt h1]
  exact ⟨rfl,rfl⟩
theorem sgep1 (m:Nat) (hm:m < 9218868437227405312) (h:m / 4503599627370496≠0):Fb.sgD m = m % 4503599627370496 + 4503599627370496∧Fb.epD m = ((m / 4503599627370496:Nat):Int) - 1 - 1074:=by
  have h1:¬ m < 4503599627370496:=by omega
  unfold Fb.sgD Fb.sgG Fb.epD Fb.epG
  rw [if_neg h1,if_pos hm,if_neg h1,if_pos hm]
  generalize m / 4503599627370496 = q
  exact ⟨by omega,by omega⟩
theorem small64 (f:Nat) (x:Int) (h:f < 18446744073709551616) (hx:x.natAbs≤4096):f < 18446744073709551616∧blen f≤64∧x.natAbs≤1048576 :=
  ⟨h,blen_lt f 64 (by rw [show (2:Nat) ^ 64 = 18446744073709551616 from by decide];exact h),by omega⟩
theorem fb_nums (eN fN f:Nat) (e1 x:Int) (b1:eN < 2047) (b2:fN < 4503599627370496) (h0:eN≠0) (hf:f = fN + 4503599627370496) (he1:e1 = (eN:Int) - 1) (hx:x = e1 - 1074) :
    0 < (eN:Int)∧IntKind.u64.wrap ((fN:Int) + 4503599627370496) = (f:Int)∧wrap64 ((eN:Int) - 1) = e1∧wrap64 (e1 - 1074) = x∧f < 18446744073709551616∧x.natAbs≤4096:=by
  refine ⟨by omega, ?_, ?_, ?_,by omega,by omega⟩
  · rw [IntKind.wrap_u64];omega
  · rw [← he1];exact w64x _ (by omega) (by omega)
  · rw [← hx];exact w64x _ (by omega) (by omega)
theorem fb_e (eN:Nat) (b1:eN < 2047):IntKind.i64.wrap (eN:Int) = (eN:Int)∧wrap64 (eN:Int) = (eN:Int):=⟨wi64 _ (by omega) (by omega),w64x _ (by omega) (by omega)⟩
theorem fb_bits (n:Bool) (m X Q eN fN:Nat) (hm:m < 9218868437227405312) (hX:X = Fb.wD n m) (hQ:Q = X / 4503599627370496) (he:eN = m / 4503599627370496) (hf:fN = m % 4503599627370496) :
    bits BinOp.and IntKind.u64 (Q:Int) 2047 = (eN:Int)∧bits BinOp.and IntKind.u64 (X:Int) 4503599627370495 = (fN:Int)∧(X:Int) / 9223372036854775808 = (if n = true then 1 else 0)∧eN < 2047∧fN < 4503599627370496∧X < 18446744073709551616:=by
  have hX9:X < 18446744073709551616:=by rw [hX];unfold Fb.wD;split <;> omega
  have e1:Q % 2048 = eN:=by rw [hQ,he,hX];unfold Fb.wD;split <;> omega
  have e2:X % 4503599627370496 = fN:=by rw [hf,hX];unfold Fb.wD;split <;> omega
  refine ⟨?_, ?_, ?_,by omega,by omega,hX9⟩
  · have h:=u64_and_nat Q 2047 (by omega) (by decide)
    rw [show (2047:Nat) = 2 ^ 11 - 1 from by decide,Nat.and_two_pow_sub_one_eq_mod,show (2:Nat) ^ 11 = 2048 from by decide,e1] at h
    exact h
  · have h:=u64_and_nat X 4503599627370495 hX9 (by decide)
    rw [show (4503599627370495:Nat) = 2 ^ 52 - 1 from by decide,Nat.and_two_pow_sub_one_eq_mod,show (2:Nat) ^ 52 = 4503599627370496 from by decide,e2] at h
    exact h
  · rw [hX];unfold Fb.wD;cases n <;> simp <;> omega
def ratW (d:Int) (neg:Bool) (a b:Nat) (exp:Int):Nat:=if 16384 < len32 a∨16384 < len32 b then 9221120237041090561 else if b = 0 then (if a = 0 then 9221120237041090561 else mdW neg 9218868437227405312) else if a = 0 then 0 else mdW neg (finU 53 2098 9218868437227405311 9218868437227405312 (dirN neg d) (rV (dirN neg d) 53 a b (exp + 1074)))
theorem refW_fin (d:Int) (g neg:Bool) (a b a2 b2:Nat) (e:Int) (hF:FracOf a b e a2 b2) (hg:a≠0→g = neg) (K:Nat) (hK:K = 1074):refW 53 K 2098 9218868437227405311 0 d g a2 b2 = if a = 0 then 0 else mdW neg (finU 53 2098 9218868437227405311 9218868437227405312 (dirN neg d) (rV (dirN neg d) 53 a b (e + 1074))):=by
  unfold refW
  by_cases c:a = 0
  · rw [if_pos c,if_pos (hF.2.1.2 c)]
  · rw [if_neg c,if_neg (fun h=>c (hF.2.1.1 h)),hg c,hF.2.2.1 _ _ _ c,Nat.pow_zero,Nat.mul_one,show ((K:Nat):Int) + e = e + 1074 from by omega]
    rfl
theorem rbits_ (d:Int) (neg:Bool) (vn vd:Value) (a b:Nat) (w:World) (hn:Ls w vn (dig a)) (hd:Ls w vd (dig b)) (hb:b≠0) (la:blen a≤4194304) (lb:blen b≤4194304) :
    Calls Tryz.prog 52 #[.int .i64 d,.agg #[.bool neg,vn,vd]] w fun e w'=>e = .returned (.int .u64 ((refW 53 1074 2098 9218868437227405311 0 d neg a b:Nat):Int))∧Kp w w':=by
  obtain ⟨w0,hw0⟩:∃ w0,w0 = w.alloc (.cells #[.bool neg,vn,vd] 27):=⟨_,rfl⟩
  have hk0:Kp w w0:=by rw [hw0];exact (Kp.refl w).alloc _
  have h:=rrounded_D d neg vn vd a b w0 (hn.kp hk0) (hd.kp hk0) hb la lb
  obtain ⟨Z,hZ⟩:∃ Z,Z = refW 53 1074 2098 9218868437227405311 0 d neg a b:=⟨_,rfl⟩
  rw [← hZ] at h ⊢
  clear hn hd hb la lb hZ
  go_enter Tryz.func52,Tryz.ntmps52
  go_wp2_with fail
  rw [← hw0]
  refine h.mono ?_;rintro e w1 ⟨rfl,hk⟩
  have hk1:=hk0.trans hk
  clear h hk hk0 hw0
  go_wp2
  exact bodyPost_ret (v:=.int .u64 (Z:Int)) (by simp [results,Tryz.results52,go_sem]) rfl ⟨rfl,hk1⟩
end Go.Proofs.YtfhcmabejagknaaGreatDoor
