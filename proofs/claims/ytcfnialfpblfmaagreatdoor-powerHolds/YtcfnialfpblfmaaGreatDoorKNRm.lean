import Derived.Test.YtcfnialfpblfmaaGreatDoorKEA
import Derived.Test.YtcfnialfpblfmaaGreatDoorKYA
namespace Go.Proofs.YtcfnialfpblfmaaGreatDoor
open Go.RowKit

def pw (z:Int):Nat:=Fq.wD (decide (z<0)) z.natAbs
def BdZ (z:Int):Prop:=-9218868437227405312≤z∧z≤9218868437227405312
theorem plz_pw (z:Int):Fq.plz (decide (z<0)) z.natAbs=z:=by
 unfold Fq.plz
 by_cases c:z<0 <;> simp [c] <;> omega
theorem abs_pw (z:Int) (h:BdZ z):z.natAbs≤9218868437227405312:=by unfold BdZ at h;omega
theorem pw_lt (z:Int) (h:BdZ z):pw z<18446744073709551616:=by
 have:=abs_pw z h
 unfold pw Fq.wD;split <;> omega
theorem pw_ne (z:Int) (h:BdZ z):pw z≠9223372036854775808:=by
 have h2:=abs_pw z h
 unfold pw Fq.wD
 by_cases c:z<0 <;> simp [c] <;> omega
theorem pla_pw (z:Int) (h:BdZ z):Fq.pla (pw z)=pw z:=by unfold Fq.pla;rw [if_neg (pw_ne z h)]
theorem pw_I:pw 9218868437227405312=9218868437227405312:=by decide
theorem pw_MI:pw (-9218868437227405312)=18442240474082181120:=by decide
theorem ord_pw (x y:Int) (hx:BdZ x) (hy:BdZ y):FloatKind.f64.format.order (pw x) (pw y)=some (compare x y):=by
 have h:=Fq.ordD (decide (x<0)) (decide (y<0)) x.natAbs y.natAbs (abs_pw x hx) (abs_pw y hy)
 rw [plz_pw,plz_pw] at h
 exact h
theorem plt9 (x y:Int) (hx:BdZ x) (hy:BdZ y):(FloatKind.f64.format.order (pw x) (pw y) == some Ordering.lt)=decide (x<y):=by
 rw [ord_pw x y hx hy]
 rcases Int.lt_trichotomy x y with g | g | g
 ·rw [Fq.cmp_lt g,decide_eq_true g];rfl
 ·rw [Fq.cmp_eq g,decide_eq_false (by omega)];rfl
 ·rw [Fq.cmp_gt g,decide_eq_false (by omega)];rfl
theorem pgt9 (x y:Int) (hx:BdZ x) (hy:BdZ y):(FloatKind.f64.format.order (pw x) (pw y) == some Ordering.gt)=decide (y<x):=by
 rw [ord_pw x y hx hy]
 rcases Int.lt_trichotomy x y with g | g | g
 ·rw [Fq.cmp_lt g,decide_eq_false (by omega)];rfl
 ·rw [Fq.cmp_eq g,decide_eq_false (by omega)];rfl
 ·rw [Fq.cmp_gt g,decide_eq_true g];rfl
theorem peq9 (x y:Int) (hx:BdZ x) (hy:BdZ y):(FloatKind.f64.format.order (pw x) (pw y) == some Ordering.eq)=decide (x=y):=by
 rw [ord_pw x y hx hy]
 rcases Int.lt_trichotomy x y with g | g | g
 ·rw [Fq.cmp_lt g,decide_eq_false (by omega)];rfl
 ·rw [Fq.cmp_eq g,decide_eq_true g];rfl
 ·rw [Fq.cmp_gt g,decide_eq_false (by omega)];rfl
theorem ple9 (x y:Int) (hx:BdZ x) (hy:BdZ y):(FloatKind.f64.format.order (pw x) (pw y) == some Ordering.lt || FloatKind.f64.format.order (pw x) (pw y) == some Ordering.eq)=decide (x≤y):=by
 rw [plt9 x y hx hy,peq9 x y hx hy]
 by_cases c:x<y <;> by_cases c2:x=y <;> simp [c,c2] <;> omega
theorem pw_inj (x y:Int) (hx:BdZ x) (hy:BdZ y):pw x=pw y ↔ x=y:=by
 constructor
 ·intro h
  have e:=peq9 x y hx hy
  have e2:=peq9 y y hy hy
  rw [h,e2] at e
  by_cases c:x=y
  ·exact c
  ·simp [c] at e
 ·intro h;rw [h]
def VdZ (L H:Int):Prop:=(L=9218868437227405312∧H = -9218868437227405312)∨(-9218868437227405312≤L∧L<9218868437227405312∧-9218868437227405312<H∧H≤9218868437227405312∧L≤H)
theorem VdZ.lo {L H:Int} (h:VdZ L H):BdZ L:=by unfold VdZ at h;unfold BdZ;omega
theorem VdZ.hi {L H:Int} (h:VdZ L H):BdZ H:=by unfold VdZ at h;unfold BdZ;omega
theorem pw_plz (n:Bool) (m:Nat) (h:Fq.wD n m≠9223372036854775808) (hm:m≤9218868437227405312):pw (Fq.plz n m)=Fq.wD n m∧BdZ (Fq.plz n m):=by
 cases n
 ·have e:Fq.plz false m=(m:Int):=by simp [Fq.plz]
  rw [e]
  refine ⟨?_,by unfold BdZ;omega⟩
  unfold pw
  rw [show decide ((m:Int)<0)=false from decide_eq_false (by omega),show ((m:Int)).natAbs=m from by omega]
 ·have e:Fq.plz true m = -(m:Int):=by simp [Fq.plz]
  have z:m≠0:=by intro z;apply h;rw [z];rfl
  rw [e]
  refine ⟨?_,by unfold BdZ;omega⟩
  unfold pw
  rw [show decide (-(m:Int)<0)=true from decide_eq_true (by omega),show (-(m:Int)).natAbs=m from by omega]
theorem snd_pw (L H:Int) (hL:BdZ L) (hH:BdZ H):Fq.snd (pw L) (pw H)=decide (L≤H∧L≠9218868437227405312∧H≠-9218868437227405312):=by
 unfold Fq.snd
 rw [ple9 L H hL hH]
 have e1:(pw L=9218868437227405312) ↔ L=9218868437227405312:=by
  have h:=pw_inj L 9218868437227405312 hL (by unfold BdZ;omega)
  rw [pw_I] at h;exact h
 have e2:(pw H=18442240474082181120) ↔ H = -9218868437227405312:=by
  have h:=pw_inj H (-9218868437227405312) hH (by unfold BdZ;omega)
  rw [pw_MI] at h;exact h
 simp only [e1,e2]
 by_cases c1:L≤H <;> by_cases c2:L=9218868437227405312 <;> by_cases c3:H = -9218868437227405312 <;> simp [c1,c2,c3]
theorem rlo_pw (L H:Int) (hL:BdZ L) (hH:BdZ H):Fq.rlo (pw L) (pw H)=pw (if L≤H∧L≠9218868437227405312∧H≠-9218868437227405312 then L else 9218868437227405312):=by
 unfold Fq.rlo
 rw [snd_pw L H hL hH,pla_pw L hL]
 by_cases c:L≤H∧L≠9218868437227405312∧H≠-9218868437227405312
 ·rw [if_pos c,if_pos (decide_eq_true c)]
 ·rw [if_neg c,if_neg (by simpa using c),pw_I]
theorem rhi_pw (L H:Int) (hL:BdZ L) (hH:BdZ H):Fq.rhi (pw L) (pw H)=pw (if L≤H∧L≠9218868437227405312∧H≠-9218868437227405312 then H else -9218868437227405312):=by
 unfold Fq.rhi
 rw [snd_pw L H hL hH,pla_pw H hH]
 by_cases c:L≤H∧L≠9218868437227405312∧H≠-9218868437227405312
 ·rw [if_pos c,if_pos (decide_eq_true c)]
 ·rw [if_neg c,if_neg (by simpa using c),pw_MI]
theorem read_pw (a b:Nat) (ha:a<18446744073709551616) (hb:b<18446744073709551616):∃ L H,VdZ L H∧Fq.rlo a b=pw L∧Fq.rhi a b=pw H:=by
 by_cases c:Fq.snd a b=true
 ·obtain ⟨n,m,hm,rfl⟩:=Fq.exD a ha
  obtain ⟨n',m',hm',rfl⟩:=Fq.exD b hb
  have es:=Fq.snd_w n n' m m' hm hm'
  rw [c] at es
  have es:=of_decide_eq_true es.symm
  have key:∀ (g:Bool) (r:Nat),r≤9218868437227405312→pw (Fq.plz g r)=Fq.pla (Fq.wD g r)∧BdZ (Fq.plz g r):=by
   intro g r hr
   by_cases c2:Fq.wD g r=9223372036854775808
   ·have hg:g=true∧r=0:=by
     unfold Fq.wD at c2
     cases g
     ·simp at c2;omega
     ·simp at c2;exact ⟨rfl,c2⟩
    rw [c2,hg.1,hg.2]
    exact ⟨by decide,by unfold BdZ Fq.plz;simp⟩
   ·have h:=pw_plz g r c2 hr
    rw [show Fq.pla (Fq.wD g r)=Fq.wD g r from by simp [Fq.pla,c2]]
    exact h
  have k1:=key n m es.1
  have k2:=key n' m' es.2.1
  refine ⟨Fq.plz n m,Fq.plz n' m',Or.inr ?_, ?_, ?_⟩
  ·have b1:=k1.2
   have b2:=k2.2
   unfold BdZ at b1 b2
   have e1:Fq.plz n m≠9218868437227405312:=by
    intro h
    apply es.2.2.2.1
    unfold Fq.plz at h
    cases n
    ·simp at h;exact ⟨rfl,by omega⟩
    ·simp at h;omega
   have e2:Fq.plz n' m'≠-9218868437227405312:=by
    intro h
    apply es.2.2.2.2
    unfold Fq.plz at h
    cases n'
    ·simp at h <;> omega
    ·simp at h;exact ⟨rfl,by omega⟩
   have:=es.2.2.1
   omega
  ·rw [k1.1];simp [Fq.rlo,c]
  ·rw [k2.1];simp [Fq.rhi,c]
 ·refine ⟨9218868437227405312,-9218868437227405312,Or.inl ⟨rfl,rfl⟩, ?_, ?_⟩
  ·rw [pw_I];unfold Fq.rlo;rw [if_neg c]
  ·rw [pw_MI];unfold Fq.rhi;rw [if_neg c]
theorem reread9 (L H:Int) (h:VdZ L H):Fq.rlo (pw L) (pw H)=pw L∧Fq.rhi (pw L) (pw H)=pw H:=by
 rw [rlo_pw L H h.lo h.hi,rhi_pw L H h.lo h.hi]
 rcases h with ⟨rfl,rfl⟩ | h
 ·exact ⟨by rw [if_neg (by omega)],by rw [if_neg (by omega)]⟩
 ·exact ⟨by rw [if_pos (by omega)],by rw [if_pos (by omega)]⟩
theorem bd_max (x y:Int) (hx:BdZ x) (hy:BdZ y):BdZ (max x y):=by unfold BdZ at *;omega
theorem min7_ (n n':Bool) (m m':Nat) (hm:m≤9218868437227405312) (hm':m'≤9218868437227405312) (h1:Fq.wD n m≠9223372036854775808) (h2:Fq.wD n' m'≠9223372036854775808) (ts:Array TypeId) (t:TypeId) (w:World):(Builtin.min_ ts t #[.float .f64 (Fq.wD n m),.float .f64 (Fq.wD n' m')]).run Tryz.prog w=.ok (.float .f64 (if Fq.plz n' m'<Fq.plz n m then Fq.wD n' m' else Fq.wD n m)) w:=by
 have ho:=Fq.ordD n n' m m' hm hm'
 rcases Int.lt_trichotomy (Fq.plz n m) (Fq.plz n' m') with g | g | g
 ·rw [Fq.cmp_lt g] at ho
  rw [if_neg (by omega)]
  generalize Fq.wD n m=X at ho ⊢
  generalize Fq.wD n' m'=Y at ho ⊢
  simp [Builtin.min_,Builtin.min2,ho]
 ·rw [Fq.cmp_eq g] at ho
  have e:Fq.wD n m=Fq.wD n' m':=by
   have z1:n=true→m≠0:=fun h z=>h1 (by rw [h,z];rfl)
   have z2:n'=true→m'≠0:=fun h z=>h2 (by rw [h,z];rfl)
   unfold Fq.wD
   unfold Fq.plz at g
   cases n <;> cases n' <;> simp at z1 z2 g ⊢ <;> omega
  rw [if_neg (by omega)]
  rw [← e] at ho ⊢
  generalize Fq.wD n m=X at ho ⊢
  simp [Builtin.min_,Builtin.min2,ho]
 ·rw [Fq.cmp_gt g] at ho
  rw [if_pos (by omega)]
  generalize Fq.wD n m=X at ho ⊢
  generalize Fq.wD n' m'=Y at ho ⊢
  simp [Builtin.min_,Builtin.min2,ho]
theorem max7_ (n n':Bool) (m m':Nat) (hm:m≤9218868437227405312) (hm':m'≤9218868437227405312) (h1:Fq.wD n m≠9223372036854775808) (h2:Fq.wD n' m'≠9223372036854775808) (ts:Array TypeId) (t:TypeId) (w:World):(Builtin.max_ ts t #[.float .f64 (Fq.wD n m),.float .f64 (Fq.wD n' m')]).run Tryz.prog w=.ok (.float .f64 (if Fq.plz n' m' > Fq.plz n m then Fq.wD n' m' else Fq.wD n m)) w:=by
 have ho:=Fq.ordD n n' m m' hm hm'
 rcases Int.lt_trichotomy (Fq.plz n m) (Fq.plz n' m') with g | g | g
 ·rw [Fq.cmp_lt g] at ho
  rw [if_pos (by omega)]
  generalize Fq.wD n m=X at ho ⊢
  generalize Fq.wD n' m'=Y at ho ⊢
  simp [Builtin.max_,Builtin.max2,ho]
 ·rw [Fq.cmp_eq g] at ho
  have e:Fq.wD n m=Fq.wD n' m':=by
   have z1:n=true→m≠0:=fun h z=>h1 (by rw [h,z];rfl)
   have z2:n'=true→m'≠0:=fun h z=>h2 (by rw [h,z];rfl)
   unfold Fq.wD
   unfold Fq.plz at g
   cases n <;> cases n' <;> simp at z1 z2 g ⊢ <;> omega
  rw [if_neg (by omega)]
  rw [← e] at ho ⊢
  generalize Fq.wD n m=X at ho ⊢
  simp [Builtin.max_,Builtin.max2,ho]
 ·rw [Fq.cmp_gt g] at ho
  rw [if_neg (by omega)]
  generalize Fq.wD n m=X at ho ⊢
  generalize Fq.wD n' m'=Y at ho ⊢
  simp [Builtin.max_,Builtin.max2,ho]

def Rd (a b:Nat) (L H:Int):Prop:=a<18446744073709551616∧b<18446744073709551616∧VdZ L H∧Fq.rlo a b=pw L∧Fq.rhi a b=pw H
theorem Rd.ex (a b:Nat) (ha:a<18446744073709551616) (hb:b<18446744073709551616):∃ L H,Rd a b L H:=by
 obtain ⟨L,H,h1,h2,h3⟩:=read_pw a b ha hb
 exact ⟨L,H,ha,hb,h1,h2,h3⟩
theorem Rd.of {L H:Int} (h:VdZ L H):Rd (pw L) (pw H) L H:=⟨pw_lt L h.lo,pw_lt H h.hi,h,(reread9 L H h).1,(reread9 L H h).2⟩
theorem Rd.vd {a b:Nat} {L H:Int} (h:Rd a b L H):VdZ L H:=h.2.2.1
theorem Rd.call {a b:Nat} {L H:Int} (h:Rd a b L H) (w:World):Calls Tryz.prog 46 #[.agg #[.float .f64 a,.float .f64 b]] w fun e w'=>e=.returned (.agg #[.float .f64 (pw L),.float .f64 (pw H)])∧Kp w w':=by
 have g:=Fq.read_ a b h.1 h.2.1 w
 rw [h.2.2.2.1,h.2.2.2.2] at g
 exact g
theorem emp9 (L H:Int) (h:VdZ L H):decide (pw L=9218868437227405312∧pw H=18442240474082181120)=decide (L=9218868437227405312):=by
 congr 1;apply propext
 have e1:=pw_inj L 9218868437227405312 h.lo (by unfold BdZ;omega)
 have e2:=pw_inj H (-9218868437227405312) h.hi (by unfold BdZ;omega)
 rw [pw_I] at e1
 rw [pw_MI] at e2
 rw [e1,e2]
 unfold VdZ at h
 omega
theorem min9_ (x y:Int) (hx:BdZ x) (hy:BdZ y) (ts:Array TypeId) (t:TypeId) (w:World):(Builtin.min_ ts t #[.float .f64 (pw x),.float .f64 (pw y)]).run Tryz.prog w=.ok (.float .f64 (pw (min x y))) w:=by
 have h:=min7_ (decide (x<0)) (decide (y<0)) x.natAbs y.natAbs (abs_pw x hx) (abs_pw y hy) (pw_ne x hx) (pw_ne y hy) ts t w
 rw [plz_pw,plz_pw] at h
 have e:(if y<x then pw y else pw x)=pw (min x y):=by
  by_cases c:y<x
  ·rw [if_pos c,show min x y=y from by omega]
  ·rw [if_neg c,show min x y=x from by omega]
 exact e ▸ h
theorem max9_ (x y:Int) (hx:BdZ x) (hy:BdZ y) (ts:Array TypeId) (t:TypeId) (w:World):(Builtin.max_ ts t #[.float .f64 (pw x),.float .f64 (pw y)]).run Tryz.prog w=.ok (.float .f64 (pw (max x y))) w:=by
 have h:=max7_ (decide (x<0)) (decide (y<0)) x.natAbs y.natAbs (abs_pw x hx) (abs_pw y hy) (pw_ne x hx) (pw_ne y hy) ts t w
 rw [plz_pw,plz_pw] at h
 have e:(if y > x then pw y else pw x)=pw (max x y):=by
  by_cases c:y > x
  ·rw [if_pos c,show max x y=y from by omega]
  ·rw [if_neg c,show max x y=x from by omega]
 exact e ▸ h
def bmp (k:Nat) (s:Bool) (q r U:Nat):Bool:=if k=1 then s && (r != 0) else if k=2 then !s && (r != 0) else if k=3 then false else if k=4 then upw 0 q r U else decide (U≤2*r)
def cutN (k:Nat) (s:Bool) (A U:Nat):Nat:=A / U+(bmp k s (A / U) (A % U) U).toNat
theorem bmp_zero (k:Nat) (s:Bool) (q U:Nat) (hU:0<U):bmp k s q 0 U=false:=by
 unfold bmp
 by_cases c1:k=1
 ·rw [if_pos c1];simp
 rw [if_neg c1]
 by_cases c2:k=2
 ·rw [if_pos c2];simp
 rw [if_neg c2]
 by_cases c3:k=3
 ·rw [if_pos c3]
 rw [if_neg c3]
 by_cases c4:k=4
 ·rw [if_pos c4];exact upw_none _ _ _ hU
 rw [if_neg c4]
 exact decide_eq_false (by omega)
theorem bmp_mono (k:Nat) (s:Bool) (q r r' U:Nat) (hU:0<U) (h:r≤r') (u:bmp k s q r U=true):bmp k s q r' U=true:=by
 unfold bmp at u ⊢
 by_cases c1:k=1
 ·rw [if_pos c1] at u ⊢
  rw [Bool.and_eq_true] at u ⊢
  refine ⟨u.1, ?_⟩
  have:=u.2
  simp at this ⊢
  omega
 rw [if_neg c1] at u ⊢
 by_cases c2:k=2
 ·rw [if_pos c2] at u ⊢
  rw [Bool.and_eq_true] at u ⊢
  refine ⟨u.1, ?_⟩
  have:=u.2
  simp at this ⊢
  omega
 rw [if_neg c2] at u ⊢
 by_cases c3:k=3
 ·rw [if_pos c3] at u;cases u
 rw [if_neg c3] at u ⊢
 by_cases c4:k=4
 ·rw [if_pos c4] at u ⊢
  exact upw_mono 0 q r U r' U hU hU (Nat.mul_le_mul_right _ h) u
 rw [if_neg c4] at u ⊢
 exact decide_eq_true (by have:=of_decide_eq_true u;omega)
theorem b1_le (b:Bool):b.toNat≤1:=by cases b <;> decide
theorem cutN_mono (k:Nat) (s:Bool) (A A' U:Nat) (hU:0<U) (h:A≤A'):cutN k s A U≤cutN k s A' U:=by
 unfold cutN
 have hd:A / U≤A' / U:=Nat.div_le_div_right h
 by_cases c:A / U=A' / U
 ·rw [← c]
  have d1:=Nat.div_add_mod A U
  have d2:=Nat.div_add_mod A' U
  rw [← c] at d2
  have hr:A % U≤A' % U:=by omega
  have hm:=bmp_mono k s (A / U) (A % U) (A' % U) U hU hr
  cases hx:bmp k s (A / U) (A % U) U
  ·simp
  ·rw [hm hx];exact Nat.le_refl _
 ·have:=b1_le (bmp k s (A / U) (A % U) U)
  omega
theorem cutN_mul (k:Nat) (s:Bool) (q U:Nat) (hU:0<U):cutN k s (q*U) U=q:=by
 unfold cutN
 rw [Nat.mul_div_cancel _ hU,Nat.mul_mod_left,bmp_zero k s q U hU]
 simp
theorem cutN_scale (k:Nat) (s:Bool) (A U c:Nat) (hc:0<c):cutN k s (A*c) (U*c)=cutN k s A U:=by
 unfold cutN
 rw [Nat.mul_div_mul_right _ _ hc,Nat.mul_mod_mul_right]
 congr 2
 unfold bmp
 have e:(A % U*c != 0)=(A % U != 0):=by
  by_cases z:A % U=0
  ·rw [z,Nat.zero_mul]
  ·have:=Nat.mul_pos (Nat.pos_of_ne_zero z) hc
   rw [show (A % U*c != 0)=true from by simp;omega,show (A % U != 0)=true from by simp;omega]
 rw [e,upw_scale _ _ _ _ _ hc]
 have e2:decide (U*c≤2*(A % U*c))=decide (U≤2*(A % U)):=by
  apply decide_eq_decide.2
  rw [← Nat.mul_assoc]
  exact Nat.mul_le_mul_right_iff hc
 rw [e2]
def stV (k:Nat) (U:Nat) (V:Int):Int:=if k=0 then (if V<0 then -(U:Int) else if V=0 then 0 else (U:Int)) else if V<0 then -((cutN k true V.natAbs U*U:Nat):Int) else ((cutN k false V.natAbs U*U:Nat):Int)
theorem stV_zero (k U:Nat) (hU:0<U):stV k U 0=0:=by
 unfold stV
 by_cases c:k=0
 ·rw [if_pos c];rfl
 ·rw [if_neg c,if_neg (by omega)]
  have:=cutN_mul k false 0 U hU
  rw [Nat.zero_mul] at this
  rw [show (0:Int).natAbs=0 from rfl,this,Nat.zero_mul];rfl
theorem stV_mono (k U:Nat) (hU:0<U) (V V':Int) (h:V≤V'):stV k U V≤stV k U V':=by
 unfold stV
 by_cases c:k=0
 ·rw [if_pos c,if_pos c]
  by_cases a:V<0 <;> by_cases b:V'<0 <;> by_cases a0:V=0 <;> by_cases b0:V'=0 <;> simp [a,b,a0,b0] <;> omega
 rw [if_neg c,if_neg c]
 by_cases a:V<0
 ·rw [if_pos a]
  by_cases b:V'<0
  ·rw [if_pos b]
   have:=Nat.mul_le_mul_right U (cutN_mono k true V'.natAbs V.natAbs U hU (by omega))
   omega
  ·rw [if_neg b];omega
 ·rw [if_neg a,if_neg (by omega)]
  have:=Nat.mul_le_mul_right U (cutN_mono k false V.natAbs V'.natAbs U hU (by omega))
  omega
theorem bmp_neg (k:Nat) (h:k≠1∧k≠2) (s s':Bool) (q r U:Nat):bmp k s q r U=bmp k s' q r U:=by
 unfold bmp
 rw [if_neg h.1,if_neg h.1,if_neg h.2,if_neg h.2]
theorem bmp_12 (s:Bool) (q r U:Nat):bmp 1 (!s) q r U=bmp 2 s q r U:=by
 unfold bmp
 rw [if_pos rfl,if_neg (by decide),if_pos rfl]
theorem stV_neg (k U:Nat) (hU:0<U) (h:k≠1∧k≠2) (V:Int):stV k U (-V) = -(stV k U V):=by
 by_cases z:V=0
 ·rw [z,show -(0:Int)=0 from rfl,stV_zero k U hU];rfl
 unfold stV
 have e:∀ A,cutN k true A U=cutN k false A U:=fun A=>by unfold cutN;rw [bmp_neg k h true false]
 by_cases c:k=0
 ·rw [if_pos c,if_pos c]
  by_cases a:V<0
  ·rw [if_pos a,if_neg (by omega),if_neg (by omega)];omega
  ·rw [if_neg a,if_pos (by omega),if_neg z]
 rw [if_neg c,if_neg c,Int.natAbs_neg,e]
 by_cases a:V<0
 ·rw [if_pos a,if_neg (by omega)];omega
 ·rw [if_neg a,if_pos (by omega)]
theorem stV_12 (U:Nat) (hU:0<U) (V:Int):stV 2 U V = -(stV 1 U (-V)):=by
 by_cases z:V=0
 ·rw [z,show -(0:Int)=0 from rfl,stV_zero 1 U hU,stV_zero 2 U hU];rfl
 unfold stV
 rw [if_neg (show ¬ (2:Nat)=0 by decide),if_neg (show ¬ (1:Nat)=0 by decide),Int.natAbs_neg]
 have e1:∀ A,cutN 1 true A U=cutN 2 false A U:=fun A=>by unfold cutN;rw [show true = !false from rfl,bmp_12]
 have e2:∀ A,cutN 1 false A U=cutN 2 true A U:=fun A=>by unfold cutN;rw [show false = !true from rfl,bmp_12]
 rw [e1,e2]
 by_cases a:V<0
 ·rw [if_pos a,if_neg (by omega)]
 ·rw [if_neg a,if_pos (by omega)];omega
def wayOf (k:Nat):Ieee.Toward:=if k=1 then .down else if k=2 then .up else if k=3 then .zero else .even
theorem cut_down (s:Bool) (n drop:Nat):Ieee.Toward.down.cut s n drop=cutN 1 s n (2 ^ drop):=by
 unfold Ieee.Toward.cut cutN bmp
 simp only [Nat.shiftLeft_eq,Nat.one_mul]
 rw [if_pos trivial]
 rcases Nat.lt_or_ge (n.log2+2) drop with c | c
 ·rw [Nat.min_eq_right (by omega)]
  have h1:n<2 ^ (n.log2+1):=Nat.lt_log2_self
  have h2:2 ^ (n.log2+2)=2*2 ^ (n.log2+1):=by rw [Nat.pow_succ];omega
  have h3:2 ^ (n.log2+2)≤2 ^ drop:=Nat.pow_le_pow_right (by omega) (by omega)
  rw [Nat.div_eq_of_lt (show n<2 ^ (n.log2+2) by omega),Nat.div_eq_of_lt (show n<2 ^ drop by omega),Nat.mod_eq_of_lt (show n<2 ^ (n.log2+2) by omega),Nat.mod_eq_of_lt (show n<2 ^ drop by omega)]
 ·rw [Nat.min_eq_left c]
theorem cut_up (s:Bool) (n drop:Nat):Ieee.Toward.up.cut s n drop=cutN 2 s n (2 ^ drop):=by
 unfold Ieee.Toward.cut cutN bmp
 simp only [Nat.shiftLeft_eq,Nat.one_mul]
 rw [if_neg (by decide),if_pos trivial]
 rcases Nat.lt_or_ge (n.log2+2) drop with c | c
 ·rw [Nat.min_eq_right (by omega)]
  have h1:n<2 ^ (n.log2+1):=Nat.lt_log2_self
  have h2:2 ^ (n.log2+2)=2*2 ^ (n.log2+1):=by rw [Nat.pow_succ];omega
  have h3:2 ^ (n.log2+2)≤2 ^ drop:=Nat.pow_le_pow_right (by omega) (by omega)
  rw [Nat.div_eq_of_lt (show n<2 ^ (n.log2+2) by omega),Nat.div_eq_of_lt (show n<2 ^ drop by omega),Nat.mod_eq_of_lt (show n<2 ^ (n.log2+2) by omega),Nat.mod_eq_of_lt (show n<2 ^ drop by omega)]
 ·rw [Nat.min_eq_left c]
theorem cut_zero (s:Bool) (n drop:Nat):Ieee.Toward.zero.cut s n drop=cutN 3 s n (2 ^ drop):=by
 unfold Ieee.Toward.cut cutN bmp
 simp only [Nat.shiftLeft_eq,Nat.one_mul]
 rw [if_neg (by decide),if_neg (by decide),if_pos trivial]
 rcases Nat.lt_or_ge (n.log2+2) drop with c | c
 ·rw [Nat.min_eq_right (by omega)]
  have h1:n<2 ^ (n.log2+1):=Nat.lt_log2_self
  have h2:2 ^ (n.log2+2)=2*2 ^ (n.log2+1):=by rw [Nat.pow_succ];omega
  have h3:2 ^ (n.log2+2)≤2 ^ drop:=Nat.pow_le_pow_right (by omega) (by omega)
  rw [Nat.div_eq_of_lt (show n<2 ^ (n.log2+2) by omega),Nat.div_eq_of_lt (show n<2 ^ drop by omega)]
 ·rw [Nat.min_eq_left c]
theorem cut_way (k:Nat) (hk:1≤k∧k≤4) (s:Bool) (n drop:Nat):(wayOf k).cut s n drop=cutN k s n (2 ^ drop):=by
 by_cases c1:k=1
 ·subst c1;exact cut_down s n drop
 by_cases c2:k=2
 ·subst c2;exact cut_up s n drop
 by_cases c3:k=3
 ·subst c3;exact cut_zero s n drop
 have c4:k=4:=by omega
 subst c4
 show Ieee.Toward.even.cut s n drop=_
 rw [cut_even]
 rfl

set_option linter.unusedVariables false
def pz (z:Int):Nat:=Fq.wD (decide (z<0)) z.natAbs
def g53 (d:Int) (c1 c2:Nat) (V:Int):Int:=gpl 53 2098 9218868437227405311 9218868437227405312 d c1 c2 V
theorem g53_mono (d:Int) (c1 c2:Nat) (hc:0<c2) (V V':Int) (h:V≤V'):g53 d c1 c2 V≤g53 d c1 c2 V':=gpl_mono 53 2098 9218868437227405311 9218868437227405312 d c1 c2 hc (by decide) (by decide) (by decide) (by decide) V V' h
theorem g53_le (d:Int) (c1 c2:Nat) (V:Int):-9218868437227405312≤g53 d c1 c2 V∧g53 d c1 c2 V≤9218868437227405312:=gpl_le 53 2098 9218868437227405311 9218868437227405312 d c1 c2 (by decide) (by decide) (by decide) (by decide) V
theorem mdW_pz (s:Bool) (M:Nat):mdW s M=pz (if s then -(M:Int) else M):=by
 unfold mdW pz Fq.wD
 by_cases z:M=0
 ·rw [if_pos z,z];cases s <;> simp
 ·rw [if_neg z]
  cases s
  ·simp <;> omega
  ·simp <;> omega
theorem rV_neg (d:Int) (A K:Nat):rV d 53 A 1 (-(K:Int))=rU d 53 (A*1) (2 ^ K):=by
 unfold rV
 rw [show (-(K:Int)).toNat=0 from by omega,show (- -(K:Int)).toNat=K from by omega,Nat.pow_zero,Nat.one_mul]
theorem rV_pos (d:Int) (A B K:Nat):rV d 53 A B (K:Int)=rU d 53 (A*2 ^ K) B:=by
 unfold rV
 rw [show ((K:Int)).toNat=K from by omega,show (-(K:Int)).toNat=0 from by omega,Nat.pow_zero,Nat.mul_one]

set_option linter.unusedVariables false
theorem gpl_neg (p T G I:Nat) (d:Int) (c1 c2:Nat) (V:Int):gpl p T G I (-d) c1 c2 (-V) = -(gpl p T G I d c1 c2 V):=by
 unfold gpl
 have e1:dirN true (-d)=dirN false d:=by unfold dirN;simp
 have e2:dirN false (-d)=dirN true d:=by unfold dirN;simp
 rw [e1,e2,Int.natAbs_neg]
 by_cases z:V=0
 ·rw [if_pos (show -V=0 by omega),if_pos z];rfl
 ·rw [if_neg (show ¬ -V=0 by omega),if_neg z]
  by_cases n:V<0
  ·rw [if_pos n,if_neg (show ¬ -V<0 by omega)];omega
  ·rw [if_neg n,if_pos (show -V<0 by omega)]
theorem g53_neg (d:Int) (c1 c2:Nat) (V:Int):g53 (-d) c1 c2 (-V) = -(g53 d c1 c2 V):=gpl_neg _ _ _ _ d c1 c2 V
def zc (o:Option Int):Nat:=match o with | none=>9221120237041090561 | some z=>pz z
def ng (o:Option Int):Option Int:=o.map (fun z=>-z)

set_option linter.unusedVariables false
def vZ (z:Int):Int:=Iv (decide (z<0)) z.natAbs
theorem vZ_pos (z:Int) (h:0≤z):vZ z=((Fq.vV Ieee.double z.natAbs:Nat):Int):=by
 unfold vZ Iv
 rw [decide_eq_false (show ¬ z<0 by omega)];rfl
theorem vV0X:Fq.vV Ieee.double 0=0:=by decide
theorem vZ_neg (z:Int):vZ (-z) = -vZ z:=by
 unfold vZ Iv
 rw [Int.natAbs_neg]
 by_cases z0:z=0
 ·rw [z0];simp [vV0X]
 ·by_cases c:z<0
  ·rw [decide_eq_true c,decide_eq_false (show ¬ -z<0 by omega)];simp
  ·rw [decide_eq_false c,decide_eq_true (show -z<0 by omega)];simp
theorem vV_place (E S:Nat) (h1:S≤2 ^ 53) (h2:E=0∨2 ^ (53 - 1)≤S):Fq.vV Ieee.double (E*2 ^ (53 - 1)+S)=S*2 ^ E:=by
 have hb:Ieee.double.binade=4503599627370496:=by decide
 have p1:(2:Nat) ^ (53 - 1)=4503599627370496:=by decide
 have p2:(2:Nat) ^ 53=9007199254740992:=by decide
 rw [p1] at h2 ⊢
 rw [p2] at h1
 unfold Fq.vV Fq.mM Fq.eE
 rw [hb]
 by_cases c:E*4503599627370496+S<4503599627370496
 ·have hE:E=0:=by omega
  rw [if_pos c,if_pos c,hE];simp
 ·rw [if_neg c,if_neg c]
  by_cases c2:S=9007199254740992
  ·rw [show (E*4503599627370496+S) / 4503599627370496 - 1=E+1 from by omega,show (E*4503599627370496+S) % 4503599627370496=0 from by omega,Nat.pow_succ,c2]
   generalize 2 ^ E=P
   omega
  ·rw [show (E*4503599627370496+S) / 4503599627370496 - 1=E from by omega,show 4503599627370496+(E*4503599627370496+S) % 4503599627370496=S from by omega]
theorem g53_tight (c1 c2:Nat) (hc:0<c2) (V:Int):TS 9218868437227405312 (Fq.vV Ieee.double) (V*c1) (c2:Int) (g53 (-1) c1 c2 V) (g53 1 c1 c2 V) (g53 0 c1 c2 V):=gpl_tight 53 2098 9218868437227405311 9218868437227405312 (Fq.vV Ieee.double) vV_place c1 c2 hc (by decide) (by decide) (by decide) (by decide) V
theorem vV_inf (K:Nat) (hK:K=1074):Fq.vV Ieee.double 9218868437227405312=2 ^ (1024+K):=by
 obtain ⟨J,hJ⟩:∃ J:Nat,J=2045:=⟨_,rfl⟩
 have h:=vV_place J (2 ^ 53) (Nat.le_refl _) (Or.inr (by decide))
 rw [show J*2 ^ (53 - 1)+2 ^ 53=9218868437227405312 from by rw [hJ],← Nat.pow_add] at h
 rw [h]
 exact congrArg _ (by omega)
theorem g53_lohi (c1 c2:Nat) (hc:0<c2) (V:Int):g53 (-1) c1 c2 V≤g53 1 c1 c2 V∧g53 (-1) c1 c2 V<9218868437227405312∧-9218868437227405312<g53 1 c1 c2 V:=by
 have h:=g53_tight c1 c2 hc V vZ vZ_pos vZ_neg
 have b1:=g53_le (-1) c1 c2 V
 have b2:=g53_le 1 c1 c2 V
 rcases h with ⟨h1,_,h3,h4,_⟩ | ⟨h1,h2,h3,_⟩ <;> omega

set_option linter.unusedVariables false
theorem g53_anti (d:Int) (c1 c2 c2':Nat) (hc:0<c2) (h:c2≤c2') (V:Int) (hV:0≤V):g53 d c1 c2' V≤g53 d c1 c2 V:=by
 unfold g53 gpl
 by_cases z:V=0
 ·rw [if_pos z,if_pos z];omega
 rw [if_neg z,if_neg z,if_neg (show ¬ V<0 by omega),if_neg (show ¬ V<0 by omega)]
 have h1:=rU_mono (dirN false d) 53 (V.natAbs*c1) c2' (V.natAbs*c1) c2 (by omega) hc (by decide) (Nat.mul_le_mul_left _ h)
 have h2:=(finG_mono 53 2098 9218868437227405311 9218868437227405312 (dirN false d) _ _ (by decide) (by decide) (by decide) (by decide) h1).1
 omega
theorem g53_nn (d:Int) (c1 c2:Nat) (V:Int) (hV:0≤V):0≤g53 d c1 c2 V:=by
 unfold g53 gpl
 by_cases z:V=0
 ·rw [if_pos z];omega
 rw [if_neg z,if_neg (show ¬ V<0 by omega)];omega
end Go.Proofs.YtcfnialfpblfmaaGreatDoor
