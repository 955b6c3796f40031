import Derived.Test.YtmpjcknaelgnoaaGreatDoorKEA
import Derived.Deep.CutRange
set_option maxHeartbeats 4000000
set_option maxRecDepth 20000
namespace Go.Proofs.YtmpjcknaelgnoaaGreatDoor
open Go.RowKit

def pw (z:Int):Nat:=Fq.wD (decide (z<0)) z.natAbs
def BdZ (z:Int):Prop:=-9218868437227405312≤z∧z≤9218868437227405312
theorem plz_pw (z:Int):Fq.plz (decide (z<0)) z.natAbs=z:=by
 unfold Fq.plz
 by_cases c:z<0 <;> simp [c] <;> omega
theorem abs_pw (z:Int) (h:BdZ z):z.natAbs≤9218868437227405312:=by unfold BdZ at h;omega
theorem pw_lt (z:Int) (h:BdZ z):pw z<18446744073709551616:=by
 have:=abs_pw z h
 unfold pw Fq.wD;split <;> omega
theorem pw_ne (z:Int) (h:BdZ z):pw z≠9223372036854775808:=by
 have h2:=abs_pw z h
 unfold pw Fq.wD
 by_cases c:z<0 <;> simp [c] <;> omega
theorem pla_pw (z:Int) (h:BdZ z):Fq.pla (pw z)=pw z:=by unfold Fq.pla;rw [if_neg (pw_ne z h)]
theorem pw_I:pw 9218868437227405312=9218868437227405312:=by decide
theorem pw_MI:pw (-9218868437227405312)=18442240474082181120:=by decide
theorem ord_pw (x y:Int) (hx:BdZ x) (hy:BdZ y):FloatKind.f64.format.order (pw x) (pw y)=some (compare x y):=by
 have h:=Fq.ordD (decide (x<0)) (decide (y<0)) x.natAbs y.natAbs (abs_pw x hx) (abs_pw y hy)
 rw [plz_pw,plz_pw] at h
 exact h
theorem plt9 (x y:Int) (hx:BdZ x) (hy:BdZ y):(FloatKind.f64.format.order (pw x) (pw y) == some Ordering.lt)=decide (x<y):=by
 rw [ord_pw x y hx hy]
 rcases Int.lt_trichotomy x y with g | g | g
 ·rw [Fq.cmp_lt g,decide_eq_true g];rfl
 ·rw [Fq.cmp_eq g,decide_eq_false (by omega)];rfl
 ·rw [Fq.cmp_gt g,decide_eq_false (by omega)];rfl
theorem peq9 (x y:Int) (hx:BdZ x) (hy:BdZ y):(FloatKind.f64.format.order (pw x) (pw y) == some Ordering.eq)=decide (x=y):=by
 rw [ord_pw x y hx hy]
 rcases Int.lt_trichotomy x y with g | g | g
 ·rw [Fq.cmp_lt g,decide_eq_false (by omega)];rfl
 ·rw [Fq.cmp_eq g,decide_eq_true g];rfl
 ·rw [Fq.cmp_gt g,decide_eq_false (by omega)];rfl
theorem ple9 (x y:Int) (hx:BdZ x) (hy:BdZ y):(FloatKind.f64.format.order (pw x) (pw y) == some Ordering.lt || FloatKind.f64.format.order (pw x) (pw y) == some Ordering.eq)=decide (x≤y):=by
 rw [plt9 x y hx hy,peq9 x y hx hy]
 by_cases c:x<y <;> by_cases c2:x=y <;> simp [c,c2] <;> omega
theorem pw_inj (x y:Int) (hx:BdZ x) (hy:BdZ y):pw x=pw y ↔ x=y:=by
 constructor
 ·intro h
  have e:=peq9 x y hx hy
  have e2:=peq9 y y hy hy
  rw [h,e2] at e
  by_cases c:x=y
  ·exact c
  ·simp [c] at e
 ·intro h;rw [h]
def VdZ (L H:Int):Prop:=(L=9218868437227405312∧H = -9218868437227405312)∨(-9218868437227405312≤L∧L<9218868437227405312∧-9218868437227405312<H∧H≤9218868437227405312∧L≤H)
theorem VdZ.lo {L H:Int} (h:VdZ L H):BdZ L:=by unfold VdZ at h;unfold BdZ;omega
theorem VdZ.hi {L H:Int} (h:VdZ L H):BdZ H:=by unfold VdZ at h;unfold BdZ;omega
theorem pw_plz (n:Bool) (m:Nat) (h:Fq.wD n m≠9223372036854775808) (hm:m≤9218868437227405312):pw (Fq.plz n m)=Fq.wD n m∧BdZ (Fq.plz n m):=by
 cases n
 ·have e:Fq.plz false m=(m:Int):=by simp [Fq.plz]
  rw [e]
  refine ⟨?_,by unfold BdZ;omega⟩
  unfold pw
  rw [show decide ((m:Int)<0)=false from decide_eq_false (by omega),show ((m:Int)).natAbs=m from by omega]
 ·have e:Fq.plz true m = -(m:Int):=by simp [Fq.plz]
  have z:m≠0:=by intro z;apply h;rw [z];rfl
  rw [e]
  refine ⟨?_,by unfold BdZ;omega⟩
  unfold pw
  rw [show decide (-(m:Int)<0)=true from decide_eq_true (by omega),show (-(m:Int)).natAbs=m from by omega]
theorem snd_pw (L H:Int) (hL:BdZ L) (hH:BdZ H):Fq.snd (pw L) (pw H)=decide (L≤H∧L≠9218868437227405312∧H≠-9218868437227405312):=by
 unfold Fq.snd
 rw [ple9 L H hL hH]
 have e1:(pw L=9218868437227405312) ↔ L=9218868437227405312:=by
  have h:=pw_inj L 9218868437227405312 hL (by unfold BdZ;omega)
  rw [pw_I] at h;exact h
 have e2:(pw H=18442240474082181120) ↔ H = -9218868437227405312:=by
  have h:=pw_inj H (-9218868437227405312) hH (by unfold BdZ;omega)
  rw [pw_MI] at h;exact h
 simp only [e1,e2]
 by_cases c1:L≤H <;> by_cases c2:L=9218868437227405312 <;> by_cases c3:H = -9218868437227405312 <;> simp [c1,c2,c3]
theorem rlo_pw (L H:Int) (hL:BdZ L) (hH:BdZ H):Fq.rlo (pw L) (pw H)=pw (if L≤H∧L≠9218868437227405312∧H≠-9218868437227405312 then L else 9218868437227405312):=by
 unfold Fq.rlo
 rw [snd_pw L H hL hH,pla_pw L hL]
 by_cases c:L≤H∧L≠9218868437227405312∧H≠-9218868437227405312
 ·rw [if_pos c,if_pos (decide_eq_true c)]
 ·rw [if_neg c,if_neg (by simpa using c),pw_I]
theorem rhi_pw (L H:Int) (hL:BdZ L) (hH:BdZ H):Fq.rhi (pw L) (pw H)=pw (if L≤H∧L≠9218868437227405312∧H≠-9218868437227405312 then H else -9218868437227405312):=by
 unfold Fq.rhi
 rw [snd_pw L H hL hH,pla_pw H hH]
 by_cases c:L≤H∧L≠9218868437227405312∧H≠-9218868437227405312
 ·rw [if_pos c,if_pos (decide_eq_true c)]
 ·rw [if_neg c,if_neg (by simpa using c),pw_MI]
theorem read_pw (a b:Nat) (ha:a<18446744073709551616) (hb:b<18446744073709551616):∃ L H,VdZ L H∧Fq.rlo a b=pw L∧Fq.rhi a b=pw H:=by
 by_cases c:Fq.snd a b=true
 ·obtain ⟨n,m,hm,rfl⟩:=Fq.exD a ha
  obtain ⟨n',m',hm',rfl⟩:=Fq.exD b hb
  have es:=Fq.snd_w n n' m m' hm hm'
  rw [c] at es
  have es:=of_decide_eq_true es.symm
  have key:∀ (g:Bool) (r:Nat),r≤9218868437227405312→pw (Fq.plz g r)=Fq.pla (Fq.wD g r)∧BdZ (Fq.plz g r):=by
   intro g r hr
   by_cases c2:Fq.wD g r=9223372036854775808
   ·have hg:g=true∧r=0:=by
     unfold Fq.wD at c2
     cases g
     ·simp at c2;omega
     ·simp at c2;exact ⟨rfl,c2⟩
    rw [c2,hg.1,hg.2]
    exact ⟨by decide,by unfold BdZ Fq.plz;simp⟩
   ·have h:=pw_plz g r c2 hr
    rw [show Fq.pla (Fq.wD g r)=Fq.wD g r from by simp [Fq.pla,c2]]
    exact h
  have k1:=key n m es.1
  have k2:=key n' m' es.2.1
  refine ⟨Fq.plz n m,Fq.plz n' m',Or.inr ?_, ?_, ?_⟩
  ·have b1:=k1.2
   have b2:=k2.2
   unfold BdZ at b1 b2
   have e1:Fq.plz n m≠9218868437227405312:=by
    intro h
    apply es.2.2.2.1
    unfold Fq.plz at h
    cases n
    ·simp at h;exact ⟨rfl,by omega⟩
    ·simp at h;omega
   have e2:Fq.plz n' m'≠-9218868437227405312:=by
    intro h
    apply es.2.2.2.2
    unfold Fq.plz at h
    cases n'
    ·simp at h <;> omega
    ·simp at h;exact ⟨rfl,by omega⟩
   have:=es.2.2.1
   omega
  ·rw [k1.1];simp [Fq.rlo,c]
  ·rw [k2.1];simp [Fq.rhi,c]
 ·refine ⟨9218868437227405312,-9218868437227405312,Or.inl ⟨rfl,rfl⟩, ?_, ?_⟩
  ·rw [pw_I];unfold Fq.rlo;rw [if_neg c]
  ·rw [pw_MI];unfold Fq.rhi;rw [if_neg c]
theorem reread9 (L H:Int) (h:VdZ L H):Fq.rlo (pw L) (pw H)=pw L∧Fq.rhi (pw L) (pw H)=pw H:=by
 rw [rlo_pw L H h.lo h.hi,rhi_pw L H h.lo h.hi]
 rcases h with ⟨rfl,rfl⟩ | h
 ·exact ⟨by rw [if_neg (by omega)],by rw [if_neg (by omega)]⟩
 ·exact ⟨by rw [if_pos (by omega)],by rw [if_pos (by omega)]⟩
def iL (L1 H1 L2 H2:Int):Int:=if max L1 L2≤min H1 H2 then max L1 L2 else 9218868437227405312
def iH (L1 H1 L2 H2:Int):Int:=if max L1 L2≤min H1 H2 then min H1 H2 else -9218868437227405312
theorem bd_max (x y:Int) (hx:BdZ x) (hy:BdZ y):BdZ (max x y):=by unfold BdZ at *;omega
theorem bd_min (x y:Int) (hx:BdZ x) (hy:BdZ y):BdZ (min x y):=by unfold BdZ at *;omega
theorem vd_hull (L1 H1 L2 H2:Int) (h1:VdZ L1 H1) (h2:VdZ L2 H2):VdZ (min L1 L2) (max H1 H2):=by
 unfold VdZ at *
 omega
theorem read_meet (L1 H1 L2 H2:Int) (h1:VdZ L1 H1) (h2:VdZ L2 H2):Fq.rlo (pw (max L1 L2)) (pw (min H1 H2))=pw (iL L1 H1 L2 H2)∧Fq.rhi (pw (max L1 L2)) (pw (min H1 H2))=pw (iH L1 H1 L2 H2):=by
 rw [rlo_pw _ _ (bd_max _ _ h1.lo h2.lo) (bd_min _ _ h1.hi h2.hi),rhi_pw _ _ (bd_max _ _ h1.lo h2.lo) (bd_min _ _ h1.hi h2.hi)]
 unfold iL iH
 have e:(max L1 L2≤min H1 H2∧max L1 L2≠9218868437227405312∧min H1 H2≠-9218868437227405312) ↔ max L1 L2≤min H1 H2:=by
  unfold VdZ at h1 h2
  omega
 simp only [e]
 exact ⟨trivial,trivial⟩
theorem min7_ (n n':Bool) (m m':Nat) (hm:m≤9218868437227405312) (hm':m'≤9218868437227405312) (h1:Fq.wD n m≠9223372036854775808) (h2:Fq.wD n' m'≠9223372036854775808) (ts:Array TypeId) (t:TypeId) (w:World):(Builtin.min_ ts t #[.float .f64 (Fq.wD n m),.float .f64 (Fq.wD n' m')]).run Tryz.prog w=.ok (.float .f64 (if Fq.plz n' m'<Fq.plz n m then Fq.wD n' m' else Fq.wD n m)) w:=by
 have ho:=Fq.ordD n n' m m' hm hm'
 rcases Int.lt_trichotomy (Fq.plz n m) (Fq.plz n' m') with g | g | g
 ·rw [Fq.cmp_lt g] at ho
  rw [if_neg (by omega)]
  generalize Fq.wD n m=X at ho ⊢
  generalize Fq.wD n' m'=Y at ho ⊢
  simp [Builtin.min_,Builtin.min2,ho]
 ·rw [Fq.cmp_eq g] at ho
  have e:Fq.wD n m=Fq.wD n' m':=by
   have z1:n=true→m≠0:=fun h z=>h1 (by rw [h,z];rfl)
   have z2:n'=true→m'≠0:=fun h z=>h2 (by rw [h,z];rfl)
   unfold Fq.wD
   unfold Fq.plz at g
   cases n <;> cases n' <;> simp at z1 z2 g ⊢ <;> omega
  rw [if_neg (by omega)]
  rw [← e] at ho ⊢
  generalize Fq.wD n m=X at ho ⊢
  simp [Builtin.min_,Builtin.min2,ho]
 ·rw [Fq.cmp_gt g] at ho
  rw [if_pos (by omega)]
  generalize Fq.wD n m=X at ho ⊢
  generalize Fq.wD n' m'=Y at ho ⊢
  simp [Builtin.min_,Builtin.min2,ho]
theorem max7_ (n n':Bool) (m m':Nat) (hm:m≤9218868437227405312) (hm':m'≤9218868437227405312) (h1:Fq.wD n m≠9223372036854775808) (h2:Fq.wD n' m'≠9223372036854775808) (ts:Array TypeId) (t:TypeId) (w:World):(Builtin.max_ ts t #[.float .f64 (Fq.wD n m),.float .f64 (Fq.wD n' m')]).run Tryz.prog w=.ok (.float .f64 (if Fq.plz n' m' > Fq.plz n m then Fq.wD n' m' else Fq.wD n m)) w:=by
 have ho:=Fq.ordD n n' m m' hm hm'
 rcases Int.lt_trichotomy (Fq.plz n m) (Fq.plz n' m') with g | g | g
 ·rw [Fq.cmp_lt g] at ho
  rw [if_pos (by omega)]
  generalize Fq.wD n m=X at ho ⊢
  generalize Fq.wD n' m'=Y at ho ⊢
  simp [Builtin.max_,Builtin.max2,ho]
 ·rw [Fq.cmp_eq g] at ho
  have e:Fq.wD n m=Fq.wD n' m':=by
   have z1:n=true→m≠0:=fun h z=>h1 (by rw [h,z];rfl)
   have z2:n'=true→m'≠0:=fun h z=>h2 (by rw [h,z];rfl)
   unfold Fq.wD
   unfold Fq.plz at g
   cases n <;> cases n' <;> simp at z1 z2 g ⊢ <;> omega
  rw [if_neg (by omega)]
  rw [← e] at ho ⊢
  generalize Fq.wD n m=X at ho ⊢
  simp [Builtin.max_,Builtin.max2,ho]
 ·rw [Fq.cmp_gt g] at ho
  rw [if_neg (by omega)]
  generalize Fq.wD n m=X at ho ⊢
  generalize Fq.wD n' m'=Y at ho ⊢
  simp [Builtin.max_,Builtin.max2,ho]

def Rd (a b:Nat) (L H:Int):Prop:=a<18446744073709551616∧b<18446744073709551616∧VdZ L H∧Fq.rlo a b=pw L∧Fq.rhi a b=pw H
theorem Rd.ex (a b:Nat) (ha:a<18446744073709551616) (hb:b<18446744073709551616):∃ L H,Rd a b L H:=by
 obtain ⟨L,H,h1,h2,h3⟩:=read_pw a b ha hb
 exact ⟨L,H,ha,hb,h1,h2,h3⟩
theorem Rd.of {L H:Int} (h:VdZ L H):Rd (pw L) (pw H) L H:=⟨pw_lt L h.lo,pw_lt H h.hi,h,(reread9 L H h).1,(reread9 L H h).2⟩
theorem Rd.vd {a b:Nat} {L H:Int} (h:Rd a b L H):VdZ L H:=h.2.2.1
theorem Rd.call {a b:Nat} {L H:Int} (h:Rd a b L H) (w:World):Calls Tryz.prog 38 #[.agg #[.float .f64 a,.float .f64 b]] w fun e w'=>e=.returned (.agg #[.float .f64 (pw L),.float .f64 (pw H)])∧Kp w w':=by
 have g:=Fq.read_ a b h.1 h.2.1 w
 rw [h.2.2.2.1,h.2.2.2.2] at g
 exact g
theorem emp9 (L H:Int) (h:VdZ L H):decide (pw L=9218868437227405312∧pw H=18442240474082181120)=decide (L=9218868437227405312):=by
 congr 1;apply propext
 have e1:=pw_inj L 9218868437227405312 h.lo (by unfold BdZ;omega)
 have e2:=pw_inj H (-9218868437227405312) h.hi (by unfold BdZ;omega)
 rw [pw_I] at e1
 rw [pw_MI] at e2
 rw [e1,e2]
 unfold VdZ at h
 omega
theorem min9_ (x y:Int) (hx:BdZ x) (hy:BdZ y) (ts:Array TypeId) (t:TypeId) (w:World):(Builtin.min_ ts t #[.float .f64 (pw x),.float .f64 (pw y)]).run Tryz.prog w=.ok (.float .f64 (pw (min x y))) w:=by
 have h:=min7_ (decide (x<0)) (decide (y<0)) x.natAbs y.natAbs (abs_pw x hx) (abs_pw y hy) (pw_ne x hx) (pw_ne y hy) ts t w
 rw [plz_pw,plz_pw] at h
 have e:(if y<x then pw y else pw x)=pw (min x y):=by
  by_cases c:y<x
  ·rw [if_pos c,show min x y=y from by omega]
  ·rw [if_neg c,show min x y=x from by omega]
 exact e ▸ h
theorem max9_ (x y:Int) (hx:BdZ x) (hy:BdZ y) (ts:Array TypeId) (t:TypeId) (w:World):(Builtin.max_ ts t #[.float .f64 (pw x),.float .f64 (pw y)]).run Tryz.prog w=.ok (.float .f64 (pw (max x y))) w:=by
 have h:=max7_ (decide (x<0)) (decide (y<0)) x.natAbs y.natAbs (abs_pw x hx) (abs_pw y hy) (pw_ne x hx) (pw_ne y hy) ts t w
 rw [plz_pw,plz_pw] at h
 have e:(if y > x then pw y else pw x)=pw (max x y):=by
  by_cases c:y > x
  ·rw [if_pos c,show max x y=y from by omega]
  ·rw [if_neg c,show max x y=x from by omega]
 exact e ▸ h

def pI (x:Int):Int:=((pw x:Nat):Int)
theorem pI_inj (x y:Int) (hx:BdZ x) (hy:BdZ y):pI x=pI y ↔ x=y:=by
 unfold pI
 rw [← pw_inj x y hx hy]
 omega
theorem isinf6_ (n:Bool) (m:Nat) (hm:m<9223372036854775808) (w:World):Calls Tryz.prog 183 #[.int .u64 ((Fq.wD n m:Nat):Int)] w fun e w'=>e=.returned (.bool (decide (m=9218868437227405312)))∧w'=w:=by
 obtain ⟨X,hX⟩:∃ X,X=Fq.wD n m:=⟨_,rfl⟩
 have f1:=(Fq.noTop6 n m X hm hX).1
 rw [← hX]
 clear hX hm
 by_cases c:m=9218868437227405312
 ·have t1:((m:Int) == 9218868437227405312)=true:=by rw [c];rfl
  rw [decide_eq_true c]
  clear c
  go_enter Tryz.func183,Tryz.ntmps183
  go_wp2
  exact BR (v:=.bool true) (by simp [results,Tryz.results183,go_sem] <;> simpa using t1) rfl ⟨rfl,rfl⟩
 ·have t1:((m:Int) == 9218868437227405312)=false:=by simp;omega
  rw [decide_eq_false c]
  clear c
  go_enter Tryz.func183,Tryz.ntmps183
  go_wp2
  exact BR (v:=.bool false) (by simp [results,Tryz.results183,go_sem] <;> simpa using t1) rfl ⟨rfl,rfl⟩
theorem isinf9_ (x:Int) (h:BdZ x) (w:World):Calls Tryz.prog 183 #[.int .u64 (pI x)] w fun e w'=>e=.returned (.bool (decide (x=9218868437227405312∨x = -9218868437227405312)))∧w'=w:=by
 have g:=isinf6_ (decide (x<0)) x.natAbs (by have:=abs_pw x h;omega) w
 rw [show decide (x.natAbs=9218868437227405312)=decide (x=9218868437227405312∨x = -9218868437227405312) from by congr 1;apply propext;omega] at g
 exact g
theorem rread9_ (a b:Nat) (L H:Int) (h:Rd a b L H) (w:World):Calls Tryz.prog 98 #[.agg #[.int .u64 ((a:Nat):Int),.int .u64 ((b:Nat):Int)]] w fun e w'=>e=.returned (.agg #[.int .u64 (pI L),.int .u64 (pI H)])∧Kp w w':=by
 have e1:=h.2.2.2.1
 have e2:=h.2.2.2.2
 unfold pI
 rw [← e1,← e2]
 obtain ⟨n,m,hm,rfl⟩:=Fq.exD a h.1
 obtain ⟨n',m',hm',rfl⟩:=Fq.exD b h.2.1
 exact Fq.rread_ n n' m m' hm hm' w
theorem rempty9_ (w:World):Calls Tryz.prog 72 #[] w fun e w'=>e=.returned (.agg #[.int .u64 9218868437227405312,.int .u64 18442240474082181120])∧Kp w w':=by
 refine (Fq.rempty_ w).mono ?_
 rintro e w' ⟨rfl,rfl⟩
 exact ⟨rfl,(Kp.refl w).alloc _⟩

def H48 (w:World) (B:Nat) (a b c d:Value):Prop:=Fq.H2 w B a b∧Fq.H2 w (B+1) c d

def H6 (w:World) (B:Nat) (a b c d e f:Value):Prop:=Fq.H2 w B a b∧Fq.H2 w (B+1) c d∧Fq.H2 w (B+2) e f
theorem H6.keep {W w:World} {B:Nat} {a b c d e f:Value} (h:H6 W B a b c d e f) (g:Kp W w):H6 w B a b c d e f:=⟨Fq.H2.keep h.1 g,Fq.H2.keep h.2.1 g,Fq.H2.keep h.2.2 g⟩
theorem H6.new (w:World) (a b c d e f:Value) (s t u:TypeId):H6 (((w.alloc (.cells #[a,b] s)).alloc (.cells #[c,d] t)).alloc (.cells #[e,f] u)) w.heap.size a b c d e f:=by
 refine ⟨?_, ?_, ?_⟩ <;> (unfold Fq.H2;simp [go_sem])
theorem H6.put {w:World} {B:Nat} {a b c d e f:Value} (h:H6 w B a b c d e f) (a' b' c' d':Value):H6 ((((w.setCell ⟨B,0,none⟩ a').setCell ⟨B,1,none⟩ b').setCell ⟨B+1,0,none⟩ c').setCell ⟨B+1,1,none⟩ d') B a' b' c' d' e f:=by
 refine ⟨?_, ?_, ?_⟩
 ·exact Fq.H2.far (Fq.H2.put h.1 a' b') (by omega) c' d'
 ·exact Fq.H2.put (Fq.H2.far h.2.1 (by omega) a' b') c' d'
 ·exact Fq.H2.far (Fq.H2.far h.2.2 (by omega) a' b') (by omega) c' d'
theorem meetA_ (a b c d L1 H1 L2 H2 NL NH:Nat) (hx:KC 38 #[.agg #[.float .f64 a,.float .f64 b]] (.agg #[.float .f64 L1,.float .f64 H1])) (hy:KC 38 #[.agg #[.float .f64 c,.float .f64 d]] (.agg #[.float .f64 L2,.float .f64 H2])) (ZL ZH:Nat) (hm1:∀ (ts:Array TypeId) (t:TypeId) (w:World),(Builtin.max_ ts t #[.float .f64 L1,.float .f64 L2]).run Tryz.prog w=.ok (.float .f64 NL) w) (hm2:∀ (ts:Array TypeId) (t:TypeId) (w:World),(Builtin.min_ ts t #[.float .f64 H1,.float .f64 H2]).run Tryz.prog w=.ok (.float .f64 NH) w) (hz:KC 38 #[.agg #[.float .f64 NL,.float .f64 NH]] (.agg #[.float .f64 ZL,.float .f64 ZH])) (w:World):Calls Tryz.prog 70 #[.agg #[.float .f64 a,.float .f64 b],.agg #[.float .f64 c,.float .f64 d]] w fun e w'=>e=.returned (.agg #[.float .f64 ZL,.float .f64 ZH])∧Kp w w':=by
  go_enter Tryz.func70,Tryz.ntmps70
  go_upto_region 1 with fail
  go_cut [] (fun wx=>H6 wx w.heap.size (.float .f64 L1) (.float .f64 H1) (.float .f64 L2) (.float .f64 H2) (.float .f64 0) (.float .f64 0)∧Kp w wx)
  case first =>
   go_region_with (first | (go_at_call_of 38 (Value.agg #[.float .f64 a,.float .f64 b]);refine (hx _).mono ?_;rintro e wx ⟨rfl,gx⟩;first | (have kx:=Kp.trans ky gx;have sx:=H6.keep sy gx;obtain ⟨⟨p0,p1,p2,p3⟩,⟨p4,p5,p6,p7⟩,⟨p8,p9,pa,pb⟩⟩:=id sx) | (have kx:Kp w wx:=Kp.trans ((((Kp.refl w).alloc _).alloc _).alloc _).drew gx;have sx:=H6.keep (H6.new w (.float .f64 a) (.float .f64 b) (.float .f64 c) (.float .f64 d) (.float .f64 0) (.float .f64 0) 29 29 29) (Kp.trans (Kp.drew (Kp.refl _)) gx);obtain ⟨⟨p0,p1,p2,p3⟩,⟨p4,p5,p6,p7⟩,⟨p8,p9,pa,pb⟩⟩:=id sx)) | (go_at_call_of 38 (Value.agg #[.float .f64 c,.float .f64 d]);refine (hy _).mono ?_;rintro e wy ⟨rfl,gy⟩;first | (have ky:=Kp.trans kx gy;have sy:=H6.keep sx gy;obtain ⟨⟨p0,p1,p2,p3⟩,⟨p4,p5,p6,p7⟩,⟨p8,p9,pa,pb⟩⟩:=id sy) | (have ky:Kp w wy:=Kp.trans ((((Kp.refl w).alloc _).alloc _).alloc _).drew gy;have sy:=H6.keep (H6.new w (.float .f64 a) (.float .f64 b) (.float .f64 c) (.float .f64 d) (.float .f64 0) (.float .f64 0) 29 29 29) (Kp.trans (Kp.drew (Kp.refl _)) gy);obtain ⟨⟨p0,p1,p2,p3⟩,⟨p4,p5,p6,p7⟩,⟨p8,p9,pa,pb⟩⟩:=id sy)))
   all_goals (
    go_wp2_with fail
    go_meet
    first | (exact ⟨H6.put (id sy:H6 wy w.heap.size (.float .f64 a) (.float .f64 b) (.float .f64 c) (.float .f64 d) (.float .f64 0) (.float .f64 0)) (.float .f64 L1) (.float .f64 H1) (.float .f64 L2) (.float .f64 H2),(((ky.setCell (Nat.le_refl _) _).setCell (Nat.le_refl _) _).setCell (Nat.le_succ _) _).setCell (Nat.le_succ _) _⟩) | (exact ⟨H6.put (id sx:H6 wx w.heap.size (.float .f64 a) (.float .f64 b) (.float .f64 c) (.float .f64 d) (.float .f64 0) (.float .f64 0)) (.float .f64 L1) (.float .f64 H1) (.float .f64 L2) (.float .f64 H2),(((kx.setCell (Nat.le_refl _) _).setCell (Nat.le_refl _) _).setCell (Nat.le_succ _) _).setCell (Nat.le_succ _) _⟩))
  case rest =>
  obtain ⟨sw,kw⟩:=hcut
  obtain ⟨⟨p0,p1,p2,p3⟩,⟨p4,p5,p6,p7⟩,⟨p8,p9,pa,pb⟩⟩:=id sw
  go_wp2_with (first | (go_at_call_of 38 (Value.agg #[.float .f64 NL,.float .f64 NH]);refine (hz _).mono ?_;rintro e wv ⟨rfl,gv⟩;have kv:=Kp.trans kw gv;have sv:=H6.keep sw gv;obtain ⟨⟨u0,u1,u2,u3⟩,⟨u4,u5,u6,u7⟩,⟨u8,u9,ua,ub⟩⟩:=id sv))
  exact BR (v:=.agg #[.float .f64 ZL,.float .f64 ZH]) (by simp [results,Tryz.results70,go_sem,u8,u9]) rfl ⟨rfl,(kv.setCell (by simp <;> omega) _).setCell (by simp <;> omega) _⟩
theorem meet9_ (a b c d:Nat) (L1 H1 L2 H2:Int) (hx:Rd a b L1 H1) (hy:Rd c d L2 H2) (w:World):Calls Tryz.prog 70 #[.agg #[.float .f64 a,.float .f64 b],.agg #[.float .f64 c,.float .f64 d]] w fun e w'=>e=.returned (.agg #[.float .f64 (pw (iL L1 H1 L2 H2)),.float .f64 (pw (iH L1 H1 L2 H2))])∧Kp w w':=by
 have e:=read_meet L1 H1 L2 H2 hx.vd hy.vd
 have hz:∀ w:World,Calls Tryz.prog 38 #[.agg #[.float .f64 (pw (max L1 L2)),.float .f64 (pw (min H1 H2))]] w fun e w'=>e=.returned (.agg #[.float .f64 (pw (iL L1 H1 L2 H2)),.float .f64 (pw (iH L1 H1 L2 H2))])∧Kp w w':=by
  intro w
  have g:=Fq.read_ (pw (max L1 L2)) (pw (min H1 H2)) (pw_lt _ (bd_max _ _ hx.vd.lo hy.vd.lo)) (pw_lt _ (bd_min _ _ hx.vd.hi hy.vd.hi)) w
  rw [e.1,e.2] at g
  exact g
 exact meetA_ a b c d _ _ _ _ _ _ hx.call hy.call _ _ (max9_ L1 L2 hx.vd.lo hy.vd.lo) (min9_ H1 H2 hx.vd.hi hy.vd.hi) hz w
theorem hullA_ (a b c d L1 H1 L2 H2 NL NH:Nat) (hx:KC 38 #[.agg #[.float .f64 a,.float .f64 b]] (.agg #[.float .f64 L1,.float .f64 H1])) (hy:KC 38 #[.agg #[.float .f64 c,.float .f64 d]] (.agg #[.float .f64 L2,.float .f64 H2])) (hm1:∀ (ts:Array TypeId) (t:TypeId) (w:World),(Builtin.min_ ts t #[.float .f64 L1,.float .f64 L2]).run Tryz.prog w=.ok (.float .f64 NL) w) (hm2:∀ (ts:Array TypeId) (t:TypeId) (w:World),(Builtin.max_ ts t #[.float .f64 H1,.float .f64 H2]).run Tryz.prog w=.ok (.float .f64 NH) w) (w:World):Calls Tryz.prog 88 #[.agg #[.float .f64 a,.float .f64 b],.agg #[.float .f64 c,.float .f64 d]] w fun e w'=>e=.returned (.agg #[.float .f64 NL,.float .f64 NH])∧Kp w w':=by
  go_enter Tryz.func88,Tryz.ntmps88
  go_upto_region 1 with fail
  go_cut [] (fun wx=>H6 wx w.heap.size (.float .f64 L1) (.float .f64 H1) (.float .f64 L2) (.float .f64 H2) (.float .f64 0) (.float .f64 0)∧Kp w wx)
  case first =>
   go_region_with (first | (go_at_call_of 38 (Value.agg #[.float .f64 a,.float .f64 b]);refine (hx _).mono ?_;rintro e wx ⟨rfl,gx⟩;first | (have kx:=Kp.trans ky gx;have sx:=H6.keep sy gx;obtain ⟨⟨p0,p1,p2,p3⟩,⟨p4,p5,p6,p7⟩,⟨p8,p9,pa,pb⟩⟩:=id sx) | (have kx:Kp w wx:=Kp.trans ((((Kp.refl w).alloc _).alloc _).alloc _).drew gx;have sx:=H6.keep (H6.new w (.float .f64 a) (.float .f64 b) (.float .f64 c) (.float .f64 d) (.float .f64 0) (.float .f64 0) 29 29 29) (Kp.trans (Kp.drew (Kp.refl _)) gx);obtain ⟨⟨p0,p1,p2,p3⟩,⟨p4,p5,p6,p7⟩,⟨p8,p9,pa,pb⟩⟩:=id sx)) | (go_at_call_of 38 (Value.agg #[.float .f64 c,.float .f64 d]);refine (hy _).mono ?_;rintro e wy ⟨rfl,gy⟩;first | (have ky:=Kp.trans kx gy;have sy:=H6.keep sx gy;obtain ⟨⟨p0,p1,p2,p3⟩,⟨p4,p5,p6,p7⟩,⟨p8,p9,pa,pb⟩⟩:=id sy) | (have ky:Kp w wy:=Kp.trans ((((Kp.refl w).alloc _).alloc _).alloc _).drew gy;have sy:=H6.keep (H6.new w (.float .f64 a) (.float .f64 b) (.float .f64 c) (.float .f64 d) (.float .f64 0) (.float .f64 0) 29 29 29) (Kp.trans (Kp.drew (Kp.refl _)) gy);obtain ⟨⟨p0,p1,p2,p3⟩,⟨p4,p5,p6,p7⟩,⟨p8,p9,pa,pb⟩⟩:=id sy)))
   all_goals (
    go_wp2_with fail
    go_meet
    first | (exact ⟨H6.put (id sy:H6 wy w.heap.size (.float .f64 a) (.float .f64 b) (.float .f64 c) (.float .f64 d) (.float .f64 0) (.float .f64 0)) (.float .f64 L1) (.float .f64 H1) (.float .f64 L2) (.float .f64 H2),(((ky.setCell (Nat.le_refl _) _).setCell (Nat.le_refl _) _).setCell (Nat.le_succ _) _).setCell (Nat.le_succ _) _⟩) | (exact ⟨H6.put (id sx:H6 wx w.heap.size (.float .f64 a) (.float .f64 b) (.float .f64 c) (.float .f64 d) (.float .f64 0) (.float .f64 0)) (.float .f64 L1) (.float .f64 H1) (.float .f64 L2) (.float .f64 H2),(((kx.setCell (Nat.le_refl _) _).setCell (Nat.le_refl _) _).setCell (Nat.le_succ _) _).setCell (Nat.le_succ _) _⟩))
  case rest =>
  obtain ⟨sw,kw⟩:=hcut
  obtain ⟨⟨p0,p1,p2,p3⟩,⟨p4,p5,p6,p7⟩,⟨p8,p9,pa,pb⟩⟩:=id sw
  go_wp2
  exact BR (v:=.agg #[.float .f64 NL,.float .f64 NH]) (by simp [results,Tryz.results88,go_sem,p8,p9]) rfl ⟨rfl,(kw.setCell (by simp <;> omega) _).setCell (by simp <;> omega) _⟩
theorem hull9_ (a b c d:Nat) (L1 H1 L2 H2:Int) (hx:Rd a b L1 H1) (hy:Rd c d L2 H2) (w:World):Calls Tryz.prog 88 #[.agg #[.float .f64 a,.float .f64 b],.agg #[.float .f64 c,.float .f64 d]] w fun e w'=>e=.returned (.agg #[.float .f64 (pw (min L1 L2)),.float .f64 (pw (max H1 H2))])∧Kp w w' :=
 hullA_ a b c d _ _ _ _ _ _ hx.call hy.call (min9_ L1 L2 hx.vd.lo hy.vd.lo) (max9_ H1 H2 hx.vd.hi hy.vd.hi) w
theorem isnan_i (x:Int) (w:World):Calls Tryz.prog 267 #[.int .i64 x] w fun e w'=>e=.returned (.bool false)∧w'=w:=by
 go_enter Tryz.func267,Tryz.ntmps267
 go_wp2
 exact BR (v:=.bool false) (by simp [results,Tryz.results267,go_sem] <;> simp only [*]) rfl ⟨rfl,rfl⟩
theorem compare_i (x y:Int) (w:World):Calls Tryz.prog 246 #[.int .i64 x,.int .i64 y] w fun e w'=>e=.returned (.int .i64 (cmpz x y))∧w'=w:=by
 rcases (by omega:x<y∨y<x∨x=y) with c | c | c
 ·have ec:cmpz x y = -1:=by unfold cmpz;simp [c]
  rw [ec];clear ec
  go_enter Tryz.func246,Tryz.ntmps246
  go_wp2_with (first | (go_at_call 267;refine (isnan_i _ _).mono ?_;rintro e w' ⟨rfl,rfl⟩))
  exact BR (v:=.int .i64 (-1)) (by simp [results,Tryz.results246,go_sem] <;> simp only [*]) rfl ⟨rfl,rfl⟩
 ·have d:¬ (x<y):=by omega
  have ec:cmpz x y=1:=by unfold cmpz;simp [c,d]
  rw [ec];clear ec
  go_enter Tryz.func246,Tryz.ntmps246
  go_wp2_with (first | (go_at_call 267;refine (isnan_i _ _).mono ?_;rintro e w' ⟨rfl,rfl⟩))
  exact BR (v:=.int .i64 1) (by simp [results,Tryz.results246,go_sem] <;> simp only [*]) rfl ⟨rfl,rfl⟩
 ·subst c
  have d:¬ (x<x):=by omega
  have ec:cmpz x x=0:=by unfold cmpz;simp
  rw [ec];clear ec
  go_enter Tryz.func246,Tryz.ntmps246
  go_wp2_with (first | (go_at_call 267;refine (isnan_i _ _).mono ?_;rintro e w' ⟨rfl,rfl⟩))
  exact BR (v:=.int .i64 0) (by simp [results,Tryz.results246,go_sem] <;> simp only [*]) rfl ⟨rfl,rfl⟩
theorem isnan_u (x:Int) (w:World):Calls Tryz.prog 268 #[.int .u32 x] w fun e w'=>e=.returned (.bool false)∧w'=w:=by
 go_enter Tryz.func268,Tryz.ntmps268
 go_wp2
 exact BR (v:=.bool false) (by simp [results,Tryz.results268,go_sem] <;> simp only [*]) rfl ⟨rfl,rfl⟩
theorem compare_u (x y:Int) (w:World):Calls Tryz.prog 247 #[.int .u32 x,.int .u32 y] w fun e w'=>e=.returned (.int .i64 (cmpz x y))∧w'=w:=by
 rcases (by omega:x<y∨y<x∨x=y) with c | c | c
 ·have ec:cmpz x y = -1:=by unfold cmpz;simp [c]
  rw [ec];clear ec
  go_enter Tryz.func247,Tryz.ntmps247
  go_wp2_with (first | (go_at_call 268;refine (isnan_u _ _).mono ?_;rintro e w' ⟨rfl,rfl⟩))
  exact BR (v:=.int .i64 (-1)) (by simp [results,Tryz.results247,go_sem] <;> simp only [*]) rfl ⟨rfl,rfl⟩
 ·have d:¬ (x<y):=by omega
  have ec:cmpz x y=1:=by unfold cmpz;simp [c,d]
  rw [ec];clear ec
  go_enter Tryz.func247,Tryz.ntmps247
  go_wp2_with (first | (go_at_call 268;refine (isnan_u _ _).mono ?_;rintro e w' ⟨rfl,rfl⟩))
  exact BR (v:=.int .i64 1) (by simp [results,Tryz.results247,go_sem] <;> simp only [*]) rfl ⟨rfl,rfl⟩
 ·subst c
  have d:¬ (x<x):=by omega
  have ec:cmpz x x=0:=by unfold cmpz;simp
  rw [ec];clear ec
  go_enter Tryz.func247,Tryz.ntmps247
  go_wp2_with (first | (go_at_call 268;refine (isnan_u _ _).mono ?_;rintro e w' ⟨rfl,rfl⟩))
  exact BR (v:=.int .i64 0) (by simp [results,Tryz.results247,go_sem] <;> simp only [*]) rfl ⟨rfl,rfl⟩
theorem ncmp_ (p q:Option Addr) (c d:Nat) (xs ys:List Int) (w:World) (hx:Arr w p xs) (hy:Arr w q ys) (hwx:Wd xs) (hwy:Wd ys) (lx:xs.length≤1099511627776) (ly:ys.length≤1099511627776) (hc:xs.length≤c) (hd:ys.length≤d) :
  Calls Tryz.prog 212 #[.slice p xs.length c,.slice q ys.length d] w fun e w'=>e=.returned (.int .i64 (cmpN (val xs) (val ys)))∧Kp w w':=by
 have h1:=trim_ p c xs w hx lx hc
 have h2:=trim_ q d ys w hy ly hd
 have lS:=tl_le xs
 have lT:=tl_le ys
 have hg:Kp w w:=Kp.refl w
 have dne:tl xs≠tl ys→cmpz (tl xs:Int) (tl ys:Int)=cmpN (val xs) (val ys):=fun h=>by
  rcases (by omega:tl xs<tl ys∨tl ys<tl xs) with e | e
  ·rw [cmpN_lt (tl_lt_val xs ys hwx hwy e)];unfold cmpz;rw [if_pos (by omega)]
  ·rw [cmpN_gt (tl_lt_val ys xs hwy hwx e)];unfold cmpz;rw [if_neg (by omega),if_pos (by omega)]
 have deq:tl xs=tl ys→(∀ j,j<tl xs→xs.getD j 0=ys.getD j 0)→cmpN (val xs) (val ys)=0:=fun e h=>by
  apply cmpN_eq
  rw [← val_tl xs,← val_tl ys,← e]
  exact cmp_all xs ys _ h
 have tne:∀ k,tl xs=tl ys→k<tl xs→xs.getD k 0≠ys.getD k 0→(∀ j,k<j→j<tl xs→xs.getD j 0=ys.getD j 0)→cmpz (xs.getD k 0) (ys.getD k 0)=cmpN (val xs) (val ys):=fun k e h1 h2 h3=>by
  rcases (by omega:xs.getD k 0<ys.getD k 0∨ys.getD k 0<xs.getD k 0) with f | f
  ·rw [cmpN_lt (by rw [← val_tl xs,← val_tl ys,← e];exact cmp_top xs ys hwx k (hwx k).1 f _ h1 h3)];unfold cmpz;rw [if_pos f]
  ·rw [cmpN_gt (by rw [← val_tl xs,← val_tl ys,← e];exact cmp_top ys xs hwy k (hwy k).1 f _ h1 (fun j a b=>(h3 j a b).symm))];unfold cmpz;rw [if_neg (by omega),if_pos f]
 obtain ⟨R,hR⟩:∃ R,R=cmpN (val xs) (val ys):=⟨_,rfl⟩
 obtain ⟨N,hN⟩:∃ N,N=xs.length:=⟨_,rfl⟩
 obtain ⟨M,hM⟩:∃ M,M=ys.length:=⟨_,rfl⟩
 obtain ⟨S,hS⟩:∃ S,S=tl xs:=⟨_,rfl⟩
 obtain ⟨T,hT⟩:∃ T,T=tl ys:=⟨_,rfl⟩
 rw [← hS,← hN] at h1 lS
 rw [← hT,← hM] at h2 lT
 rw [← hS,← hT,← hR] at dne deq tne
 rw [← hN,← hM,← hR]
 have HX:Hid (Arr w p xs):=hx
 have HY:Hid (Arr w q ys):=hy
 have HN:Hid (N=xs.length∧M=ys.length):=⟨hN,hM⟩
 have lS2:S≤1099511627776:=by omega
 clear hx hy hwx hwy lx ly hN hM hS hT hR hc hd
 by_cases cST:S=T
 ·subst cST
  have t1:((S:Int) != (S:Int))=false:=by simp
  have HD:Hid ((∀ j,j<S→xs.getD j 0=ys.getD j 0)→R=0):=deq rfl
  have HL:Hid (∀ k,k<S→xs.getD k 0≠ys.getD k 0→(∀ j,k<j→j<S→xs.getD j 0=ys.getD j 0)→cmpz (xs.getD k 0) (ys.getD k 0)=R):=fun k=>tne k rfl
  clear dne deq tne
  go_enter Tryz.func212,Tryz.ntmps212
  go_wp2_with fail
  refine SM h1 ?_
  go_wp2_with fail
  refine SM h2 ?_
  clear h1 h2
  go_wp2
  clear t1
  go_loopw [23] (fun i wr=>∃ (k:Nat),k≤S∧i=.int .i64 k∧Kp w wr∧∀ j,S≤j+k→j<S→xs.getD j 0=ys.getD j 0) (fun i _=>S - (intOf i).toNat)
  case atStart=>exact ⟨0,Nat.zero_le _,rfl,hg,fun j _ _=>by omega⟩
  case round =>
   clear hg
   obtain ⟨k,hk,rfl,hg,hs⟩:=hrel
   by_cases ck:k<S
   ·obtain ⟨hN,hM⟩:=HN.out
    obtain ⟨m,hm⟩:∃ m:Nat,m+k+1=S:=⟨S - 1 - k,by omega⟩
    obtain ⟨b,off,rfl,hc⟩:=HX.out.at (k:=m) (by omega)
    obtain ⟨b',off',rfl,hc'⟩:=HY.out.at (k:=m) (by omega)
    have e1:=kkeep hg (hc m (by omega))
    have e2:=kkeep hg (hc' m (by omega))
    have hm2:m=S - 1 - k:=by omega
    rw [hm2] at e1 e2
    have i0:(0:Int)≤(S:Int) - 1 - (k:Int):=by omega
    have i1:(S:Int) - 1 - (k:Int)<(S:Int):=by omega
    have i2:(k:Int)<(S:Int):=by omega
    have i3:wrap64 ((S:Int) - 1)=(S:Int) - 1:=by unfold wrap64;omega
    have i5:(k:Int)≤(S:Int) - 1:=by omega
    have i4:wrap64 ((S:Int) - 1 - (k:Int))=(S:Int) - 1 - (k:Int):=by unfold wrap64;omega
    have rl:=fun h=>HL.out m (by omega) h (fun j a b=>hs j (by omega) b)
    have re:xs.getD m 0=ys.getD m 0→∀ j,S≤j+(k+1)→j<S→xs.getD j 0=ys.getD j 0:=fun h j a b=>by
     by_cases e:j=m
     ·subst e;exact h
     ·exact hs j (by omega) b
    obtain ⟨X,hX⟩:∃ X,X=xs.getD m 0:=⟨_,rfl⟩
    obtain ⟨Y,hY⟩:∃ Y,Y=ys.getD m 0:=⟨_,rfl⟩
    rw [hm2] at hX hY
    rw [← hX] at e1
    rw [← hY] at e2
    rw [← hm2] at hX hY
    rw [← hX,← hY] at rl re
    clear hc hc' HX HY HN HD HL hs hN hM hX hY lS lT
    by_cases cx:X=Y
    ·have hs2:=re cx
     subst cx
     have t1:(X != X)=false:=by simp
     clear rl re
     go_wp2
     refine wp_region_kp (by kernel_rfl) (by kernel_rfl) (fun ι _ G hG hall=>?_)
     have c0:∀ n,(G n).cell? ⟨b,off+(S - 1 - k),none⟩=some (.int .u32 X):=fun n=>kkeep (hG n) e1
     have c1:∀ n,(G n).cell? ⟨b',off'+(S - 1 - k),none⟩=some (.int .u32 X):=fun n=>kkeep (hG n) e2
     repeat (go_big_quiet_step (fail))
     refine wpQuiet_nil ?_
     rintro _ ⟨nq,rfl⟩
     have gq:=hG nq
     replace e1:=kkeep gq e1
     replace e2:=kkeep gq e2
     replace hg:=hg.trans gq
     clear c0 c1 hall hG gq
     go_wp2
     exact ⟨⟨k+1,by omega,by go_num,hg,hs2⟩,by simp [intOf];omega⟩
    ·have t1:(X != Y)=true:=by simp [cx]
     have hcm:=compare_u X Y
     rw [rl cx] at hcm
     clear rl re cx
     go_wp2
     refine wp_region_kp (by kernel_rfl) (by kernel_rfl) (fun ι _ G hG hall=>?_)
     have c0:∀ n,(G n).cell? ⟨b,off+(S - 1 - k),none⟩=some (.int .u32 X):=fun n=>kkeep (hG n) e1
     have c1:∀ n,(G n).cell? ⟨b',off'+(S - 1 - k),none⟩=some (.int .u32 Y):=fun n=>kkeep (hG n) e2
     repeat (go_big_quiet_step (fail))
     refine wpQuiet_nil ?_
     rintro _ ⟨nq,rfl⟩
     have gq:=hG nq
     replace e1:=kkeep gq e1
     replace e2:=kkeep gq e2
     replace hg:=hg.trans gq
     clear c0 c1 hall hG gq
     go_wp2
     go_region_held3 (fun w'=>w'.cell? ⟨b,off+(S - 1 - k),none⟩=some (.int .u32 X)∧w'.cell? ⟨b',off'+(S - 1 - k),none⟩=some (.int .u32 Y)) (exact ⟨e1,e2⟩) (first | (go_at_call 247;refine (hcm _).mono ?_;rintro e w' ⟨rfl,rfl⟩))
     go_wp2
     exact BR (v:=.int .i64 R) (by simp [results,Tryz.results212,go_sem] <;> simp only [*]) rfl ⟨rfl,(by repeat (with_reducible (first | assumption | exact Kp.refl _ | apply Kp.drew | apply Kp.alloc | apply Kp.drewN | (refine Kp.trans ?_ (by assumption)))))⟩
   ·have hR0:=HD.out (fun j hj=>hs j (by omega) hj)
    subst hR0
    have i2:¬ ((k:Int)<(S:Int)):=by omega
    clear HX HY HN HD HL hs lS lT hk ck
    go_wp2
    exact BR (v:=.int .i64 0) (by simp [results,Tryz.results212,go_sem] <;> simp only [*]) rfl ⟨rfl,hg⟩
 ·have t1:((S:Int) != (T:Int))=true:=by simp;omega
  have hcm:=compare_i (S:Int) (T:Int)
  rw [dne cST] at hcm
  clear dne deq tne HX HY HN cST lS lT
  go_enter Tryz.func212,Tryz.ntmps212
  go_wp2_with fail
  refine SM h1 ?_
  go_wp2_with fail
  refine SM h2 ?_
  go_wp2_with (first | (go_at_call 246;refine (hcm _).mono ?_;rintro e w' ⟨rfl,rfl⟩))
  exact BR (v:=.int .i64 R) (by simp [results,Tryz.results212,go_sem] <;> simp only [*]) rfl ⟨rfl,hg⟩
end Go.Proofs.YtmpjcknaelgnoaaGreatDoor
