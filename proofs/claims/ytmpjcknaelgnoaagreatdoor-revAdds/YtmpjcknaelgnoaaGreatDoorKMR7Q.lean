import Derived.Test.YtmpjcknaelgnoaaGreatDoorKQM
import Derived.Test.YtmpjcknaelgnoaaGreatDoorKXY
namespace Go.Proofs.YtmpjcknaelgnoaaGreatDoor
open Go.RowKit
theorem bitLen_blen (o:Nat) (h0:o≠0) (h:o<18446744073709551616):Lib.bitLen o=blen o:=by
 obtain ⟨a1,a2,a3,a4⟩:=Fq.bitLen_bd o h0 h
 have:=blen_uniq o (Lib.bitLen o - 1) a3 (by rw [show Lib.bitLen o - 1+1=Lib.bitLen o from by omega];exact a4)
 omega
def pW (s:Nat) (neg:Bool) (m:Nat):Nat:=if m=0 then 0 else if neg then s+m else m
theorem cut61 (d:Int) (sig c:Nat) (hs:sig<1152921504606846976) (kp:Nat) (hk:kp=sig / 2 ^ c+(upw d (sig / 2 ^ c) (sig % 2 ^ c) (2 ^ c)).toNat) :
  kp=sig / 2 ^ min c 61+(upw d (sig / 2 ^ min c 61) (sig % 2 ^ min c 61) (2 ^ min c 61)).toNat:=by
 by_cases h:c≤61
 ·rw [Nat.min_eq_left h];exact hk
 ·rw [Nat.min_eq_right (by omega)]
  have h61:(2:Nat) ^ 61≤2 ^ c:=Nat.pow_le_pow_right (by omega) (by omega)
  have e61:(2:Nat) ^ 61=2305843009213693952:=by decide
  rw [hk,Nat.div_eq_of_lt (by omega:sig<2 ^ c),Nat.mod_eq_of_lt (by omega:sig<2 ^ c),Nat.div_eq_of_lt (by omega:sig<2 ^ 61),Nat.mod_eq_of_lt (by omega:sig<2 ^ 61),upw_small d 0 sig (2 ^ c) (2 ^ 61) (by omega) (by omega)]
theorem jrD_rg (o:Nat) (E:Int) (h0:o≠0) (h:o<18446744073709551616) (hj:Fq.jokD o E=true):Fq.jrD o E=rgU 53 (o*2 ^ (E+1074).toNat):=by
 obtain ⟨a1,a2,a3⟩:=(Fq.jokD_iff o E).1 hj
 have hb:=bitLen_blen o h0 h
 have hr:=rgU_mul 53 o (E+1074).toNat (Fq.jshD o E) h0 (by unfold Fq.jshD;rw [hb]) (by omega)
 rw [hr]
 unfold Fq.jrD
 rw [show (2:Nat) ^ (53 - 1)=4503599627370496 from by decide]
theorem joinPD (kp Lx U:Nat) (last:Int) (hk0:kp≠0) (hk:kp≤9007199254740992) (hl:last=(Lx:Int) - 1074) (hU:U=kp*2 ^ Lx) :
  ∃ o k:Nat,o % 2=1∧kp=o*2 ^ k∧o*2 ^ k<18446744073709551616∧(Fq.jokD o (last+(k:Int))=true ↔ blen U≤2098)∧(blen U≤2098→Fq.jrD o (last+(k:Int))=rgU 53 U∧rgU 53 U≠0):=by
 obtain ⟨o,k,ho,e⟩:=odd_part kp hk0
 have hp:0<2 ^ k:=Nat.pow_pos (by omega)
 have hok:o≤kp:=by rw [e];exact Nat.le_mul_of_pos_right _ hp
 have hb:=bitLen_blen o (by omega) (by omega)
 have hbl:blen o≤53:=by
  by_cases c:kp=9007199254740992
  ·by_cases c1:o=1
   ·rw [c1,blen_uniq 1 0 (by decide) (by decide)];omega
   ·have h1:k≠0:=by
     intro h
     rw [h,Nat.pow_zero,Nat.mul_one] at e
     omega
    have h2:2*o≤kp:=by
     rw [e,Nat.mul_comm 2]
     refine Nat.mul_le_mul_left _ ?_
     have:(2:Nat) ^ 1≤2 ^ k:=Nat.pow_le_pow_right (by omega) (by omega)
     simpa using this
    exact blen_lt o 53 (by rw [show (2:Nat) ^ 53=9007199254740992 from by decide];omega)
  ·exact blen_lt o 53 (by rw [show (2:Nat) ^ 53=9007199254740992 from by decide];omega)
 have hE:(last+(k:Int)+1074).toNat=k+Lx:=by omega
 have hUo:U=o*2 ^ (last+(k:Int)+1074).toNat:=by rw [hU,e,hE,Nat.pow_add,Nat.mul_assoc]
 have hbU:blen U=blen o+(k+Lx):=by rw [hUo,hE,blen_mul _ _ (by omega)]
 have hiff:Fq.jokD o (last+(k:Int))=true ↔ blen U≤2098:=by
  rw [Fq.jokD_iff,hb,hbU]
  omega
 refine ⟨o,k,ho,e,by rw [← e];omega,hiff,fun h=>⟨?_, ?_⟩⟩
 ·rw [jrD_rg o _ (by omega) (by omega) (hiff.2 h),← hUo]
 ·intro h9
  unfold rgU at h9
  have hU0:U≠0:=by rw [hUo];exact Nat.ne_of_gt (Nat.mul_pos (by omega) (Nat.pow_pos (by omega)))
  have h1:=(blen_spec U hU0).1
  have h2:U / 2 ^ (blen U - 53)=0:=(Nat.add_eq_zero_iff.1 h9).2
  have h3:U<2 ^ (blen U - 53):=by
   by_cases c:U<2 ^ (blen U - 53)
   ·exact c
   ·exact absurd h2 (Nat.ne_of_gt (Nat.div_pos (by omega) (Nat.pow_pos (by omega))))
  have h4:(2:Nat) ^ (blen U - 53)≤2 ^ (blen U - 1):=Nat.pow_le_pow_right (by omega) (by omega)
  omega
def FL (v:Int):Prop:=∃ k:Nat,(2 ^ k:Int) ∣ v∧v.natAbs≤9007199254740992*2 ^ k
structure Nr (v s:Int) (T:Nat):Prop where
 pos:0<T
 dvd:(T:Int) ∣ s
 near:2*(v - s).natAbs≤T
 lt:v.natAbs<9007199254740992*T
 low:T=1∨4503599627370496*T≤v.natAbs
 two:∃ E:Nat,T=2 ^ E
theorem dvd_small {T x:Int} (_hT:0<T) (h:T ∣ x) (hx:x.natAbs<T.natAbs):x=0:=by
 obtain ⟨q,rfl⟩:=h
 by_cases c:q=0
 ·rw [c,Int.mul_zero]
 ·exfalso
  rw [Int.natAbs_mul] at hx
  have:1≤q.natAbs:=by omega
  have:=Nat.mul_le_mul_left T.natAbs this
  omega
theorem pow_dvd_int {j k:Nat} (h:j≤k):(2 ^ j:Int) ∣ 2 ^ k:=⟨2 ^ (k - j),by rw [← Int.pow_add];congr 1;omega⟩
theorem castpow (k:Nat):((2 ^ k:Nat):Int)=(2:Int) ^ k:=by rw [Int.natCast_pow];rfl
theorem Nr.nearest {v s:Int} {T:Nat} (h:Nr v s T) {B:Int} (hB:FL B):(v - s).natAbs≤(v - B).natAbs:=by
 obtain ⟨k,hk,hb⟩:=hB
 obtain ⟨E,hE⟩:=h.two
 -- a multiple of the unit is no nearer
 have hmul:∀ C:Int,(T:Int) ∣ C→(v - s).natAbs≤(v - C).natAbs:=fun C hC=>by
  by_cases c:s=C
  ·rw [c];exact Nat.le_refl _
  ·have hd:(T:Int) ∣ (C - s):=Int.dvd_sub hC h.dvd
   have h1:¬ (C - s).natAbs<(T:Int).natAbs:=fun hx=>by
    have:=dvd_small (by have:=h.pos;omega) hd hx
    omega
   have h2:(T:Int).natAbs=T:=by simp
   rw [h2] at h1
   have:=h.near
   omega
 by_cases c:E≤k
 ·exact hmul B (by rw [hE,castpow];exact Int.dvd_trans (pow_dvd_int c) hk)
 ·have hp:2 ^ k*2≤T:=by
   rw [hE,← Nat.pow_succ]
   exact Nat.pow_le_pow_right (by omega) (by omega)
  have hT1:¬ T=1:=by have:=Nat.two_pow_pos k;omega
  have hlow:=h.low.resolve_left hT1
  rcases Int.lt_or_le v 0 with hv | hv
  ·have:=hmul (-(4503599627370496*(T:Int))) (Int.dvd_neg.2 (Int.dvd_mul_left _ _))
   omega
  ·have:=hmul (4503599627370496*(T:Int)) (Int.dvd_mul_left _ _)
   omega
theorem Nr.fix {v s:Int} {T:Nat} (h:Nr v s T) (hv:FL v):s=v:=by
 have:=h.nearest hv
 omega
theorem Nr.fl {v s:Int} {T:Nat} (h:Nr v s T):FL s:=by
 obtain ⟨E,hE⟩:=h.two
 refine ⟨E,by rw [← castpow,← hE];exact h.dvd, ?_⟩
 rw [← hE]
 have h1:=h.near
 have h2:=h.lt
 by_cases c:s.natAbs≤9007199254740992*T
 ·exact c
 ·exfalso
  -- beyond the top by less than a unit
  rcases Int.lt_or_le s 0 with hs | hs
  ·have hd:(T:Int) ∣ (s+9007199254740992*(T:Int)):=Int.dvd_add h.dvd (Int.dvd_mul_left _ _)
   have:=dvd_small (by have:=h.pos;omega) hd (by simp;omega)
   omega
  ·have hd:(T:Int) ∣ (s - 9007199254740992*(T:Int)):=Int.dvd_sub h.dvd (Int.dvd_mul_left _ _)
   have:=dvd_small (by have:=h.pos;omega) hd (by simp;omega)
   omega
theorem Nr.mul {v s:Int} {T:Nat} (h:Nr v s T) (j:Nat) (hj:(2 ^ j:Int) ∣ v):(2 ^ j:Int) ∣ s:=by
 obtain ⟨E,hE⟩:=h.two
 by_cases c:j≤E
 ·have:=h.dvd
  rw [hE,castpow] at this
  exact Int.dvd_trans (pow_dvd_int c) this
 ·have hT:(T:Int) ∣ v:=by rw [hE,castpow];exact Int.dvd_trans (pow_dvd_int (by omega)) hj
  have hd:(T:Int) ∣ (v - s):=Int.dvd_sub hT h.dvd
  have:=dvd_small (by have:=h.pos;omega) hd (by have:=h.near;have:=h.pos;simp;omega)
  rw [show s=v from by omega];exact hj
theorem FL.neg {v:Int} (h:FL v):FL (-v):=by
 obtain ⟨k,h1,h2⟩:=h
 exact ⟨k,Int.dvd_neg.2 h1,by rw [Int.natAbs_neg];exact h2⟩
theorem FL.zero:FL 0:=⟨0,Int.dvd_zero _,by simp⟩
theorem Nr.neg {v s:Int} {T:Nat} (h:Nr v s T):Nr (-v) (-s) T:=by
 obtain ⟨h1,h2,h3,h4,h5,h6⟩:=h
 exact ⟨h1,Int.dvd_neg.2 h2,by omega,by omega,by omega,h6⟩
theorem FL.both {x y:Int} (hx:FL x) (hy:FL y):∃ j:Nat,(2 ^ j:Int) ∣ x∧(2 ^ j:Int) ∣ y∧(x.natAbs≤9007199254740992*2 ^ j∨y.natAbs≤9007199254740992*2 ^ j):=by
 obtain ⟨k,h1,h2⟩:=hx
 obtain ⟨l,h3,h4⟩:=hy
 by_cases c:k≤l
 ·exact ⟨k,h1,Int.dvd_trans (pow_dvd_int c) h3,Or.inl h2⟩
 ·exact ⟨l,Int.dvd_trans (pow_dvd_int (by omega)) h1,h3,Or.inr h4⟩
theorem FL.diff {x y d:Int} (hx:FL x) (hy:FL y) (hd:∀ j:Nat,(2 ^ j:Int) ∣ x→(2 ^ j:Int) ∣ y→(2 ^ j:Int) ∣ d) (h1:d.natAbs≤x.natAbs) (h2:d.natAbs≤y.natAbs):FL d:=by
 obtain ⟨j,a,b,c⟩:=hx.both hy
 exact ⟨j,hd j a b,by rcases c with c | c <;> omega⟩
theorem sterbenz {x y:Int} (hx:FL x) (hy:FL y) (h:(x - y).natAbs≤x.natAbs∧(x - y).natAbs≤y.natAbs):FL (x - y) :=
 FL.diff hx hy (fun _ a b=>Int.dvd_sub a b) h.1 h.2
theorem off_fl {x y s:Int} {T:Nat} (hx:FL x) (hy:FL y) (h:Nr (x+y) s T):FL (x+y - s):=by
 refine FL.diff hx hy (fun j a b=>?_) ?_ ?_
 ·exact Int.dvd_sub (Int.dvd_add a b) (h.mul j (Int.dvd_add a b))
 ·have:=h.nearest hy;omega
 ·have:=h.nearest hx;omega
theorem FL.unit {x:Int} (hx:FL x) (E:Nat) (h:9007199254740992*2 ^ E<x.natAbs):(2 ^ (E+1):Int) ∣ x:=by
 obtain ⟨k,h1,h2⟩:=hx
 by_cases c:E+1≤k
 ·exact Int.dvd_trans (pow_dvd_int c) h1
 ·exfalso
  have:2 ^ k≤2 ^ E:=Nat.pow_le_pow_right (by omega) (by omega)
  omega
theorem fast_fl {x y s:Int} {T:Nat} (hx:FL x) (hy:FL y) (h:Nr (x+y) s T) (hxy:y.natAbs≤x.natAbs):FL (s - x):=by
 by_cases he:s=x+y
 ·rw [he,show x+y - x=y from by omega];exact hy
 ·obtain ⟨E,hE⟩:=h.two
  have hn:=h.near
  have hlt:=h.lt
  have hT1:¬ T=1:=fun e=>by
   rw [e] at hn
   omega
  have hlow:=h.low.resolve_left hT1
  have hE0:E≠0:=fun e=>hT1 (by rw [hE,e,Nat.pow_zero])
  obtain ⟨F,rfl⟩:∃ F,E=F+1:=⟨E - 1,by omega⟩
  obtain ⟨S,hS⟩:∃ S,S=2 ^ F:=⟨_,rfl⟩
  have hTS:T=2*S:=by rw [hE,hS,Nat.pow_succ];omega
  have hSp:0<S:=by rw [hS];exact Nat.two_pow_pos F
  have hdT:(T:Int) ∣ s:=h.dvd
  by_cases hsg:(0≤x∧0≤y)∨(x≤0∧y≤0)
  ·-- of like sign: both sides are multiples of half a unit
   have hdx:((2:Int) ^ F) ∣ x:=by
    by_cases c:9007199254740992*2 ^ F<x.natAbs
    ·exact Int.dvd_trans (pow_dvd_int (by omega)) (hx.unit F c)
    ·-- at the edge
     by_cases c2:F=0
     ·rw [c2,Int.pow_zero];exact Int.one_dvd _
     ·obtain ⟨G,rfl⟩:∃ G,F=G+1:=⟨F - 1,by omega⟩
      by_cases c3:9007199254740992*2 ^ G<x.natAbs
      ·exact hx.unit G c3
      ·have hg:2 ^ (G+1)=2*2 ^ G:=by rw [Nat.pow_succ];omega
       have hx2:x.natAbs=4503599627370496*2 ^ (G+1):=by omega
       rcases Int.lt_or_le x 0 with hs | hs
       ·have e:x = -(4503599627370496*(2:Int) ^ (G+1)):=by rw [← castpow];omega
        rw [e];exact Int.dvd_neg.2 (Int.dvd_mul_left _ _)
       ·have e:x=4503599627370496*(2:Int) ^ (G+1):=by rw [← castpow];omega
        rw [e];exact Int.dvd_mul_left _ _
   have hds:((2:Int) ^ F) ∣ s:=by
    rw [hE,castpow] at hdT
    exact Int.dvd_trans (pow_dvd_int (by omega)) hdT
   refine ⟨F,Int.dvd_sub hds hdx, ?_⟩
   rw [← hS]
   -- y is a multiple too,or small
   by_cases c:9007199254740992*2 ^ F<2*y.natAbs
   ·by_cases c2:F=0
    ·have:S=1:=by rw [hS,c2]
     omega
    ·obtain ⟨G,rfl⟩:∃ G,F=G+1:=⟨F - 1,by omega⟩
     have hg:2 ^ (G+1)=2*2 ^ G:=by rw [Nat.pow_succ];omega
     have hdy:=hy.unit G (by omega)
     rw [← hS] at c
     have hd2:(S:Int) ∣ (y.natAbs:Int) - 9007199254740992*(S:Int):=by
      refine Int.dvd_sub ?_ (Int.dvd_mul_left _ _)
      rw [hS,castpow]
      exact Int.dvd_natAbs.2 hdy
     by_cases c4:y.natAbs+S≤9007199254740992*S
     ·omega
     ·have:=dvd_small (by omega) hd2 (by simp;omega)
      omega
   ·rw [← hS] at c;omega
  ·-- of unlike sign
   have hbig:¬ ((x - -y).natAbs≤x.natAbs∧(x - -y).natAbs≤(-y).natAbs):=fun hh=>by
    have h9:=sterbenz hx hy.neg hh
    rw [show x - -y=x+y from by omega] at h9
    exact he (h.fix h9)
   have hdx:((2:Int) ^ (F+1)) ∣ x:=hx.unit F (by rw [← hS];omega)
   have hdd:(T:Int) ∣ (s - x):=Int.dvd_sub hdT (by rw [hE,castpow];exact hdx)
   refine ⟨F+1,by rw [← castpow,← hE];exact hdd, ?_⟩
   rw [← hE]
   by_cases c:(s - x).natAbs≤9007199254740992*T
   ·exact c
   ·exfalso
    rcases Int.lt_or_le (s - x) 0 with hs | hs
    ·have hd:(T:Int) ∣ (s - x+9007199254740992*(T:Int)):=Int.dvd_add hdd (Int.dvd_mul_left _ _)
     have:=dvd_small (by omega) hd (by simp;omega)
     omega
    ·have hd:(T:Int) ∣ (s - x - 9007199254740992*(T:Int)):=Int.dvd_sub hdd (Int.dvd_mul_left _ _)
     have:=dvd_small (by omega) hd (by simp;omega)
     omega
theorem twoSum_exact {x y s p d1 d2 d3 o:Int} {T0 T1 T2 T3 T4 T5:Nat} (hx:FL x) (hy:FL y) (h0:Nr (x+y) s T0) (h1:Nr (s - x) p T1) (h2:Nr (s - p) d1 T2) (h3:Nr (x - d1) d2 T3) (h4:Nr (y - p) d3 T4) (h5:Nr (d2+d3) o T5):o=x+y - s:=by
 have he:=off_fl hx hy h0
 by_cases hc:s - x=p∧True
 ·-- p is exact
  have hp:p=s - x:=hc.1.symm
  have e1:d1=x:=by
   have:=h2.fix (by rw [hp,show s - (s - x)=x from by omega];exact hx)
   omega
  have e2:d2=0:=by
   have:=h3.fix (by rw [e1,show x - x=0 from by omega];exact FL.zero)
   omega
  have e3:d3=x+y - s:=by
   have:=h4.fix (by rw [hp,show y - (s - x)=x+y - s from by omega];exact he)
   omega
  have:=h5.fix (by rw [e2,e3,show (0:Int)+(x+y - s)=x+y - s from by omega];exact he)
  omega
 ·have hp:p≠s - x:=fun e=>hc ⟨e.symm,trivial⟩
  have hlt:x.natAbs<y.natAbs:=by
   rcases Nat.lt_or_ge x.natAbs y.natAbs with h | h
   ·exact h
   ·exact absurd (h1.fix (fast_fl hx hy h0 h)) hp
  have hne:s≠x+y:=fun e=>by
   have:=h1.fix (by rw [e,show x+y - x=y from by omega];exact hy)
   exact hp this
  -- the nearest is not below x
  have hfs:=h0.fl
  have hsx:x.natAbs≤s.natAbs:=by
   have n1:=h0.nearest hx
   have n2:=h0.nearest hx.neg
   have hbig:¬ ((x - -y).natAbs≤x.natAbs∧(x - -y).natAbs≤(-y).natAbs):=fun hh=>by
    have h9:=sterbenz hx hy.neg hh
    rw [show x - -y=x+y from by omega] at h9
    exact hne (h0.fix h9)
   omega
  -- the second sum
  have h1':Nr (s + -x) p T1:=by rw [show s + -x=s - x from by omega];exact h1
  have f1:=fast_fl hfs hx.neg h1' (by rw [Int.natAbs_neg];exact hsx)
  have e1:d1=s - p:=h2.fix (by rw [show s - p = -(p - s) from by omega];exact f1.neg)
  have f2:=off_fl hfs hx.neg h1'
  have e2:d2=x - d1:=h3.fix (by rw [e1,show x - (s - p) = -(s + -x - p) from by omega];exact f2.neg)
  -- y and p lie near each other
  have hn:=h0.near
  have hT1:¬ T0=1:=fun e=>by rw [e] at hn;omega
  have hlow:=h0.low.resolve_left hT1
  have n3:=h1.nearest hy
  have f3:FL (y - p):=sterbenz hy h1.fl ⟨by omega,by omega⟩
  have e3:d3=y - p:=h4.fix f3
  have:=h5.fix (by rw [e2,e3,e1,show x - (s - p)+(y - p)=x+y - s from by omega];exact he)
  omega
open Ieee in
theorem cut_even (neg:Bool) (n drop:Nat):Toward.even.cut neg n drop=n / 2 ^ drop+(upw 0 (n / 2 ^ drop) (n % 2 ^ drop) (2 ^ drop)).toNat:=by
 unfold Toward.cut
 simp only [Nat.shiftLeft_eq,Nat.one_mul]
 have hup:∀ S r w:Nat,upw 0 S r w=(decide (w<2*r) || (w == 2*r && S % 2 == 1)):=fun S r w=>by
  unfold upw
  simp
  rfl
 rcases Nat.lt_or_ge (n.log2+2) drop with c | c
 ·rw [Nat.min_eq_right (by omega)]
  have h1:n<2 ^ (n.log2+1):=Nat.lt_log2_self
  have h2:2 ^ (n.log2+2)=2*2 ^ (n.log2+1):=by rw [Nat.pow_succ];omega
  have h3:2 ^ (n.log2+2)≤2 ^ drop:=Nat.pow_le_pow_right (by omega) (by omega)
  rw [Nat.div_eq_of_lt (show n<2 ^ (n.log2+2) by omega),Nat.mod_eq_of_lt (show n<2 ^ (n.log2+2) by omega),Nat.div_eq_of_lt (show n<2 ^ drop by omega),Nat.mod_eq_of_lt (show n<2 ^ drop by omega),hup]
  have e1:¬ 2 ^ (n.log2+2)<2*n:=by omega
  have e2:¬ 2 ^ drop<2*n:=by omega
  have e3:¬ 2 ^ (n.log2+2)=2*n:=by omega
  have e4:¬ 2 ^ drop=2*n:=by omega
  simp [e1,e2]
 ·rw [Nat.min_eq_left c,hup]
theorem rn_nr (A:Nat):Nr (A:Int) ((rU 0 53 A 1:Nat):Int) (2 ^ rE 53 A 1):=by
 obtain ⟨h1,h2⟩:=rE_spec 53 A 1 (by omega) (by omega)
 obtain ⟨E,hE⟩:∃ E,E=rE 53 A 1:=⟨_,rfl⟩
 obtain ⟨T,hT⟩:∃ T,T=2 ^ E:=⟨_,rfl⟩
 have hTp:0<T:=by rw [hT];exact Nat.two_pow_pos E
 have hU:rU 0 53 A 1=(A / T+(upw 0 (A / T) (A % T) T).toNat)*T:=by
  unfold rU rS rR
  rw [← hE,Nat.one_mul,← hT]
 rw [← hE,Nat.one_mul,Nat.pow_add,← hT,show (2:Nat) ^ 53=9007199254740992 from by decide] at h1
 rw [hU,← hE,← hT]
 have hdm:=Nat.div_add_mod A T
 have hml:=Nat.mod_lt A hTp
 obtain ⟨Q,hQ⟩:∃ Q,Q=A / T:=⟨_,rfl⟩
 obtain ⟨r,hr⟩:∃ r,r=A % T:=⟨_,rfl⟩
 rw [← hQ,← hr] at hdm
 rw [← hr] at hml
 rw [← hQ,← hr]
 refine ⟨hTp,⟨((Q+(upw 0 Q r T).toNat:Nat):Int),by rw [Int.natCast_mul,Int.mul_comm]⟩, ?_,by rw [Int.natAbs_natCast];omega, ?_,⟨E,hT⟩⟩
 ·have hc:T*Q=Q*T:=Nat.mul_comm _ _
  cases hu:upw 0 Q r T
  ·have h9:¬ T<2*r:=fun h=>by unfold upw at hu;simp at hu;omega
   simp only [Bool.toNat_false,Nat.add_zero]
   omega
  ·have h9:T≤2*r:=by
    unfold upw at hu
    simp at hu
    omega
   simp only [Bool.toNat_true]
   have:(Q+1)*T=Q*T+T:=by rw [Nat.add_mul,Nat.one_mul]
   omega
 ·rw [Int.natAbs_natCast]
  rcases h2 with h | h
  ·left;rw [hT,hE,h,Nat.pow_zero]
  ·right
   rw [← hE,Nat.one_mul,show E+53 - 1=E+52 from by omega,Nat.pow_add,← hT,show (2:Nat) ^ 52=4503599627370496 from by decide] at h
   omega
theorem rung_of (A:Nat) (d:Int) (E K:Nat) (hE:E=rE 53 A 1) (hK:K=rS 53 A 1+(upw d (rS 53 A 1) (rR 53 A 1) (1*2 ^ rE 53 A 1)).toNat):rU d 53 A 1=K*2 ^ E∧K≤9007199254740992∧(E=0→K<9007199254740992)∧(E=0∨4503599627370496≤K)∧rgU 53 (rU d 53 A 1)=E*4503599627370496+K∧(blen (rU d 53 A 1)≤2098 ↔ E*4503599627370496+K<9218868437227405312):=by
 obtain ⟨h1,h2⟩:=rE_spec 53 A 1 (by omega) (by omega)
 have hU:rU d 53 A 1=K*2 ^ E:=by unfold rU;rw [← hK,← hE]
 rw [← hE] at h1 h2
 rw [Nat.one_mul,Nat.pow_add,show (2:Nat) ^ 53=9007199254740992 from by decide] at h1
 have hTp:0<2 ^ E:=Nat.two_pow_pos E
 have hSq:rS 53 A 1=A / 2 ^ E:=by unfold rS;rw [← hE,Nat.one_mul]
 have hRq:rR 53 A 1=A % 2 ^ E:=by unfold rR;rw [← hE,Nat.one_mul]
 have hS1:rS 53 A 1<9007199254740992:=by rw [hSq,Nat.div_lt_iff_lt_mul hTp,Nat.mul_comm];exact h1
 have hS2:E=0∨4503599627370496≤rS 53 A 1:=by
  rcases h2 with h | h
  ·exact Or.inl h
  ·right
   rw [Nat.one_mul,show E+53 - 1=52+E from by omega,Nat.pow_add,show (2:Nat) ^ 52=4503599627370496 from by decide] at h
   rw [hSq,Nat.le_div_iff_mul_le hTp]
   exact h
 have hb:(upw d (rS 53 A 1) (rR 53 A 1) (1*2 ^ rE 53 A 1)).toNat≤1:=Bool.toNat_le _
 have hK1:K≤9007199254740992:=by omega
 have hK0:E=0→K<9007199254740992:=fun h=>by
  have h0:rR 53 A 1=0:=by rw [hRq,h,Nat.pow_zero,Nat.mod_one]
  rw [h0,upw_none _ _ _ (by rw [Nat.one_mul];exact Nat.two_pow_pos _)] at hK
  simp at hK
  omega
 have hK2:E=0∨4503599627370496≤K:=by omega
 refine ⟨hU,hK1,hK0,hK2, ?_⟩
 rw [hU]
 by_cases c0:K=0
 ·have hE0:E=0:=by omega
  rw [c0,hE0,Nat.zero_mul,rgU_zero,blen_zero]
  omega
 ·by_cases c1:K=9007199254740992
  ·have hp:0<E:=by
    rcases Nat.eq_zero_or_pos E with h | h
    ·exact absurd (hK0 h) (by omega)
    ·exact h
   have e1:K*2 ^ E=4503599627370496*2 ^ (E+1):=by rw [c1,Nat.pow_succ];omega
   have b1:blen 4503599627370496=53:=by
    have:=blen_uniq 4503599627370496 52 (by decide) (by decide)
    exact this
   rw [e1,rgU_mul 53 4503599627370496 (E+1) 0 (by decide) (by rw [b1];omega) (by rw [b1];omega),blen_mul _ _ (by decide),b1,show (2:Nat) ^ (53 - 1)=4503599627370496 from by decide,Nat.pow_zero,Nat.mul_one,c1]
   constructor
   ·omega
   ·omega
  ·have hlt:K<9007199254740992:=by omega
   by_cases c2:E=0
   ·rw [c2,Nat.pow_zero,Nat.mul_one]
    have hb2:blen K≤53:=by rw [blen_le_iff,show (2:Nat) ^ 53=9007199254740992 from by decide];exact hlt
    have:rgU 53 K=K:=by
     unfold rgU
     rw [show blen K - 53=0 from by omega,Nat.zero_mul,Nat.pow_zero,Nat.div_one,Nat.zero_add]
    rw [this]
    omega
   ·have hge:4503599627370496≤K:=by omega
    have b1:blen K=53:=by
     have hb2:blen K≤53:=by rw [blen_le_iff,show (2:Nat) ^ 53=9007199254740992 from by decide];exact hlt
     have hb3:¬ blen K≤52:=by rw [blen_le_iff,show (2:Nat) ^ 52=4503599627370496 from by decide];omega
     omega
    rw [rgU_mul 53 K E 0 c0 (by rw [b1];omega) (by omega),blen_mul _ _ c0,b1,show (2:Nat) ^ (53 - 1)=4503599627370496 from by decide,Nat.pow_zero,Nat.mul_one]
    constructor
    ·omega
    ·omega
def Iv (n:Bool) (m:Nat):Int:=if n then -((Fq.vV Ieee.double m:Nat):Int) else ((Fq.vV Ieee.double m:Nat):Int)
theorem lpD9:Ieee.double.leastPlace = -1074:=by decide +kernel
theorem fbD9:Ieee.double.fractionBits=52:=rfl
theorem wdD9 (n:Bool) (r:Nat):Ieee.double.word n r=Fq.wD n r:=by unfold Ieee.Format.word Fq.wD;rw [Fq.signD]
theorem log2_blen (m:Nat) (h:m≠0):blen m=m.log2+1:=by unfold blen;rw [if_neg h]
open Ieee in
theorem nearest_def (f:Format) (neg:Bool) (mag:Nat) (place:Int) (h:mag≠0):f.nearest neg mag place=f.word neg (min ((max (place+(mag.log2:Nat) - (f.fractionBits:Nat)) f.leastPlace - f.leastPlace).toNat*f.binade+Toward.even.cut neg (mag <<< (place - max (place+(mag.log2:Nat) - (f.fractionBits:Nat)) f.leastPlace).toNat) (max (place+(mag.log2:Nat) - (f.fractionBits:Nat)) f.leastPlace - place).toNat) f.infRung):=by
 unfold Format.nearest
 rw [if_neg h]
theorem near_w (neg:Bool) (mag:Nat) (place:Int) (t:Nat) (ht:(t:Int)=place+1074):Ieee.double.nearest neg mag place=Fq.wD neg (finU 53 2098 9218868437227405311 9218868437227405312 0 (rU 0 53 (mag*2 ^ t) 1)):=by
 by_cases c:mag=0
 ·unfold Ieee.Format.nearest
  rw [if_pos c,wdD9,c,Nat.zero_mul]
  have h0:rU 0 53 0 1=0:=by
   unfold rU rS rR
   rw [Nat.zero_div,Nat.zero_mod,upw_none _ _ _ (by rw [Nat.one_mul];exact Nat.two_pow_pos _)]
   simp
  rw [h0]
  unfold finU
  rw [blen_zero,if_pos (by omega),rgU_zero]
 ·rw [nearest_def _ _ _ _ c,wdD9,lpD9,fbD9,Fq.binD,Fq.infD]
  obtain ⟨A,hA⟩:∃ A,A=mag*2 ^ t:=⟨_,rfl⟩
  have hbA:blen A=mag.log2+1+t:=by rw [hA,blen_mul _ _ c,log2_blen mag c]
  obtain ⟨E,hE⟩:∃ E,E=rE 53 A 1:=⟨_,rfl⟩
  have hE2:E=mag.log2+t - 52:=by rw [hE];unfold rE;rw [Nat.div_one,hbA];omega
  obtain ⟨last,hl⟩:∃ last:Int,last=max (place+(mag.log2:Nat) - ((52:Nat):Int)) (-1074):=⟨_,rfl⟩
  have hlE:(E:Int)=last+1074:=by rw [hl];omega
  obtain ⟨K,hK⟩:∃ K,K=rS 53 A 1+(upw 0 (rS 53 A 1) (rR 53 A 1) (1*2 ^ rE 53 A 1)).toNat:=⟨_,rfl⟩
  have hkept:Ieee.Toward.even.cut neg (mag <<< (place - last).toNat) (last - place).toNat=K:=by
   rw [cut_even,hK]
   unfold rS rR
   rw [← hE,Nat.one_mul,Nat.shiftLeft_eq]
   by_cases c1:E≤t
   ·rw [show (place - last).toNat=t - E from by omega,show (last - place).toNat=0 from by omega,Nat.pow_zero,Nat.div_one,Nat.mod_one,upw_none _ _ _ (by omega)]
    have e1:A=mag*2 ^ (t - E)*2 ^ E:=by rw [hA,Nat.mul_assoc,← Nat.pow_add];congr 2;omega
    rw [e1,Nat.mul_div_cancel _ (Nat.two_pow_pos E),Nat.mul_mod_left,upw_none _ _ _ (Nat.two_pow_pos E)]
   ·rw [show (place - last).toNat=0 from by omega,show (last - place).toNat=E - t from by omega,Nat.pow_zero,Nat.mul_one]
    have e1:2 ^ E=2 ^ (E - t)*2 ^ t:=by rw [← Nat.pow_add];congr 1;omega
    rw [hA,e1,Nat.mul_div_mul_right _ _ (Nat.two_pow_pos t),Nat.mul_mod_mul_right,upw_scale _ _ _ _ _ (Nat.two_pow_pos t)]
  rw [← hl]
  rw [hkept,show (last - (-1074)).toNat=E from by omega,← hA]
  obtain ⟨_,_,_,_,h5,h6⟩:=rung_of A 0 E K hE hK
  unfold finU
  congr 1
  by_cases c2:blen (rU 0 53 A 1)≤2098
  ·rw [if_pos c2,h5];exact Nat.min_eq_left (Nat.le_of_lt (h6.1 c2))
  ·rw [if_neg c2,if_neg (by decide)]
   exact Nat.min_eq_right (Nat.le_of_not_lt (fun h=>c2 (h6.2 h)))
theorem vV_rung (A:Nat) (d:Int):Fq.vV Ieee.double (rgU 53 (rU d 53 A 1))=rU d 53 A 1:=by
 obtain ⟨E,hE⟩:∃ E,E=rE 53 A 1:=⟨_,rfl⟩
 obtain ⟨K,hK⟩:∃ K,K=rS 53 A 1+(upw d (rS 53 A 1) (rR 53 A 1) (1*2 ^ rE 53 A 1)).toNat:=⟨_,rfl⟩
 obtain ⟨h1,h2,h3,h4,h5,_⟩:=rung_of A d E K hE hK
 rw [h5,h1]
 unfold Fq.vV Fq.mM Fq.eE
 rw [Fq.binD]
 by_cases c0:E*4503599627370496+K<4503599627370496
 ·have:E=0:=by omega
  rw [if_pos c0,if_pos c0,this];simp
 ·rw [if_neg c0,if_neg c0]
  by_cases c1:K=9007199254740992
  ·rw [c1,show (E*4503599627370496+9007199254740992) / 4503599627370496=E+2 from by omega,show (E*4503599627370496+9007199254740992) % 4503599627370496=0 from by omega,show E+2 - 1=E+1 from by omega,Nat.pow_succ]
   omega
  ·have hge:4503599627370496≤K:=by omega
   rw [show (E*4503599627370496+K) / 4503599627370496=E+1 from by omega,show (E*4503599627370496+K) % 4503599627370496=K - 4503599627370496 from by omega,show 4503599627370496+(K - 4503599627370496)=K from by omega,Nat.add_sub_cancel]
open Ieee in
theorem signed_mul (n:Bool) (m u v:Nat):signed n m u*((2 ^ v:Nat):Int)=if n then -((m*2 ^ (u+v):Nat):Int) else ((m*2 ^ (u+v):Nat):Int):=by
 unfold signed
 rw [Nat.shiftLeft_eq]
 cases n
 ·simp [Nat.pow_add,Int.mul_assoc]
 ·simp [Nat.pow_add,Int.mul_assoc,Int.neg_mul]
theorem add_w (n n':Bool) (m m':Nat) (h:m<9218868437227405312) (h':m'<9218868437227405312) (V:Int) (hV:V=Iv n m+Iv n' m') :
  FloatKind.f64.format.add (Fq.wD n m) (Fq.wD n' m')=some (Fq.wD (if V=0 then n && n' else decide (V<0)) (finU 53 2098 9218868437227405311 9218868437227405312 0 (rU 0 53 V.natAbs 1))):=by
 show Ieee.double.add _ _=_
 unfold Ieee.Format.add
 rw [Fq.read_fin _ _ (by rw [Fq.rgD n m (by omega),Fq.infD];exact h),Fq.read_fin _ _ (by rw [Fq.rgD n' m' (by omega),Fq.infD];exact h'),Fq.rgD n m (by omega),Fq.rgD n' m' (by omega),Fq.ngD n m (by omega),Fq.ngD n' m' (by omega),lpD9]
 unfold Ieee.Datum.sum
 obtain ⟨e,he⟩:∃ e,e=Fq.eE Ieee.double m:=⟨_,rfl⟩
 obtain ⟨e',he'⟩:∃ e',e'=Fq.eE Ieee.double m':=⟨_,rfl⟩
 obtain ⟨a,ha⟩:∃ a,a=Fq.mM Ieee.double m:=⟨_,rfl⟩
 obtain ⟨a',ha'⟩:∃ a',a'=Fq.mM Ieee.double m':=⟨_,rfl⟩
 rw [← he,← he',← ha,← ha']
 obtain ⟨b,hb⟩:∃ b,b=min e e':=⟨_,rfl⟩
 simp only
 rw [show min (-1074+(e:Int)) (-1074+(e':Int)) = -1074+(b:Int) from by omega,show (-1074+(e:Int) - (-1074+(b:Int))).toNat=e - b from by omega,show (-1074+(e':Int) - (-1074+(b:Int))).toNat=e' - b from by omega]
 obtain ⟨t,ht⟩:∃ t,t=Ieee.signed n a (e - b)+Ieee.signed n' a' (e' - b):=⟨_,rfl⟩
 have hT:t*((2 ^ b:Nat):Int)=V:=by
  rw [ht,Int.add_mul,signed_mul,signed_mul,hV,show e - b+b=e from by omega,show e' - b+b=e' from by omega]
  unfold Iv Fq.vV
  rw [← he,← he',← ha,← ha']
 have hp:(0:Int)<((2 ^ b:Nat):Int):=by have:=Nat.two_pow_pos b;omega
 rw [← ht]
 simp only [Option.map_some]
 unfold Ieee.Format.write
 simp only
 rw [near_w _ _ _ b (by omega)]
 have hab:t.natAbs*2 ^ b=V.natAbs:=by rw [← hT,Int.natAbs_mul,Int.natAbs_natCast]
 rw [hab]
 have h0:t=0 ↔ V=0:=by
  constructor
  ·intro h;rw [← hT,h,Int.zero_mul]
  ·intro h;rw [h] at hT
   rcases Int.mul_eq_zero.1 hT with h | h
   ·exact h
   ·omega
 have hs:t<0 ↔ V<0:=by
  rw [← hT]
  constructor
  ·intro h;exact Int.mul_neg_of_neg_of_pos h hp
  ·intro h
   rcases Int.lt_or_le t 0 with c | c
   ·exact c
   ·have:=Int.mul_nonneg c (Int.le_of_lt hp);omega
 by_cases c:t=0
 ·rw [if_pos c,if_pos (h0.1 c)]
 ·rw [if_neg c,if_neg (fun h=>c (h0.2 h)),decide_eq_decide.2 hs]
theorem dirs (A:Nat):(A<rU 0 53 A 1→rgU 53 (rU (-1) 53 A 1)+1=rgU 53 (rU 0 53 A 1))∧(rU 0 53 A 1≤A→rgU 53 (rU (-1) 53 A 1)=rgU 53 (rU 0 53 A 1))∧(rU 0 53 A 1<A→rgU 53 (rU 1 53 A 1)=rgU 53 (rU 0 53 A 1)+1)∧(A≤rU 0 53 A 1→rgU 53 (rU 1 53 A 1)=rgU 53 (rU 0 53 A 1)):=by
 obtain ⟨E,hE⟩:∃ E,E=rE 53 A 1:=⟨_,rfl⟩
 obtain ⟨q,hq⟩:∃ q,q=rS 53 A 1:=⟨_,rfl⟩
 obtain ⟨r,hr⟩:∃ r,r=rR 53 A 1:=⟨_,rfl⟩
 obtain ⟨T,hT⟩:∃ T,T=2 ^ E:=⟨_,rfl⟩
 have hTp:0<T:=by rw [hT];exact Nat.two_pow_pos E
 have hA:A=q*T+r:=by
  rw [hq,hr,hT,hE];unfold rS rR;rw [Nat.one_mul,Nat.mul_comm];exact (Nat.div_add_mod _ _).symm
 have hrl:r<T:=by rw [hr,hT,hE];unfold rR;rw [Nat.one_mul];exact Nat.mod_lt _ (Nat.two_pow_pos _)
 have h0:=rung_of A 0 E (q+(upw 0 q r T).toNat) hE (by rw [hq,hr,hT,hE,Nat.one_mul])
 have h1:=rung_of A 1 E (q+(upw 1 q r T).toNat) hE (by rw [hq,hr,hT,hE,Nat.one_mul])
 have h2:=rung_of A (-1) E (q+(upw (-1) q r T).toNat) hE (by rw [hq,hr,hT,hE,Nat.one_mul])
 rw [← hT] at h0 h1 h2
 have e1:upw 1 q r T=decide (0<r):=by unfold upw;simp
 have e2:upw (-1) q r T=false:=by unfold upw;simp
 rw [e1] at h1
 rw [e2] at h2
 rw [h0.2.2.2.2.1,h1.2.2.2.2.1,h2.2.2.2.2.1,h0.1]
 have hexp:∀ b:Bool,(q+b.toNat)*T=q*T+b.toNat*T:=fun b=>Nat.add_mul _ _ _
 rw [hexp]
 have hno:upw 0 q 0 T=false:=upw_none _ _ _ hTp
 cases hu:upw 0 q r T
 ·simp only [Bool.toNat_false,Nat.zero_mul,Nat.add_zero]
  by_cases c:0<r
  ·rw [decide_eq_true c]
   simp only [Bool.toNat_true]
   refine ⟨fun h=>by omega,fun _=>trivial,fun _=>by omega,fun h=>by omega⟩
  ·rw [decide_eq_false c]
   simp only [Bool.toNat_false,Nat.add_zero]
   refine ⟨fun h=>by omega,fun _=>trivial,fun h=>by omega,fun _=>trivial⟩
 ·have hr0:0<r:=by
   rcases Nat.eq_zero_or_pos r with h | h
   ·rw [h,hno] at hu;cases hu
   ·exact h
  rw [decide_eq_true hr0]
  simp only [Bool.toNat_true,Bool.toNat_false,Nat.one_mul,Nat.add_zero]
  refine ⟨fun _=>by omega,fun h=>by omega,fun h=>by omega,fun _=>trivial⟩
theorem dir_oth (A:Nat) (d:Int) (h1:d≠1) (h2:d≠-1):rU d 53 A 1=rU 0 53 A 1:=by
 unfold rU
 have e:∀ S r w:Nat,upw d S r w=upw 0 S r w:=fun S r w=>by unfold upw;rw [if_neg h1,if_neg h2,if_neg (by decide),if_neg (by decide)]
 rw [e]
def sumW (d V:Int):Nat:=if V=0 then 0 else mdW (decide (V<0)) (finU 53 2098 9218868437227405311 9218868437227405312 (dirN (decide (V<0)) d) (rU (dirN (decide (V<0)) d) 53 V.natAbs 1))
theorem rU_blen (A:Nat) (d:Int) (k:Nat) (hk:53≤k) (h:A<2 ^ k):blen (rU d 53 A 1)≤k+1:=by
 obtain ⟨E,hE⟩:∃ E,E=rE 53 A 1:=⟨_,rfl⟩
 obtain ⟨K,hK⟩:∃ K,K=rS 53 A 1+(upw d (rS 53 A 1) (rR 53 A 1) (1*2 ^ rE 53 A 1)).toNat:=⟨_,rfl⟩
 obtain ⟨h1,h2,h3,h4,h5,_⟩:=rung_of A d E K hE hK
 rw [h1]
 have hEk:E≤k - 53:=by
  rw [hE];unfold rE;rw [Nat.div_one]
  have:=(blen_le_iff A k).2 h
  omega
 rw [blen_le_iff]
 have hp:2 ^ E≤2 ^ (k - 53):=Nat.pow_le_pow_right (by omega) hEk
 have e1:2 ^ (k+1)=2 ^ 54*2 ^ (k - 53):=by rw [← Nat.pow_add];congr 1;omega
 rw [e1,show (2:Nat) ^ 54=18014398509481984 from by decide]
 have hp0:=Nat.two_pow_pos (k - 53)
 calc K*2 ^ E≤9007199254740992*2 ^ (k - 53):=Nat.mul_le_mul h2 hp
  _<18014398509481984*2 ^ (k - 53):=Nat.mul_lt_mul_of_pos_right (by decide) hp0
theorem fin_small (A:Nat) (d d2:Int) (k:Nat) (hk:53≤k) (hk2:k≤2097) (h:A<2 ^ k):finU 53 2098 9218868437227405311 9218868437227405312 d2 (rU d 53 A 1)=rgU 53 (rU d 53 A 1)∧rgU 53 (rU d 53 A 1)<9218868437227405312:=by
 have hb:=rU_blen A d k hk h
 have hb2:blen (rU d 53 A 1)≤2098:=by omega
 constructor
 ·unfold finU;rw [if_pos hb2]
 ·have h9:=rung_of A d _ _ rfl rfl
  rw [h9.2.2.2.2.1];exact h9.2.2.2.2.2.1 hb2
theorem op_nr (V:Int) (sz:Bool) (k:Nat) (hk:53≤k) (hk2:k≤2097) (h:V.natAbs<2 ^ k):∃ s r T,Fq.wD (if V=0 then sz else decide (V<0)) (finU 53 2098 9218868437227405311 9218868437227405312 0 (rU 0 53 V.natAbs 1))=Fq.wD s r∧r<9218868437227405312∧Nr V (Iv s r) T∧r=rgU 53 (rU 0 53 V.natAbs 1)∧s=(if V=0 then sz else decide (V<0))∧(Iv s r).natAbs<2 ^ (k+1):=by
 obtain ⟨h1,h2⟩:=fin_small V.natAbs 0 0 k hk hk2 h
 have hval:Iv (if V=0 then sz else decide (V<0)) (rgU 53 (rU 0 53 V.natAbs 1))=if V<0 then -((rU 0 53 V.natAbs 1:Nat):Int) else ((rU 0 53 V.natAbs 1:Nat):Int):=by
  unfold Iv
  rw [vV_rung]
  by_cases c:V=0
  ·have h0:rU 0 53 V.natAbs 1=0:=by
    rw [c]
    unfold rU rS rR
    rw [Int.natAbs_zero,Nat.zero_div,Nat.zero_mod,upw_none _ _ _ (by rw [Nat.one_mul];exact Nat.two_pow_pos _)]
    simp
   have hn:¬ V<0:=by rw [c];decide
   rw [h0,if_neg hn]
   simp
  ·rw [if_neg c]
   by_cases c2:V<0
   ·rw [decide_eq_true c2,if_pos rfl,if_pos c2]
   ·rw [decide_eq_false c2,if_neg (by simp),if_neg c2]
 refine ⟨_,_,2 ^ rE 53 V.natAbs 1,by rw [h1],h2, ?_,rfl,rfl, ?_⟩
 ·rw [hval]
  have hn:=rn_nr V.natAbs
  by_cases c2:V<0
  ·rw [if_pos c2]
   have e:V = -((V.natAbs:Nat):Int):=by omega
   have hn2:=hn.neg
   rw [← e] at hn2
   exact hn2
  ·rw [if_neg c2]
   have e:((V.natAbs:Nat):Int)=V:=by omega
   rw [e] at hn
   exact hn
 ·rw [hval]
  have hb:=(blen_le_iff _ _).1 (rU_blen V.natAbs 0 k hk h)
  split
  ·rw [Int.natAbs_neg,Int.natAbs_natCast];exact hb
  ·rw [Int.natAbs_natCast];exact hb
theorem iv_fl (n:Bool) (m:Nat):FL (Iv n m):=by
 have h:FL ((Fq.vV Ieee.double m:Nat):Int):=by
  unfold Fq.vV
  refine ⟨Fq.eE Ieee.double m,by rw [Int.natCast_mul,castpow];exact Int.dvd_mul_left _ _, ?_⟩
  rw [Int.natAbs_natCast]
  refine Nat.mul_le_mul_right _ ?_
  unfold Fq.mM
  rw [Fq.binD]
  split <;> omega
 unfold Iv
 cases n
 ·exact h
 ·exact h.neg
theorem iv_not (n:Bool) (m:Nat):Iv (!n) m = -Iv n m:=by unfold Iv;cases n <;> simp
theorem sub_w (n n':Bool) (m m':Nat) (h:m<9218868437227405312) (h':m'<9218868437227405312) (V:Int) (hV:V=Iv n m - Iv n' m') :
  FloatKind.f64.format.sub (Fq.wD n m) (Fq.wD n' m')=some (Fq.wD (if V=0 then n && !n' else decide (V<0)) (finU 53 2098 9218868437227405311 9218868437227405312 0 (rU 0 53 V.natAbs 1))):=by
 have h1:=add_w n (!n') m m' h h' V (by rw [iv_not,hV];omega)
 rw [← h1]
 show Ieee.double.sub _ _=Ieee.double.add _ _
 unfold Ieee.Format.sub Ieee.Format.add
 rw [Fq.read_fin _ (Fq.wD n' m') (by rw [Fq.rgD n' m' (by omega),Fq.infD];exact h'),Fq.read_fin _ (Fq.wD (!n') m') (by rw [Fq.rgD (!n') m' (by omega),Fq.infD];exact h'),Fq.rgD n' m' (by omega),Fq.rgD (!n') m' (by omega),Fq.ngD n' m' (by omega),Fq.ngD (!n') m' (by omega)]
 rfl
theorem lt_add9 {a b:Int} {K L:Nat} (ha:a.natAbs<2 ^ K) (hb:b.natAbs<2 ^ L) (h:L≤K):(a+b).natAbs<2 ^ (K+1)∧(a - b).natAbs<2 ^ (K+1):=by
 have h1:2 ^ L≤2 ^ K:=Nat.pow_le_pow_right (by omega) h
 have h2:2 ^ (K+1)=2*2 ^ K:=by rw [Nat.pow_succ];omega
 omega
theorem lt_sub9 {a b:Int} {K L:Nat} (ha:a.natAbs<2 ^ K) (hb:b.natAbs<2 ^ L) (h:K≤L):(a+b).natAbs<2 ^ (L+1)∧(a - b).natAbs<2 ^ (L+1):=by
 have h1:2 ^ K≤2 ^ L:=Nat.pow_le_pow_right (by omega) h
 have h2:2 ^ (L+1)=2*2 ^ L:=by rw [Nat.pow_succ];omega
 omega
theorem two_words (n n':Bool) (m m' K:Nat) (hK:53≤K) (hK2:K+12≤2097) (hm:m<9218868437227405312) (hm':m'<9218868437227405312) (hx:(Iv n m).natAbs<2 ^ K) (hy:(Iv n' m').natAbs<2 ^ K) (V:Int) (hV:V=Iv n m+Iv n' m') :
  ∃ (s p a b c o:Bool) (r pr ar br cr ro:Nat),FloatKind.f64.format.add (Fq.wD n m) (Fq.wD n' m')=some (Fq.wD s r)∧FloatKind.f64.format.sub (Fq.wD s r) (Fq.wD n m)=some (Fq.wD p pr)∧FloatKind.f64.format.sub (Fq.wD s r) (Fq.wD p pr)=some (Fq.wD a ar)∧FloatKind.f64.format.sub (Fq.wD n m) (Fq.wD a ar)=some (Fq.wD b br)∧FloatKind.f64.format.sub (Fq.wD n' m') (Fq.wD p pr)=some (Fq.wD c cr)∧FloatKind.f64.format.add (Fq.wD b br) (Fq.wD c cr)=some (Fq.wD o ro)∧r<9218868437227405312∧ro<9218868437227405312∧r=rgU 53 (rU 0 53 V.natAbs 1)∧s=(if V=0 then n && n' else decide (V<0))∧Iv o ro=V - Iv s r:=by
 have hv:V.natAbs<2 ^ (K+1):=by rw [hV];exact (lt_add9 hx hy (Nat.le_refl _)).1
 obtain ⟨s,r,T0,w0,r0,n0,e0,e0',l0⟩:=op_nr V (n && n') (K+1) (by omega) (by omega) hv
 obtain ⟨p,pr,T1,w1,r1,n1,_,_,l1⟩:=op_nr (Iv s r - Iv n m) (s && !n) (K+3) (by omega) (by omega) (lt_add9 l0 hx (by omega)).2
 obtain ⟨a,ar,T2,w2,r2,n2,_,_,l2⟩:=op_nr (Iv s r - Iv p pr) (s && !p) (K+5) (by omega) (by omega) (lt_sub9 l0 l1 (by omega)).2
 obtain ⟨b,br,T3,w3,r3,n3,_,_,l3⟩:=op_nr (Iv n m - Iv a ar) (n && !a) (K+7) (by omega) (by omega) (lt_sub9 hx l2 (by omega)).2
 obtain ⟨c,cr,T4,w4,r4,n4,_,_,l4⟩:=op_nr (Iv n' m' - Iv p pr) (n' && !p) (K+5) (by omega) (by omega) (lt_sub9 hy l1 (by omega)).2
 obtain ⟨o,ro,T5,w5,r5,n5,_,_,l5⟩:=op_nr (Iv b br+Iv c cr) (b && c) (K+9) (by omega) (by omega) (lt_add9 l3 l4 (by omega)).1
 have hex:=twoSum_exact (iv_fl n m) (iv_fl n' m') (by rw [← hV];exact n0) n1 n2 n3 n4 n5
 refine ⟨s,p,a,b,c,o,r,pr,ar,br,cr,ro, ?_, ?_, ?_, ?_, ?_, ?_,r0,r5,e0,e0',by rw [hV];exact hex⟩
 ·rw [add_w n n' m m' hm hm' V hV,w0]
 ·rw [sub_w s n r m r0 hm _ rfl,w1]
 ·rw [sub_w s p r pr r0 r1 _ rfl,w2]
 ·rw [sub_w n a m ar hm r2 _ rfl,w3]
 ·rw [sub_w n' p m' pr hm' r1 _ rfl,w4]
 ·rw [add_w b c br cr r3 r4 _ rfl,w5]
theorem vV_pos (m:Nat):Fq.vV Ieee.double m=0 ↔ m=0:=by
 unfold Fq.vV Fq.mM Fq.eE
 rw [Fq.binD]
 by_cases c:m<4503599627370496
 ·rw [if_pos c,if_pos c];simp
 ·rw [if_neg c,if_neg c]
  have hp:=Nat.two_pow_pos (m / 4503599627370496 - 1)
  constructor
  ·intro h
   rcases Nat.mul_eq_zero.1 h with h | h <;> omega
  ·intro h;omega
theorem iv_plz (n:Bool) (m:Nat):(Iv n m<0 ↔ Fq.plz n m<0)∧(0<Iv n m ↔ 0<Fq.plz n m):=by
 have h:=vV_pos m
 unfold Iv Fq.plz
 cases n <;> simp <;> omega
theorem step_w (d V:Int) (s o sz:Bool) (r ro K:Nat) (hK:53≤K) (hK2:K≤2096) (hv:V.natAbs<2 ^ K) (hr:r=rgU 53 (rU 0 53 V.natAbs 1)) (hs:s=(if V=0 then sz else decide (V<0))) (ho:Iv o ro=V - Iv s r) :
  (d = -1→Fq.plz o ro<0→Fq.plz s r≠-9218868437227405312∧Fq.fD (Fq.plz s r - 1)=sumW d V)∧(d=1→0<Fq.plz o ro→Fq.plz s r≠9218868437227405312∧Fq.fD (Fq.plz s r+1)=sumW d V)∧(¬ (d = -1∧Fq.plz o ro<0)→¬ (d=1∧0<Fq.plz o ro)→Fq.wD (s && !(r == 0)) r=sumW d V):=by
 obtain ⟨hp1,hp2⟩:=iv_plz o ro
 rw [← hp1,← hp2,ho]
 obtain ⟨D1,D2,D3,D4⟩:=dirs V.natAbs
 have hfin:∀ dd d2:Int,finU 53 2098 9218868437227405311 9218868437227405312 d2 (rU dd 53 V.natAbs 1)=rgU 53 (rU dd 53 V.natAbs 1)∧rgU 53 (rU dd 53 V.natAbs 1)<9218868437227405312:=fun dd d2=>fin_small V.natAbs dd d2 K hK (by omega) hv
 have hU:=vV_rung V.natAbs 0
 rw [← hr] at hU D1 D2 D3 D4
 have hrl:r<9218868437227405312:=by rw [hr];exact (hfin 0 0).2
 have hfs:∀ dd,rgU 53 (rU dd 53 V.natAbs 1)<9218868437227405312:=fun dd=>(hfin dd 0).2
 by_cases c0:V=0
 ·have h0:rU 0 53 V.natAbs 1=0:=by
   rw [c0]
   unfold rU rS rR
   rw [Int.natAbs_zero,Nat.zero_div,Nat.zero_mod,upw_none _ _ _ (by rw [Nat.one_mul];exact Nat.two_pow_pos _)]
   simp
  have hr0:r=0:=by rw [hr,h0,rgU_zero]
  have hi:Iv s r=0:=by
   rw [hr0];unfold Iv
   have:Fq.vV Ieee.double 0=0:=(vV_pos 0).2 rfl
   rw [this];cases s <;> simp
  rw [hi,c0]
  refine ⟨fun _ h=>absurd h (by decide),fun _ h=>absurd h (by decide),fun _ _=>?_⟩
  unfold sumW
  rw [if_pos rfl,hr0];unfold Fq.wD;simp
 ·have hsn:s=decide (V<0):=by rw [hs,if_neg c0]
  have hmd:∀ x:Nat,x≠0→mdW s x=Fq.wD s x:=fun x hx=>by unfold mdW Fq.wD;rw [if_neg hx]
  have hsum:∀ dm:Int,dm=dirN s d→sumW d V=mdW s (rgU 53 (rU dm 53 V.natAbs 1)):=fun dm hdm=>by
   unfold sumW;rw [if_neg c0,← hsn,← hdm,(hfin dm dm).1]
  have hr1:r≠0:=by
   intro h
   rw [h,(vV_pos 0).2 rfl] at hU
   have hn:=(rn_nr V.natAbs).near
   rw [← hU] at hn
   have hl:=(rn_nr V.natAbs).low
   omega
  have hiv:Iv s r=if V<0 then -((rU 0 53 V.natAbs 1:Nat):Int) else ((rU 0 53 V.natAbs 1:Nat):Int):=by
   unfold Iv;rw [hU,hsn]
   by_cases c:V<0
   ·rw [decide_eq_true c,if_pos rfl,if_pos c]
   ·rw [decide_eq_false c,if_neg (by simp),if_neg c]
  have hfd:∀ x:Nat,x≠0→∀ P:Int,P=Fq.plz s x→Fq.fD P=mdW s x:=fun x hx P hP=>by
   rw [hmd x hx,hP];unfold Fq.fD Fq.plz Fq.wD
   cases s
   ·simp
   ·simp;omega
  have hother:∀ dm:Int,dm=dirN s d→rgU 53 (rU dm 53 V.natAbs 1)=r→Fq.wD (s && !(r == 0)) r=sumW d V:=fun dm h1 h2=>by
   rw [hsum dm h1,h2,hmd r hr1]
   congr 1
   simp [hr1]
  by_cases c:V<0
  ·rw [decide_eq_true c] at hsn
   rw [hiv,if_pos c]
   subst hsn
   have dN:dirN true d = -d:=rfl
   refine ⟨fun hd h=>?_,fun hd h=>?_,fun h1 h2=>?_⟩
   ·have e:=D3 (by omega)
    have hl:=hfs 1
    refine ⟨by unfold Fq.plz;first | (simp;done) | (simp;omega), ?_⟩
    rw [hsum 1 (by rw [dN,hd];rfl),e]
    exact hfd (r+1) (by omega) _ (by unfold Fq.plz;first | (simp;done) | (simp;omega))
   ·have e:=D1 (by omega)
    refine ⟨by unfold Fq.plz;first | (simp;done) | (simp;omega), ?_⟩
    rw [hsum (-1) (by rw [dN,hd])]
    by_cases cz:rgU 53 (rU (-1) 53 V.natAbs 1)=0
    ·rw [cz]
     have:r=1:=by omega
     rw [this];rfl
    ·exact hfd _ cz _ (by unfold Fq.plz;first | (simp;done) | (simp;omega))
   ·by_cases d1:d = -1
    ·exact hother 1 (by rw [dN,d1];rfl) (D4 (by have:=mt (fun h=>h1 ⟨d1,h⟩);omega))
    ·by_cases d2:d=1
     ·exact hother (-1) (by rw [dN,d2]) (D2 (by have:=mt (fun h=>h2 ⟨d2,h⟩);omega))
     ·exact hother (-d) dN.symm (by rw [dir_oth _ _ (by omega) (by omega),hr])
  ·rw [decide_eq_false c] at hsn
   rw [hiv,if_neg c]
   subst hsn
   have dN:dirN false d=d:=rfl
   refine ⟨fun hd h=>?_,fun hd h=>?_,fun h1 h2=>?_⟩
   ·have e:=D1 (by omega)
    refine ⟨by unfold Fq.plz;first | (simp;done) | (simp;omega), ?_⟩
    rw [hsum (-1) (by rw [dN,hd])]
    by_cases cz:rgU 53 (rU (-1) 53 V.natAbs 1)=0
    ·rw [cz]
     have:r=1:=by omega
     rw [this];rfl
    ·exact hfd _ cz _ (by unfold Fq.plz;first | (simp;done) | (simp;omega))
   ·have e:=D3 (by omega)
    have hl:=hfs 1
    refine ⟨by unfold Fq.plz;first | (simp;done) | (simp;omega), ?_⟩
    rw [hsum 1 (by rw [dN,hd]),e]
    exact hfd (r+1) (by omega) _ (by unfold Fq.plz;simp)
   ·by_cases d1:d = -1
    ·exact hother (-1) (by rw [dN,d1]) (D2 (by have:=mt (fun h=>h1 ⟨d1,h⟩);omega))
    ·by_cases d2:d=1
     ·exact hother 1 (by rw [dN,d2]) (D4 (by have:=mt (fun h=>h2 ⟨d2,h⟩);omega))
     ·exact hother d dN.symm (by rw [dir_oth _ _ d2 d1,hr])
end Go.Proofs.YtmpjcknaelgnoaaGreatDoor
