import Derived.Test.YtmpjcknaelgnoaaGreatDoorKMVa
import Derived.Test.YtmpjcknaelgnoaaGreatDoorKO6
set_option maxHeartbeats 2000000
set_option maxRecDepth 20000
namespace Go.Proofs.YtmpjcknaelgnoaaGreatDoor
open Go.RowKit
def mulW (d:Int) (ng:Bool) (P:Nat):Nat:=if P=0 then 0 else mdW ng (finU 53 2098 9218868437227405311 9218868437227405312 (dirN ng d) (rV (dirN ng d) 53 P 1 (-1074)))
theorem of_mul (d:Int) (ng:Bool) (c:Nat) (low:Int) (P:Nat) (h1:-2148≤low) (h2:low≤8192) (hb:blen c≤524288) (hP:P=c*2 ^ (low+2148).toNat):ofW d ng c low=mulW d ng P:=by
 have hl:¬ 16384<len32 c:=mt (long_iff c).2 (by omega)
 rw [of_rat]
 unfold ratW mulW
 rw [if_neg (by rw [len32_one];omega),if_neg (by decide)]
 obtain ⟨k,hk⟩:∃ k,k=(low+2148).toNat:=⟨_,rfl⟩
 rw [← hk] at hP
 by_cases c0:c=0
 ·rw [if_pos c0,if_pos (by rw [hP,c0,Nat.zero_mul])]
 ·have hp:P≠0:=by rw [hP];exact Nat.mul_ne_zero c0 (Nat.ne_of_gt (Nat.two_pow_pos k))
  rw [if_neg c0,if_neg hp,hP,rV_up _ _ _ _ _ _ (by decide),show (-1074:Int)+(k:Int)=low+1074 from by omega]
theorem sum_mul (d V:Int) (ng:Bool) (P K:Nat) (hK:K=1074) (hP:V.natAbs*2 ^ K=P) (hng:V≠0→ng=decide (V<0)):sumW d V=mulW d ng P:=by
 unfold sumW mulW
 by_cases c:V=0
 ·rw [if_pos c,if_pos (by rw [← hP,c];simp)]
 ·have hp:P≠0:=by rw [← hP];exact Nat.mul_ne_zero (by omega) (Nat.ne_of_gt (Nat.two_pow_pos K))
  rw [if_neg c,if_neg hp,← hng c,← hP,rV_up _ _ _ _ _ _ (by decide),show (-1074:Int)+(K:Int)=0 from by omega]
  unfold rV
  rw [show ((0:Int)).toNat=0 from rfl,show (-(0:Int)).toNat=0 from rfl,Nat.pow_zero,Nat.mul_one,Nat.mul_one]
theorem abs_v (n n':Bool) (m m' K:Nat) (V:Int) (hV:V*((2 ^ K:Nat):Int)=Iv n m*Iv n' m'):V.natAbs*2 ^ K=Fq.vV Ieee.double m*Fq.vV Ieee.double m':=by
 have h1:=congrArg Int.natAbs hV
 rw [Int.natAbs_mul,Int.natAbs_mul,Int.natAbs_natCast,iv_abs,iv_abs] at h1
 exact h1
theorem vV_zero (m:Nat):Fq.vV Ieee.double m=0 ↔ m=0:=by
 unfold Fq.vV Fq.mM Fq.eE
 rw [Fq.binD]
 have:=Nat.two_pow_pos (if m<4503599627370496 then 0 else m / 4503599627370496 - 1)
 constructor
 ·intro h
  rcases Nat.mul_eq_zero.1 h with h | h
  ·split at h <;> omega
  ·omega
 ·intro h;subst h;simp
theorem two_dvd {T U:Nat} (hT:∃ E,T=2 ^ E) (hU:∃ e,U=2 ^ e) (h:U≤T):U ∣ T:=by
 obtain ⟨E,rfl⟩:=hT
 obtain ⟨e,rfl⟩:=hU
 exact Nat.pow_dvd_pow 2 ((Nat.pow_le_pow_iff_right (by decide)).1 h)
theorem two_half {T U:Nat} (hT:∃ E,T=2 ^ E) (hU:∃ e,U=2 ^ e) (h:T<2*U):T≤U:=by
 obtain ⟨E,rfl⟩:=hT
 obtain ⟨e,rfl⟩:=hU
 rw [Nat.mul_comm,← Nat.pow_succ] at h
 have:=(Nat.pow_lt_pow_iff_right (by decide)).1 h
 exact Nat.pow_le_pow_right (by decide) (by omega)
theorem sgn_mul (u p:Int) (hp:0<p):(u<0 ↔ u*p<0)∧(0<u ↔ 0<u*p):=by
 rcases Int.lt_trichotomy u 0 with c | c | c
 ·have:=Int.mul_neg_of_neg_of_pos c hp
  omega
 ·rw [c,Int.zero_mul];omega
 ·have:=Int.mul_pos c hp
  omega
theorem pw53:(2:Nat) ^ 53=9007199254740992:=by decide
theorem Nr.mag {v s:Int} {T:Nat} (h:Nr v s T) (h1:T≠1):4503599627370496*T≤s.natAbs:=by
 have hl:=h.low.resolve_left h1
 have hn:=h.near
 have hp:=h.pos
 obtain ⟨k,hk⟩:=h.dvd
 have e:s.natAbs=T*k.natAbs:=by rw [hk,Int.natAbs_mul,Int.natAbs_natCast]
 rw [e]
 rcases Nat.lt_or_ge k.natAbs 4503599627370496 with c | c
 ·exfalso
  have h5:T*k.natAbs≤T*4503599627370495:=Nat.mul_le_mul_left T (by omega)
  omega
 ·have h5:=Nat.mul_le_mul_left T c
  omega
theorem fl_neg {v:Int} (h:FL v):FL (-v):=by
 obtain ⟨k,h1,h2⟩:=h
 exact ⟨k,Int.dvd_neg.2 h1,by rw [Int.natAbs_neg];exact h2⟩
theorem fl_abs {v:Int} (h:FL ((v.natAbs:Nat):Int)):FL v:=by
 rcases Int.natAbs_eq v with e | e
 ·rw [e];exact h
 ·rw [e];exact fl_neg h
theorem odd_nat (A:Nat) (hA:¬ FL (A:Int)):∃ b q:Nat,q*2 ^ b<A∧A<(q+1)*2 ^ b∧4503599627370496*2 ^ b≤A∧rU (-1) 53 A 1=q*2 ^ b∧rU 1 53 A 1=(q+1)*2 ^ b∧((rgU 53 (rU 0 53 A 1) % 2=1∧((rU 0 53 A 1=q*2 ^ b∧q % 2=1)∨(rU 0 53 A 1=(q+1)*2 ^ b∧q % 2=0)))∨(rgU 53 (rU 0 53 A 1) % 2=0∧((rU 0 53 A 1=q*2 ^ b∧q % 2=0)∨(rU 0 53 A 1=(q+1)*2 ^ b∧q % 2=1)))):=by
 obtain ⟨E,hE⟩:∃ E,E=rE 53 A 1:=⟨_,rfl⟩
 obtain ⟨q,hq⟩:∃ q,q=rS 53 A 1:=⟨_,rfl⟩
 obtain ⟨r,hr⟩:∃ r,r=rR 53 A 1:=⟨_,rfl⟩
 obtain ⟨T,hT⟩:∃ T,T=2 ^ E:=⟨_,rfl⟩
 have hTp:0<T:=by rw [hT];exact Nat.two_pow_pos E
 have hAq:A=q*T+r:=by
  rw [hq,hr,hT,hE];unfold rS rR;rw [Nat.one_mul,Nat.mul_comm];exact (Nat.div_add_mod _ _).symm
 have hrl:r<T:=by rw [hr,hT,hE];unfold rR;rw [Nat.one_mul];exact Nat.mod_lt _ (Nat.two_pow_pos _)
 have h0:=rung_of A 0 E (q+(upw 0 q r T).toNat) hE (by rw [hq,hr,hT,hE,Nat.one_mul])
 have h1:=rung_of A 1 E (q+(upw 1 q r T).toNat) hE (by rw [hq,hr,hT,hE,Nat.one_mul])
 have h2:=rung_of A (-1) E (q+(upw (-1) q r T).toNat) hE (by rw [hq,hr,hT,hE,Nat.one_mul])
 rw [← hT] at h0 h1 h2
 have hr0:r≠0:=fun h=>hA (by
  rw [hAq,h,Nat.add_zero]
  have h3:=h2.2.1
  refine fl_of ⟨E,hT⟩ (Int.natCast_dvd_natCast.2 (Nat.dvd_mul_left _ _)) ?_
  rw [Int.natAbs_natCast]
  exact Nat.mul_le_mul_right _ (by omega))
 have e1:upw 1 q r T=true:=by unfold upw;simp;omega
 have e2:upw (-1) q r T=false:=by unfold upw;simp
 rw [e1] at h1
 rw [e2] at h2
 simp only [Bool.toNat_true,Bool.toNat_false,Nat.add_zero] at h1 h2
 have hx:(q+1)*T=q*T+T:=by rw [Nat.add_mul,Nat.one_mul]
 have hlow:4503599627370496*T≤A:=by
  have g:=(rn_nr A).low
  rw [← hE,← hT,Int.natAbs_natCast] at g
  rcases g with g | g
  ·omega
  ·exact g
 refine ⟨E,q, ?_⟩
 rw [← hT]
 refine ⟨by omega,by omega,hlow,h2.1,h1.1, ?_⟩
 rw [h0.2.2.2.2.1,h0.1]
 cases upw 0 q r T
 ·simp only [Bool.toNat_false,Nat.add_zero]
  rcases Nat.mod_two_eq_zero_or_one q with c | c
  ·right;exact ⟨by omega,Or.inl ⟨trivial,c⟩⟩
  ·left;exact ⟨by omega,Or.inl ⟨trivial,c⟩⟩
 ·simp only [Bool.toNat_true]
  rcases Nat.mod_two_eq_zero_or_one q with c | c
  ·left;exact ⟨by omega,Or.inr ⟨trivial,c⟩⟩
  ·right;exact ⟨by omega,Or.inr ⟨trivial,c⟩⟩
theorem odd_words (E:Int) (s o sz:Bool) (r ro K:Nat) (hK:53≤K) (hK2:K≤2096) (hv:E.natAbs<2 ^ K) (hr:r=rgU 53 (rU 0 53 E.natAbs 1)) (hs:s=(if E=0 then sz else decide (E<0))) (ho:Iv o ro=E - Iv s r) (hnf:¬ FL E) :
  ∃ (tn:Bool) (tr b k:Nat),tr<9218868437227405312∧k % 2=1∧4503599627370496*2 ^ b≤E.natAbs∧Iv tn tr=(if E<0 then -((k*2 ^ b:Nat):Int) else ((k*2 ^ b:Nat):Int))∧(E - Iv tn tr).natAbs<2 ^ b∧Fq.plz o ro≠0
   ∧ (r % 2=1→Fq.wD s r=Fq.wD tn tr)∧(r % 2=0→Fq.plz o ro<0→Fq.plz s r≠-9218868437227405312∧Fq.fD (Fq.plz s r - 1)=Fq.wD tn tr)∧(r % 2=0→0<Fq.plz o ro→Fq.plz s r≠9218868437227405312∧Fq.fD (Fq.plz s r+1)=Fq.wD tn tr):=by
 have hE0:E≠0:=fun h=>hnf (by rw [h];exact ⟨0,Int.dvd_zero _,by simp⟩)
 obtain ⟨A,hA⟩:∃ A,A=E.natAbs:=⟨_,rfl⟩
 have hAf:¬ FL (A:Int):=fun h=>hnf (fl_abs (by rw [← hA];exact h))
 obtain ⟨b,q,b1,b2,b3,u1,u2,u3⟩:=odd_nat A hAf
 have hsn:s=decide (E<0):=by rw [hs,if_neg hE0]
 rw [← hA] at hr hv
 have S1:=(step_w (-1) E s o sz r ro K hK hK2 (by rw [← hA];exact hv) (by rw [← hA];exact hr) hs ho).1 rfl
 have S2:=(step_w 1 E s o sz r ro K hK hK2 (by rw [← hA];exact hv) (by rw [← hA];exact hr) hs ho).2.1 rfl
 obtain ⟨hp1,hp2⟩:=iv_plz o ro
 have hU:=vV_rung A 0
 rw [← hr] at hU
 have hiv:Iv s r=if E<0 then -((rU 0 53 A 1:Nat):Int) else ((rU 0 53 A 1:Nat):Int):=by
  unfold Iv;rw [hU,hsn]
  by_cases c:E<0
  ·rw [decide_eq_true c,if_pos rfl,if_pos c]
  ·rw [decide_eq_false c,if_neg (by simp),if_neg c]
 have hx:(q+1)*2 ^ b=q*2 ^ b+2 ^ b:=by rw [Nat.add_mul,Nat.one_mul]
 obtain ⟨T,hT⟩:∃ T,T=2 ^ b:=⟨_,rfl⟩
 obtain ⟨Q,hQ⟩:∃ Q,Q=q*2 ^ b:=⟨_,rfl⟩
 -- the odd one is a directed rounding
 obtain ⟨k,dk,hk1,hkU,hkA⟩:∃ (k:Nat) (dk:Int),k % 2=1∧rU dk 53 A 1=k*2 ^ b∧((q % 2=1∧k=q∧dk = -1)∨(q % 2=0∧k=q+1∧dk=1)):=by
  rcases Nat.mod_two_eq_zero_or_one q with c | c
  ·exact ⟨q+1,1,by omega,u2,Or.inr ⟨c,rfl,rfl⟩⟩
  ·exact ⟨q,-1,c,u1,Or.inl ⟨c,rfl,rfl⟩⟩
 have hfin:∀ dd d2:Int,finU 53 2098 9218868437227405311 9218868437227405312 d2 (rU dd 53 A 1)=rgU 53 (rU dd 53 A 1)∧rgU 53 (rU dd 53 A 1)<9218868437227405312:=fun dd d2=>fin_small A dd d2 K hK (by omega) hv
 have hkv:Fq.vV Ieee.double (rgU 53 (k*2 ^ b))=k*2 ^ b:=by rw [← hkU];exact vV_rung A dk
 have hkpos:0<k*2 ^ b:=Nat.mul_pos (by omega) (Nat.two_pow_pos b)
 have hk0:rgU 53 (k*2 ^ b)≠0:=fun h=>by
  rw [h,(vV_pos 0).2 rfl] at hkv;omega
 have hkb:A<k*2 ^ b+2 ^ b∧k*2 ^ b<A+2 ^ b:=by
  rcases hkA with ⟨_,e,_⟩ | ⟨_,e,_⟩ <;> rw [e] <;> omega
 have hivk:Iv (decide (E<0)) (rgU 53 (k*2 ^ b))=(if E<0 then -((k*2 ^ b:Nat):Int) else ((k*2 ^ b:Nat):Int)):=by
  unfold Iv;rw [hkv]
  by_cases c:E<0
  ·rw [decide_eq_true c,if_pos rfl,if_pos c]
  ·rw [decide_eq_false c,if_neg (by simp),if_neg c]
 have hsum:∀ d:Int,rU (dirN (decide (E<0)) d) 53 A 1=k*2 ^ b→sumW d E=Fq.wD (decide (E<0)) (rgU 53 (k*2 ^ b)):=fun d h=>by
  unfold sumW
  rw [if_neg hE0,← hA,(hfin _ _).1,h]
  unfold mdW Fq.wD;rw [if_neg hk0]
 refine ⟨decide (E<0),rgU 53 (k*2 ^ b),b,k,by rw [← hkU];exact (hfin dk 0).2,hk1,by rw [← hA];exact b3,hivk, ?_, ?_, ?_, ?_, ?_⟩
 ·rw [hivk]
  by_cases c:E<0
  ·rw [if_pos c];omega
  ·rw [if_neg c];omega
 ·intro h0
  have:Iv o ro=0:=by omega
  rw [ho,hiv] at this
  rcases u3 with ⟨_,⟨e,_⟩ | ⟨e,_⟩⟩ | ⟨_,⟨e,_⟩ | ⟨e,_⟩⟩ <;> rw [e] at this <;> (by_cases c:E<0 <;> simp only [c,if_true,if_false] at this <;> omega)
 ·intro hodd
  rw [hsn,hr]
  congr 2
  rw [hr] at hodd
  rcases u3 with ⟨_,⟨e,f⟩ | ⟨e,f⟩⟩ | ⟨g,_⟩
  ·rw [e];rcases hkA with ⟨_,e2,_⟩ | ⟨c,_,_⟩
   ·rw [e2]
   ·omega
  ·rw [e];rcases hkA with ⟨c,_,_⟩ | ⟨_,e2,_⟩
   ·omega
   ·rw [e2]
  ·omega
 ·intro hev hneg
  obtain ⟨a1,a2⟩:=S1 hneg
  refine ⟨a1, ?_⟩
  rw [a2]
  apply hsum
  rw [← hp1,ho,hiv] at hneg
  rw [hr] at hev
  rcases u3 with ⟨g,_⟩ | ⟨_,⟨e,f⟩ | ⟨e,f⟩⟩
  ·omega
  ·rw [e] at hneg
   by_cases c:E<0
   ·rw [decide_eq_true c]
    rcases hkA with ⟨c2,_,_⟩ | ⟨_,e2,_⟩
    ·omega
    ·rw [e2];exact u2
   ·simp only [c,if_false] at hneg;omega
  ·rw [e] at hneg
   by_cases c:E<0
   ·simp only [c,if_true] at hneg;omega
   ·rw [decide_eq_false c]
    rcases hkA with ⟨_,e2,_⟩ | ⟨c2,_,_⟩
    ·rw [e2];exact u1
    ·omega
 ·intro hev hpos
  obtain ⟨a1,a2⟩:=S2 hpos
  refine ⟨a1, ?_⟩
  rw [a2]
  apply hsum
  rw [← hp2,ho,hiv] at hpos
  rw [hr] at hev
  rcases u3 with ⟨g,_⟩ | ⟨_,⟨e,f⟩ | ⟨e,f⟩⟩
  ·omega
  ·rw [e] at hpos
   by_cases c:E<0
   ·simp only [c,if_true] at hpos;omega
   ·rw [decide_eq_false c]
    rcases hkA with ⟨c2,_,_⟩ | ⟨_,e2,_⟩
    ·omega
    ·rw [e2];exact u2
  ·rw [e] at hpos
   by_cases c:E<0
   ·rw [decide_eq_true c]
    rcases hkA with ⟨_,e2,_⟩ | ⟨c2,_,_⟩
    ·rw [e2];exact u1
    ·omega
   ·simp only [c,if_false] at hpos;omega
theorem fuse_facts {P s1 Sm Hd Lst R2 E:Int} {T1 T2:Nat} (fP:FL P) (fL:FL Lst) (k1:Nr s1 Sm T1) (hL:Lst=s1 - Sm) (k2:Nr (P+Sm) Hd T2) (hR:R2=P+Sm - Hd) (hE:E=R2+Lst) (hne:¬ FL E):4503599627370496*T2≤Hd.natAbs∧2*E.natAbs≤3*T2:=by
 have r0:R2≠0:=fun h=>hne (by rw [hE,h,Int.zero_add];exact fL)
 have n2:=k2.near
 have hT2:2≤T2:=by omega
 refine ⟨k2.mag (by omega), ?_⟩
 have hT1:T1≤2*T2:=by
  refine Decidable.byContradiction fun hc=>?_
  have four:4*T2≤T1:=by
   refine Decidable.byContradiction fun h4=>hc ?_
   have h2:=two_times k2.two 1
   rw [Nat.pow_one] at h2
   exact two_half k1.two h2 (by omega)
  have l1:=k1.mag (by omega)
  have l2:=k2.lt
  obtain ⟨k,hk,hb⟩:=fP
  have hTk:T2≤2 ^ k:=by omega
  have d1:(T2:Int) ∣ P:=by
   refine Int.dvd_trans ?_ hk
   rw [← castpow]
   exact Int.natCast_dvd_natCast.2 (two_dvd ⟨k,rfl⟩ k2.two hTk)
  have d2:(T2:Int) ∣ Sm:=Int.dvd_trans (Int.natCast_dvd_natCast.2 (two_dvd k1.two k2.two (by omega))) k1.dvd
  have d3:(T2:Int) ∣ R2:=by rw [hR];exact Int.dvd_sub (Int.dvd_add d1 d2) k2.dvd
  exact r0 (dvd_small (by omega) d3 (by rw [Int.natAbs_natCast];omega))
 have n1:=k1.near
 omega
theorem fuse_nat (Hn:Nat) (e tl:Int) (T2 b k:Nat) (hT:∃ a,T2=2 ^ a) (hH:T2 ∣ Hn) (hH1:4503599627370496*T2≤Hn) (hE1:2*e.natAbs≤3*T2) (hE2:4503599627370496*2 ^ b≤e.natAbs) (hk:k % 2=1) (htl:tl=((k*2 ^ b:Nat):Int)∨tl = -((k*2 ^ b:Nat):Int)) (hd:(e - tl).natAbs<2 ^ b) (d:Int) :
  0<(Hn:Int)+e∧0<(Hn:Int)+tl∧rU d 53 ((Hn:Int)+e).natAbs 1=rU d 53 ((Hn:Int)+tl).natAbs 1:=by
 obtain ⟨t,ht⟩:∃ t,t=2 ^ b:=⟨_,rfl⟩
 have htp:0<t:=by rw [ht];exact Nat.two_pow_pos b
 rw [← ht] at hE2 htl hd
 have hbig:2251799813685248*t≤T2:=by omega
 -- the last even multiple below
 obtain ⟨j,hj⟩:∃ j:Int,tl=2*(t:Int)*j+t:=by
  rcases htl with h | h
  ·refine ⟨((k / 2:Nat):Int), ?_⟩
   have hk2:k=2*(k / 2)+1:=by omega
   rw [h]
   have:k*t=2*t*(k / 2)+t:=by
    conv=>lhs;rw [hk2]
    rw [Nat.add_mul,Nat.one_mul];ac_rfl
   rw [this];simp
  ·refine ⟨-((k / 2:Nat):Int) - 1, ?_⟩
   have hk2:k=2*(k / 2)+1:=by omega
   have:k*t=2*t*(k / 2)+t:=by
    conv=>lhs;rw [hk2]
    rw [Nat.add_mul,Nat.one_mul];ac_rfl
   rw [h,this,Int.mul_sub,Int.mul_neg]
   simp
   omega
 obtain ⟨g,hg⟩:∃ g,Hn=2*t*g:=by
  have hb1:∃ x,2*t=2 ^ x:=⟨b+1,by rw [ht,Nat.pow_succ,Nat.mul_comm]⟩
  exact Nat.dvd_trans (two_dvd hT hb1 (by omega)) hH
 obtain ⟨c,hc⟩:∃ c,c=2*t:=⟨_,rfl⟩
 have hgj:0≤(g:Int)+j:=by
  refine Decidable.byContradiction fun h=>?_
  have h1:(2*(t:Int))*((g:Int)+j)≤(2*(t:Int))*(-1):=Int.mul_le_mul_of_nonneg_left (by omega) (by omega)
  rw [Int.mul_add] at h1
  have h2:((Hn:Nat):Int)=2*(t:Int)*(g:Int):=by rw [hg];simp
  omega
 obtain ⟨h,hh⟩:=Int.eq_ofNat_of_zero_le hgj
 have hHi:((Hn:Nat):Int)=2*(t:Int)*(g:Int):=by rw [hg];simp
 have hhm:((h*c:Nat):Int)=2*(t:Int)*(g:Int)+2*(t:Int)*j:=by rw [← Int.mul_add,hh,hc,Int.natCast_mul,Int.mul_comm];simp
 obtain ⟨M,hM⟩:∃ M,M=h*c:=⟨_,rfl⟩
 rw [← hM] at hhm
 have eA':(Hn:Int)+tl=((M+t:Nat):Int):=by rw [hj];omega
 obtain ⟨l,hl⟩:∃ l:Nat,(Hn:Int)+e=((M+l:Nat):Int)∧0<l∧l<c:=by
  refine ⟨(e - (2*(t:Int)*j)).toNat, ?_⟩
  omega
 obtain ⟨eA,l1,l2⟩:=hl
 refine ⟨by omega,by omega, ?_⟩
 rw [eA,eA',Int.natAbs_natCast,Int.natAbs_natCast]
 obtain ⟨E,hE⟩:∃ E,E=rE 53 (M+l) 1:=⟨_,rfl⟩
 have hs:=(rE_spec 53 (M+l) 1 (by decide) (by decide)).1
 rw [← hE,Nat.one_mul,Nat.pow_add,pw53] at hs
 have hEb:b+2≤E:=by
  refine Decidable.byContradiction fun h9=>?_
  have:2 ^ E≤2 ^ (b+1):=Nat.pow_le_pow_right (by decide) (by omega)
  rw [Nat.pow_succ,← ht] at this
  omega
 refine rU_sticky d 53 (M+l) (M+t) 1 c h l t (2 ^ (E - b - 2)) (by decide) (by decide) (by rw [hM]) l2 (by rw [hM]) (by omega) ⟨fun h=>by omega,fun h=>by omega⟩ ?_
 rw [← hE,hc,ht,Nat.one_mul,show 2*(2*2 ^ b*2 ^ (E - b - 2))=2 ^ 2*2 ^ b*2 ^ (E - b - 2) from by rw [show (2:Nat) ^ 2=2*2 from rfl];ac_rfl,← Nat.pow_add,← Nat.pow_add]
 congr 1
 omega
theorem fuse_sum (Hd E tl:Int) (T2 b k:Nat) (hT:∃ a,T2=2 ^ a) (hH:(T2:Int) ∣ Hd) (hH1:4503599627370496*T2≤Hd.natAbs) (hE1:2*E.natAbs≤3*T2) (hE2:4503599627370496*2 ^ b≤E.natAbs) (hk:k % 2=1) (htl:tl=((k*2 ^ b:Nat):Int)∨tl = -((k*2 ^ b:Nat):Int)) (hd:(E - tl).natAbs<2 ^ b) (d:Int):sumW d (Hd+tl)=sumW d (Hd+E):=by
 have hHn:T2 ∣ Hd.natAbs:=Int.natCast_dvd_natCast.1 (Int.dvd_natAbs.2 hH)
 have hT0:0<T2:=by obtain ⟨a,rfl⟩:=hT;exact Nat.two_pow_pos a
 rcases Int.natAbs_eq Hd with e | e
 ·have h:=fun d=>fuse_nat Hd.natAbs E tl T2 b k hT hHn hH1 hE1 hE2 hk htl hd d
  rw [← e] at h
  obtain ⟨p1,p2,_⟩:=h 0
  unfold sumW
  rw [if_neg (by omega),if_neg (by omega),decide_eq_false (by omega),decide_eq_false (by omega),(h _).2.2]
 ·have h:=fun d=>fuse_nat Hd.natAbs (-E) (-tl) T2 b k hT hHn hH1 (by omega) (by omega) hk (by rcases htl with h | h <;> rw [h] <;> simp) (by omega) d
  have e1:((Hd.natAbs:Nat):Int) + -E = -(Hd+E):=by omega
  have e2:((Hd.natAbs:Nat):Int) + -tl = -(Hd+tl):=by omega
  rw [e1,e2] at h
  simp only [Int.natAbs_neg] at h
  obtain ⟨p1,p2,_⟩:=h 0
  unfold sumW
  rw [if_neg (by omega),if_neg (by omega),decide_eq_true (by omega),decide_eq_true (by omega),(h _).2.2]
theorem upw_mono (d:Int) (S r w r' w':Nat) (hw:0<w) (hw':0<w') (h:r*w'≤r'*w) (u:upw d S r w=true):upw d S r' w'=true:=by
 unfold upw at u ⊢
 by_cases c1:d=1
 ·rw [if_pos c1] at u ⊢
  have h0:0<r:=of_decide_eq_true u
  apply decide_eq_true
  have h1:0<r*w':=Nat.mul_pos h0 hw'
  rcases Nat.eq_zero_or_pos r' with e | e
  ·rw [e,Nat.zero_mul] at h;omega
  ·exact e
 ·rw [if_neg c1] at u ⊢
  by_cases c2:d = -1
  ·rw [if_pos c2] at u;cases u
  ·rw [if_neg c2] at u ⊢
   have key:∀ a b:Nat,a*w'≤b*w→w<2*a→w'<2*b:=by
    intro a b h1 h2
    rcases Nat.lt_or_ge w' (2*b) with g | g
    ·exact g
    ·exfalso
     have e1:2*b*w≤w'*w:=Nat.mul_le_mul_right _ g
     have e2:w*w'<2*a*w':=Nat.mul_lt_mul_of_pos_right h2 hw'
     have e3:2*a*w'≤2*b*w:=by rw [Nat.mul_assoc,Nat.mul_assoc];exact Nat.mul_le_mul_left _ h1
     rw [Nat.mul_comm w' w] at e1
     omega
   have key2:∀ a b:Nat,a*w'≤b*w→w=2*a→w'≤2*b:=by
    intro a b h1 h2
    rcases Nat.lt_or_ge (2*b) w' with g | g
    ·exfalso
     have e1:2*b*w<w'*w:=Nat.mul_lt_mul_of_pos_right g hw
     have e3:2*a*w'≤2*b*w:=by rw [Nat.mul_assoc,Nat.mul_assoc];exact Nat.mul_le_mul_left _ h1
     rw [← h2,Nat.mul_comm w w'] at e3
     omega
    ·exact g
   rw [Bool.or_eq_true,Bool.and_eq_true] at u ⊢
   rcases u with u | ⟨u1,u2⟩
   ·left
    exact decide_eq_true (key r r' h (of_decide_eq_true u))
   ·have e:=key2 r r' h (of_decide_eq_true u1)
    rcases Nat.lt_or_ge w' (2*r') with g | g
    ·left;exact decide_eq_true g
    ·right
     exact ⟨decide_eq_true (by omega),u2⟩
theorem rS_lt (p A B:Nat) (hB:0<B) (hp:0<p):rS p A B<2 ^ p∧(rE p A B=0∨2 ^ (p - 1)≤rS p A B):=by
 obtain ⟨h1,h2⟩:=rE_spec p A B hB hp
 have hq:0<B*2 ^ rE p A B:=Nat.mul_pos hB (Nat.two_pow_pos _)
 unfold rS
 refine ⟨?_, ?_⟩
 ·rw [Nat.div_lt_iff_lt_mul hq,Nat.mul_comm (2 ^ p),Nat.mul_assoc,← Nat.pow_add]
  exact h1
 ·rcases h2 with h2 | h2
  ·exact Or.inl h2
  ·by_cases c:rE p A B=0
   ·exact Or.inl c
   ·right
    rw [Nat.le_div_iff_mul_le hq,Nat.mul_comm (2 ^ (p - 1)),Nat.mul_assoc,← Nat.pow_add,show rE p A B+(p - 1)=rE p A B+p - 1 from by omega]
    exact h2
theorem rE_mono (p A B A' B':Nat) (hB:0<B) (hB':0<B') (h:A*B'≤A'*B):rE p A B≤rE p A' B':=by
 unfold rE
 have:A / B≤A' / B':=by
  rw [Nat.le_div_iff_mul_le hB']
  have e:A / B*B≤A:=Nat.div_mul_le_self A B
  have e2:A / B*B*B'≤A'*B:=Nat.le_trans (Nat.mul_le_mul_right _ e) h
  rw [Nat.mul_right_comm] at e2
  exact Nat.le_of_mul_le_mul_right e2 hB
 have:=blen_mono this
 omega
theorem rU_mono (d:Int) (p A B A' B':Nat) (hB:0<B) (hB':0<B') (hp:0<p) (h:A*B'≤A'*B):rU d p A B≤rU d p A' B':=by
 obtain ⟨s1,s2⟩:=rS_lt p A B hB hp
 obtain ⟨t1,t2⟩:=rS_lt p A' B' hB' hp
 have hE:=rE_mono p A B A' B' hB hB' h
 have hw:0<B*2 ^ rE p A B:=Nat.mul_pos hB (Nat.two_pow_pos _)
 have hw':0<B'*2 ^ rE p A' B':=Nat.mul_pos hB' (Nat.two_pow_pos _)
 have le1:∀ b:Bool,b.toNat≤1:=fun b=>by cases b <;> decide
 unfold rU
 by_cases c:rE p A B=rE p A' B'
 ·have hS:rS p A B≤rS p A' B':=by
   unfold rS
   rw [Nat.le_div_iff_mul_le hw']
   have e:A / (B*2 ^ rE p A B)*(B*2 ^ rE p A B)≤A:=Nat.div_mul_le_self _ _
   have e2:A / (B*2 ^ rE p A B)*(B*2 ^ rE p A B)*B'≤A'*B:=Nat.le_trans (Nat.mul_le_mul_right _ e) h
   rw [← c]
   generalize A / (B*2 ^ rE p A B)=q at *
   generalize 2 ^ rE p A B=P at *
   have e3:q*(B*P)*B'=q*(B'*P)*B:=by ac_rfl
   rw [e3] at e2
   exact Nat.le_of_mul_le_mul_right e2 hB
  rw [← c]
  apply Nat.mul_le_mul_right
  rcases Nat.lt_or_ge (rS p A B) (rS p A' B') with g | g
  ·have:=le1 (upw d (rS p A B) (rR p A B) (B*2 ^ rE p A B))
   omega
  ·have e:rS p A B=rS p A' B':=by omega
   rw [← e]
   have hu:upw d (rS p A B) (rR p A B) (B*2 ^ rE p A B)=true→upw d (rS p A B) (rR p A' B') (B'*2 ^ rE p A B)=true:=by
    apply upw_mono d _ _ _ _ _ hw (by rw [c];exact hw')
    have d1:=Nat.div_add_mod A (B*2 ^ rE p A B)
    have d2:=Nat.div_add_mod A' (B'*2 ^ rE p A' B')
    have q1:A / (B*2 ^ rE p A B)=rS p A B:=rfl
    have q2:A' / (B'*2 ^ rE p A' B')=rS p A B:=e.symm
    have q3:A % (B*2 ^ rE p A B)=rR p A B:=rfl
    have q4:A' % (B'*2 ^ rE p A' B')=rR p A' B':=rfl
    rw [q1,q3] at d1
    rw [q2,q4,← c] at d2
    generalize rR p A B=r at *
    generalize rR p A' B'=r' at *
    generalize rS p A B=q at *
    generalize 2 ^ rE p A B=P at *
    have f1:A*(B'*P)=(B*P)*q*(B'*P)+r*(B'*P):=by rw [← d1,Nat.add_mul]
    have f2:A'*(B*P)=(B'*P)*q*(B*P)+r'*(B*P):=by rw [← d2,Nat.add_mul]
    have f3:A*(B'*P)≤A'*(B*P):=by rw [← Nat.mul_assoc,← Nat.mul_assoc];exact Nat.mul_le_mul_right _ h
    have f4:(B*P)*q*(B'*P)=(B'*P)*q*(B*P):=by ac_rfl
    omega
   cases hx:upw d (rS p A B) (rR p A B) (B*2 ^ rE p A B)
   ·simp
   ·rw [hu hx];exact Nat.le_refl _
 ·have hlt:rE p A B<rE p A' B':=by omega
  have t3:2 ^ (p - 1)≤rS p A' B':=t2.resolve_left (by omega)
  have g1:(rS p A B+(upw d (rS p A B) (rR p A B) (B*2 ^ rE p A B)).toNat)*2 ^ rE p A B≤2 ^ p*2 ^ rE p A B:=by
   apply Nat.mul_le_mul_right
   have:=le1 (upw d (rS p A B) (rR p A B) (B*2 ^ rE p A B))
   omega
  have g2:2 ^ p*2 ^ rE p A B≤2 ^ (p - 1)*2 ^ rE p A' B':=by
   rw [← Nat.pow_add,← Nat.pow_add]
   exact Nat.pow_le_pow_right (by decide) (by omega)
  have g3:2 ^ (p - 1)*2 ^ rE p A' B'≤(rS p A' B'+(upw d (rS p A' B') (rR p A' B') (B'*2 ^ rE p A' B')).toNat)*2 ^ rE p A' B':=by
   apply Nat.mul_le_mul_right
   omega
  omega
theorem rgU_mono (p U U':Nat) (hp:0<p) (h:U≤U'):rgU p U≤rgU p U':=by
 have hb:=blen_mono h
 unfold rgU
 by_cases c:blen U - p=blen U' - p
 ·rw [c]
  exact Nat.add_le_add_left (Nat.div_le_div_right h) _
 ·have hlt:blen U - p<blen U' - p:=by omega
  have u1:U / 2 ^ (blen U - p)<2 ^ p:=by
   rw [Nat.div_lt_iff_lt_mul (Nat.two_pow_pos _),← Nat.pow_add]
   exact Nat.lt_of_lt_of_le ((blen_le_iff U (blen U)).1 (Nat.le_refl _)) (Nat.pow_le_pow_right (by decide) (by omega))
  have u2:2 ^ (p - 1)≤U' / 2 ^ (blen U' - p):=by
   rw [Nat.le_div_iff_mul_le (Nat.two_pow_pos _),← Nat.pow_add]
   rcases Nat.lt_or_ge U' (2 ^ (p - 1+(blen U' - p))) with g | g
   ·have:=(blen_le_iff U' _).2 g
    omega
   ·exact g
  have e:(2:Nat) ^ p=2*2 ^ (p - 1):=by rw [show p=p - 1+1 from by omega,Nat.pow_succ,Nat.add_sub_cancel];omega
  have m1:(blen U - p+1)*2 ^ (p - 1)≤(blen U' - p)*2 ^ (p - 1):=Nat.mul_le_mul_right _ (by omega)
  rw [Nat.add_mul,Nat.one_mul] at m1
  omega
theorem rgU_top (p T U:Nat) (hp:0<p) (hT:p≤T) (h:blen U≤T):rgU p U<(T - p+2)*2 ^ (p - 1):=by
 have u1:U / 2 ^ (blen U - p)<2 ^ p:=by
  rw [Nat.div_lt_iff_lt_mul (Nat.two_pow_pos _),← Nat.pow_add]
  exact Nat.lt_of_lt_of_le ((blen_le_iff U (blen U)).1 (Nat.le_refl _)) (Nat.pow_le_pow_right (by decide) (by omega))
 have e:(2:Nat) ^ p=2*2 ^ (p - 1):=by rw [show p=p - 1+1 from by omega,Nat.pow_succ,Nat.add_sub_cancel];omega
 unfold rgU
 have m1:(blen U - p)*2 ^ (p - 1)≤(T - p)*2 ^ (p - 1):=Nat.mul_le_mul_right _ (by omega)
 rw [Nat.add_mul]
 omega
theorem finG_mono (p T G I:Nat) (d:Int) (U U':Nat) (hp:0<p) (hT:p≤T) (hG:(T - p+2)*2 ^ (p - 1)=G+1) (hI:G+1=I) (h:U≤U'):finU p T G I d U≤finU p T G I d U'∧finU p T G I d U'≤I:=by
 have hb:=blen_mono h
 have k:∀ X,blen X≤T→rgU p X≤G:=fun X hX=>by have:=rgU_top p T X hp hT hX;omega
 unfold finU
 by_cases c2:blen U'≤T
 ·rw [if_pos c2,if_pos (by omega)]
  have:=k U' c2
  exact ⟨rgU_mono p U U' hp h,by omega⟩
 ·rw [if_neg c2]
  by_cases c1:blen U≤T
  ·rw [if_pos c1]
   have:=k U c1
   split <;> omega
  ·rw [if_neg c1]
   split <;> omega
def gpl (p T G I:Nat) (d:Int) (c1 c2:Nat) (V:Int):Int:=if V=0 then 0 else (if V<0 then -((finU p T G I (dirN true d) (rU (dirN true d) p (V.natAbs*c1) c2):Nat):Int) else ((finU p T G I (dirN false d) (rU (dirN false d) p (V.natAbs*c1) c2):Nat):Int))
theorem gpl_mono (p T G I:Nat) (d:Int) (c1 c2:Nat) (hc:0<c2) (hp:0<p) (hT:p≤T) (hG:(T - p+2)*2 ^ (p - 1)=G+1) (hI:G+1=I) (V V':Int) (h:V≤V'):gpl p T G I d c1 c2 V≤gpl p T G I d c1 c2 V':=by
 have mn:∀ (s:Bool) (a b:Nat),a≤b→finU p T G I (dirN s d) (rU (dirN s d) p (a*c1) c2)≤finU p T G I (dirN s d) (rU (dirN s d) p (b*c1) c2):=fun s a b hab =>
  (finG_mono p T G I (dirN s d) _ _ hp hT hG hI (rU_mono (dirN s d) p (a*c1) c2 (b*c1) c2 hc hc hp (Nat.mul_le_mul_right _ (Nat.mul_le_mul_right _ hab)))).1
 unfold gpl
 by_cases z:V=0
 ·rw [if_pos z]
  by_cases z':V'=0
  ·rw [if_pos z'];exact Int.le_refl _
  ·rw [if_neg z',if_neg (by omega)];omega
 ·rw [if_neg z]
  by_cases n:V<0
  ·rw [if_pos n]
   by_cases z':V'=0
   ·rw [if_pos z'];omega
   ·rw [if_neg z']
    by_cases n':V'<0
    ·rw [if_pos n']
     have:=mn true V'.natAbs V.natAbs (by omega)
     omega
    ·rw [if_neg n'];omega
  ·rw [if_neg n,if_neg (show ¬ V'=0 by omega),if_neg (show ¬ V'<0 by omega)]
   have:=mn false V.natAbs V'.natAbs (by omega)
   omega
theorem gpl_le (p T G I:Nat) (d:Int) (c1 c2:Nat) (hp:0<p) (hT:p≤T) (hG:(T - p+2)*2 ^ (p - 1)=G+1) (hI:G+1=I) (V:Int):-(I:Int)≤gpl p T G I d c1 c2 V∧gpl p T G I d c1 c2 V≤I:=by
 have k:=fun d U=>(finG_mono p T G I d U U hp hT hG hI (Nat.le_refl _)).2
 unfold gpl
 split
 ·omega
 ·split
  ·have:=k (dirN true d) (rU (dirN true d) p (V.natAbs*c1) c2)
   omega
  ·have:=k (dirN false d) (rU (dirN false d) p (V.natAbs*c1) c2)
   omega
theorem rgU_place (p S E:Nat) (hp:0<p) (hS:S≤2 ^ p) (hE:E=0∨2 ^ (p - 1)≤S):rgU p (S*2 ^ E)=E*2 ^ (p - 1)+S:=by
 have ep:(2:Nat) ^ p=2*2 ^ (p - 1):=by rw [show p=p - 1+1 from by omega,Nat.pow_succ,Nat.add_sub_cancel];omega
 have pp:=Nat.two_pow_pos (p - 1)
 have full:∀ X x:Nat,2 ^ (p - 1)≤X→X<2 ^ p→rgU p (X*2 ^ x)=x*2 ^ (p - 1)+X:=by
  intro X x h1 h2
  have b1:blen X≤p:=(blen_le_iff X p).2 h2
  have b2:¬ blen X≤p - 1:=fun h=>by have:=(blen_le_iff X (p - 1)).1 h;omega
  have b3:p - blen X=0:=by omega
  rw [rgU_mul p X x 0 (by omega) (by rw [b3,Nat.zero_min]) b1,Nat.sub_zero,Nat.pow_zero,Nat.mul_one]
 by_cases c:S=2 ^ p
 ·have e:S*2 ^ E=2 ^ (p - 1)*2 ^ (E+1):=by
   rw [c,ep,Nat.pow_succ];ac_rfl
  rw [e,full _ _ (Nat.le_refl _) (by omega),c,ep,Nat.add_mul,Nat.one_mul,Nat.two_mul]
  omega
 ·have hlt:S<2 ^ p:=by omega
  rcases hE with h | h
  ·rw [h,Nat.pow_zero,Nat.mul_one,Nat.zero_mul,Nat.zero_add]
   by_cases z:S=0
   ·rw [z,rgU_zero]
   ·have h1:=rgU_mul p S 0 0 z (by omega) ((blen_le_iff S p).2 hlt)
    rw [Nat.pow_zero,Nat.mul_one,Nat.sub_zero,Nat.zero_mul,Nat.zero_add] at h1
    exact h1
  ·exact full S E h hlt
def TU (I:Nat) (v:Nat→Nat) (A B lo hi ne:Nat):Prop:=(lo=hi∧ne=lo∧lo<I∧v lo*B=A)∨(hi=lo+1∧lo<I∧v lo*B<A∧(hi<I→A<v hi*B)∧((2*A<(v lo+v hi)*B∧ne=lo)∨((v lo+v hi)*B<2*A∧ne=hi)∨(2*A=(v lo+v hi)*B∧(ne=lo∨ne=hi)∧ne % 2=0)))
theorem tightU (p T G I:Nat) (v:Nat→Nat) (hv:∀ E S:Nat,S≤2 ^ p→(E=0∨2 ^ (p - 1)≤S)→v (E*2 ^ (p - 1)+S)=S*2 ^ E) (A B:Nat) (hB:0<B) (hp:2≤p) (hT:p≤T) (hG:(T - p+2)*2 ^ (p - 1)=G+1) (hI:G+1=I) :
  TU I v A B (finU p T G I (-1) (rU (-1) p A B)) (finU p T G I 1 (rU 1 p A B)) (finU p T G I 0 (rU 0 p A B)):=by
 obtain ⟨s1,s2⟩:=rS_lt p A B hB (by omega)
 have ep:(2:Nat) ^ p=2*2 ^ (p - 1):=by rw [show p=p - 1+1 from by omega,Nat.pow_succ,Nat.add_sub_cancel];omega
 have pp:=Nat.two_pow_pos (p - 1)
 have hw:0<B*2 ^ rE p A B:=Nat.mul_pos hB (Nat.two_pow_pos _)
 have d1:=Nat.div_add_mod A (B*2 ^ rE p A B)
 have dr:=Nat.mod_lt A hw
 have q1:A / (B*2 ^ rE p A B)=rS p A B:=rfl
 have q3:A % (B*2 ^ rE p A B)=rR p A B:=rfl
 rw [q1,q3] at d1
 rw [q3] at dr
 have hGp:(T - p)*2 ^ (p - 1)+(2 ^ p - 1)=G:=by
  rw [Nat.add_mul] at hG;omega
 unfold rU
 generalize rS p A B=S at *
 generalize rR p A B=R at *
 generalize rE p A B=E at *
 clear q1 q3
 by_cases ct:E+p≤T
 ·have fin:∀ (d:Int) (u:Bool),(d = -1→u=false)→finU p T G I d ((S+u.toNat)*2 ^ E)=E*2 ^ (p - 1)+(S+u.toNat):=by
   intro d u hd
   have hS1:S+u.toNat≤2 ^ p:=by cases u <;> simp <;> omega
   have hE1:E=0∨2 ^ (p - 1)≤S+u.toNat:=by rcases s2 with h | h;exact Or.inl h;exact Or.inr (by omega)
   unfold finU
   by_cases cb:blen ((S+u.toNat)*2 ^ E)≤T
   ·rw [if_pos cb]
    exact rgU_place p _ E (by omega) hS1 hE1
   ·rw [if_neg cb]
    have hge:2 ^ T≤(S+u.toNat)*2 ^ E:=by
     rcases Nat.lt_or_ge ((S+u.toNat)*2 ^ E) (2 ^ T) with h | h
     ·exact absurd ((blen_le_iff _ T).2 h) cb
     ·exact h
    have hle:(2:Nat) ^ p*2 ^ E≤2 ^ T:=by rw [← Nat.pow_add];exact Nat.pow_le_pow_right (by decide) (by omega)
    have hPE:=Nat.two_pow_pos E
    have hSe:S+u.toNat=2 ^ p:=by
     rcases Nat.lt_or_ge (S+u.toNat) (2 ^ p) with h | h
     ·have:=Nat.mul_lt_mul_of_pos_right h hPE
      omega
     ·omega
    have hu:u=true:=by cases u <;> simp at hSe ⊢;omega
    have hdn:d≠-1:=fun h=>by rw [hd h] at hu;cases hu
    rw [if_neg hdn,hSe]
    have hET:E=T - p:=by
     rcases Nat.lt_or_ge (E+p) T with h | h
     ·have:(2:Nat) ^ (p+E)<2 ^ T:=Nat.pow_lt_pow_right (by decide) (by omega)
      rw [hSe,← Nat.pow_add] at hge
      omega
     ·omega
    rw [hET];omega
  have up1:upw (-1) S R (B*2 ^ E)=false:=rfl
  have up2:upw 1 S R (B*2 ^ E)=decide (0<R):=rfl
  have up3:upw 0 S R (B*2 ^ E)=(decide (B*2 ^ E<2*R) || (decide (B*2 ^ E=2*R) && decide (S % 2=1))):=rfl
  rw [fin (-1) _ (fun _=>up1),fin 1 _ (fun h=>absurd h (by decide)),fin 0 _ (fun h=>absurd h (by decide)),up1,up2,up3]
  have hlo:E*2 ^ (p - 1)+S<I:=by
   have:E*2 ^ (p - 1)≤(T - p)*2 ^ (p - 1):=Nat.mul_le_mul_right _ (by omega)
   omega
  have v1:=hv E S (by omega) s2
  have v2:=hv E (S+1) (by omega) (by rcases s2 with h | h;exact Or.inl h;exact Or.inr (by omega))
  have w1:v (E*2 ^ (p - 1)+S)*B=B*2 ^ E*S:=by rw [v1];ac_rfl
  have w2:v (E*2 ^ (p - 1)+(S+1))*B=B*2 ^ E*S+B*2 ^ E:=by rw [v2,← Nat.mul_succ];ac_rfl
  have ev:E*2 ^ (p - 1) % 2=0:=by
   rw [show p - 1=p - 2+1 from by omega,Nat.pow_succ,← Nat.mul_assoc];exact Nat.mul_mod_left _ _
  generalize E*2 ^ (p - 1)=Z at *
  generalize B*2 ^ E=W at *
  generalize W*S=WS at *
  have t0:false.toNat=0:=rfl
  have t1:true.toNat=1:=rfl
  by_cases cR:R=0
  ·left
   rw [decide_eq_false (show ¬ 0<R by omega),decide_eq_false (show ¬ W<2*R by omega),decide_eq_false (show ¬ W=2*R by omega),Bool.false_and,Bool.or_false,t0,Nat.add_zero]
   exact ⟨rfl,rfl,hlo,by omega⟩
  ·right
   rw [decide_eq_true (show 0<R by omega),t0,t1,show S+0=S from rfl]
   refine ⟨by omega,hlo,by omega,fun _=>by omega, ?_⟩
   rw [Nat.add_mul,w1,w2]
   by_cases c1:W<2*R
   ·rw [decide_eq_true c1,Bool.true_or,t1]
    exact Or.inr (Or.inl ⟨by omega,rfl⟩)
   ·rw [decide_eq_false c1,Bool.false_or]
    by_cases c2:W=2*R
    ·rw [decide_eq_true c2,Bool.true_and]
     refine Or.inr (Or.inr ⟨by omega, ?_⟩)
     by_cases c3:S % 2=1
     ·rw [decide_eq_true c3,t1];exact ⟨Or.inr rfl,by omega⟩
     ·rw [decide_eq_false c3,t0];exact ⟨Or.inl rfl,by omega⟩
    ·rw [decide_eq_false c2,Bool.false_and,t0]
     exact Or.inl ⟨by omega,rfl⟩
 ·have hS0:2 ^ (p - 1)≤S:=s2.resolve_left (by omega)
  have big:(2:Nat) ^ T≤S*2 ^ E:=by
   have h1:(2:Nat) ^ (p - 1)*2 ^ E≤S*2 ^ E:=Nat.mul_le_mul_right _ hS0
   rw [← Nat.pow_add] at h1
   exact Nat.le_trans (Nat.pow_le_pow_right (by decide) (by omega)) h1
  have nb:∀ u:Bool,¬ blen ((S+u.toNat)*2 ^ E)≤T:=fun u h=>by
   have h2:=(blen_le_iff _ T).1 h
   have h3:S*2 ^ E≤(S+u.toNat)*2 ^ E:=Nat.mul_le_mul_right _ (by omega)
   omega
  have f1:∀ u:Bool,finU p T G I (-1) ((S+u.toNat)*2 ^ E)=G:=fun u=>by unfold finU;rw [if_neg (nb u),if_pos rfl]
  have f2:∀ u:Bool,finU p T G I 1 ((S+u.toNat)*2 ^ E)=I:=fun u=>by unfold finU;rw [if_neg (nb u),if_neg (by decide)]
  have f3:∀ u:Bool,finU p T G I 0 ((S+u.toNat)*2 ^ E)=I:=fun u=>by unfold finU;rw [if_neg (nb u),if_neg (by decide)]
  rw [f1,f2,f3]
  right
  have v1:=hv (T - p) (2 ^ p - 1) (by omega) (Or.inr (by omega))
  have v2:=hv (T - p) (2 ^ p) (Nat.le_refl _) (Or.inr (by omega))
  rw [hGp] at v1
  rw [show (T - p)*2 ^ (p - 1)+2 ^ p=I from by omega,← Nat.pow_add,show p+(T - p)=T from by omega] at v2
  have vl:v G<2 ^ T:=by
   rw [v1,show (2:Nat) ^ T=2 ^ p*2 ^ (T - p) from by rw [← Nat.pow_add];exact congrArg _ (by omega)]
   exact Nat.mul_lt_mul_of_pos_right (by omega) (Nat.two_pow_pos _)
  have hA:B*2 ^ T≤A:=by
   have h1:B*2 ^ T≤B*(S*2 ^ E):=Nat.mul_le_mul_left _ big
   have h2:B*(S*2 ^ E)=B*2 ^ E*S:=by ac_rfl
   omega
  have h4:v G*B<2 ^ T*B:=Nat.mul_lt_mul_of_pos_right vl hB
  rw [Nat.mul_comm B] at hA
  refine ⟨by omega,by omega,by omega,fun h=>by omega,Or.inr (Or.inl ⟨?_,rfl⟩)⟩
  rw [Nat.add_mul,v2]
  omega
def TS (I:Nat) (v:Nat→Nat) (A B:Int) (lo hi ne:Int):Prop:=∀ vs:Int→Int,(∀ z:Int,0≤z→vs z=(v z.natAbs:Int))→(∀ z:Int,vs (-z) = - vs z)→(lo=hi∧ne=lo∧-(I:Int)<lo∧lo<I∧vs lo*B=A)∨(hi=lo+1∧-(I:Int)≤lo∧hi≤I∧(-(I:Int)<lo→vs lo*B<A)∧(hi<I→A<vs hi*B)∧((2*A<(vs lo+vs hi)*B∧ne=lo)∨((vs lo+vs hi)*B<2*A∧ne=hi)∨(2*A=(vs lo+vs hi)*B∧(ne=lo∨ne=hi)∧ne % 2=0)))
theorem TU.pos {I:Nat} {v:Nat→Nat} {A B lo hi ne:Nat} (h:TU I v A B lo hi ne):TS I v (A:Int) (B:Int) (lo:Int) (hi:Int) (ne:Int):=by
 intro vs h1 h2
 have e1:vs (lo:Int)=(v lo:Int):=by rw [h1 _ (by omega)];rfl
 have e2:vs (hi:Int)=(v hi:Int):=by rw [h1 _ (by omega)];rfl
 rw [e1,e2]
 rcases h with ⟨a1,a2,a3,a4⟩ | ⟨a1,a2,a3,a4,a5⟩
 ·left
  refine ⟨by omega,by omega,by omega,by omega, ?_⟩
  rw [← a4,Int.natCast_mul]
 ·right
  have m1:((v lo*B:Nat):Int)=(v lo:Int)*(B:Int):=Int.natCast_mul _ _
  have m2:((v hi*B:Nat):Int)=(v hi:Int)*(B:Int):=Int.natCast_mul _ _
  rw [Nat.add_mul] at a5
  rw [Int.add_mul,← m1,← m2]
  generalize v lo*B=X at *
  generalize v hi*B=Y at *
  refine ⟨by omega,by omega,by omega,fun _=>by omega,fun h=>?_, ?_⟩
  ·have:=a4 (by omega);omega
  ·omega
theorem TU.neg {I:Nat} {v:Nat→Nat} {A B lo hi ne:Nat} (h:TU I v A B lo hi ne):TS I v (-(A:Int)) (B:Int) (-(hi:Int)) (-(lo:Int)) (-(ne:Int)):=by
 intro vs h1 h2
 have e1:vs (-(lo:Int)) = -(v lo:Int):=by rw [h2,h1 _ (by omega)];rfl
 have e2:vs (-(hi:Int)) = -(v hi:Int):=by rw [h2,h1 _ (by omega)];rfl
 rw [e1,e2]
 have m1:((v lo*B:Nat):Int)=(v lo:Int)*(B:Int):=Int.natCast_mul _ _
 have m2:((v hi*B:Nat):Int)=(v hi:Int)*(B:Int):=Int.natCast_mul _ _
 rcases h with ⟨a1,a2,a3,a4⟩ | ⟨a1,a2,a3,a4,a5⟩
 ·left
  refine ⟨by omega,by omega,by omega,by omega, ?_⟩
  rw [Int.neg_mul,← m2,← a1,a4]
 ·right
  rw [Nat.add_mul] at a5
  rw [Int.add_mul,Int.neg_mul,Int.neg_mul,← m1,← m2]
  generalize v lo*B=X at *
  generalize v hi*B=Y at *
  refine ⟨by omega,by omega,by omega,fun h=>?_,fun _=>by omega, ?_⟩
  ·have:=a4 (by omega);omega
  ·omega
theorem gpl_tight (p T G I:Nat) (v:Nat→Nat) (hv:∀ E S:Nat,S≤2 ^ p→(E=0∨2 ^ (p - 1)≤S)→v (E*2 ^ (p - 1)+S)=S*2 ^ E) (c1 c2:Nat) (hB:0<c2) (hp:2≤p) (hT:p≤T) (hG:(T - p+2)*2 ^ (p - 1)=G+1) (hI:G+1=I) (V:Int) :
  TS I v (V*c1) (c2:Int) (gpl p T G I (-1) c1 c2 V) (gpl p T G I 1 c1 c2 V) (gpl p T G I 0 c1 c2 V):=by
 have k:=tightU p T G I v hv (V.natAbs*c1) c2 hB hp hT hG hI
 unfold gpl
 by_cases z:V=0
 ·rw [if_pos z,if_pos z,if_pos z]
  intro vs h1 h2
  have v0:=hv 0 0 (Nat.zero_le _) (Or.inl rfl)
  rw [Nat.zero_mul,Nat.zero_mul] at v0
  left
  refine ⟨rfl,rfl,by omega,by omega, ?_⟩
  rw [h1 0 (by omega),show (0:Int).natAbs=0+0 from rfl,v0,z]
  simp
 ·rw [if_neg z,if_neg z,if_neg z]
  by_cases n:V<0
  ·rw [if_pos n,if_pos n,if_pos n]
   have e:V*(c1:Int) = -((V.natAbs*c1:Nat):Int):=by
    rw [Int.natCast_mul,show (V.natAbs:Int) = -V from by omega,Int.neg_mul,Int.neg_neg]
   rw [e]
   exact k.neg
  ·rw [if_neg n,if_neg n,if_neg n]
   have e:V*(c1:Int)=((V.natAbs*c1:Nat):Int):=by
    rw [Int.natCast_mul,show (V.natAbs:Int)=V from by omega]
   rw [e]
   exact k.pos
theorem raddVG_ (U U':Int) (va vb:Nat) (K:Nat) (sa sb:Bool) (a1 a2 b1 b2:Nat) (P1 P2 Q1 Q2:Option Addr) (C1 C2 D1 D2:Nat) (w:World) (h1:Arr w P1 (dig a1)) (l1:(dig a1).length≤C1) (h2:Arr w P2 (dig a2)) (l2:(dig a2).length≤C2) (h3:Arr w Q1 (dig b1)) (l3:(dig b1).length≤D1) (h4:Arr w Q2 (dig b2)) (l4:(dig b2).length≤D2) (ha:a2≠0∧a1*2 ^ K=va*a2∧U=(if sa then -((va:Nat):Int) else ((va:Nat):Int))∧blen a1≤1500∧blen a2≤1500) (hb:b2≠0∧b1*2 ^ K=vb*b2∧U'=(if sb then -((vb:Nat):Int) else ((vb:Nat):Int))∧blen b1≤1500∧blen b2≤1500) :
  Calls Tryz.prog 151 #[.agg #[.bool sa,.slice P1 (dig a1).length C1,.slice P2 (dig a2).length C2],.agg #[.bool sb,.slice Q1 (dig b1).length D1,.slice Q2 (dig b2).length D2]] w fun e w'=>∃ (vn vd:Value) (a' b':Nat) (ng:Bool),e=.returned (.agg #[.bool ng,vn,vd])∧Own w' w.heap.size vn (dig a')∧Own w' w.heap.size vd (dig b')∧((a'*2 ^ K=(U+U').natAbs*b'∧(U+U'≠0→ng=decide (U+U'<0)))∧b'≠0∧blen a'≤100000∧blen b'≤100000)∧Kp w w':=by
 obtain ⟨za,ea,ia,ba1,ba2⟩:=ha
 obtain ⟨zb,eb,ib,bb1,bb2⟩:=hb
 obtain ⟨X,hX⟩:∃ X,X=a1*b2:=⟨_,rfl⟩
 obtain ⟨Y,hY⟩:∃ Y,Y=b1*a2:=⟨_,rfl⟩
 obtain ⟨D,hD⟩:∃ D,D=a2*b2:=⟨_,rfl⟩
 have hzD:D≠0:=by rw [hD];exact Nat.mul_ne_zero za zb
 have eX:X*2 ^ K=va*D:=by rw [hX,hD,Nat.mul_right_comm,ea,Nat.mul_assoc]
 have eY:Y*2 ^ K=vb*D:=by rw [hY,hD,Nat.mul_right_comm,eb,Nat.mul_assoc,Nat.mul_comm b2 a2]
 have bl:∀ u v:Nat,blen u≤1500→blen v≤1500→blen (u*v)≤3000:=fun u v h1 h2=>by
  obtain ⟨T5,hT5⟩:∃ T5:Nat,T5=1500:=⟨_,rfl⟩
  have g:blen (u*v)≤T5+T5:=by
   rw [blen_le_iff,Nat.pow_add]
   exact Nat.mul_lt_mul'' ((blen_le_iff u T5).1 (by omega)) ((blen_le_iff v T5).1 (by omega))
  omega
 have bX:blen X≤3000:=by rw [hX];exact bl _ _ ba1 bb2
 have bY:blen Y≤3000:=by rw [hY];exact bl _ _ bb1 ba2
 have bD:blen D≤3000:=by rw [hD];exact bl _ _ ba2 bb2
 obtain ⟨T9,hT9⟩:∃ T9:Nat,T9=3000:=⟨_,rfl⟩
 have bS:∀ c,c≤X+Y→blen c≤T9+1:=fun c hc=>by
  have g1:=(blen_le_iff X T9).1 (by omega)
  have g2:=(blen_le_iff Y T9).1 (by omega)
  rw [blen_le_iff,Nat.pow_succ];omega
 have lX:len32 X≤16000:=dlen X 16000 (by omega)
 have lY:len32 Y≤16000:=dlen Y 16000 (by omega)
 have lD:len32 D≤16000:=dlen D 16000 (by omega)
 have lS:len32 (X+Y)≤16000:=dlen (X+Y) 16000 (by have:=bS (X+Y) (Nat.le_refl _);omega)
 have k1:len32 a1≤4000:=dlen a1 4000 (by omega)
 have k2:len32 a2≤4000:=dlen a2 4000 (by omega)
 have k3:len32 b1≤4000:=dlen b1 4000 (by omega)
 have k4:len32 b2≤4000:=dlen b2 4000 (by omega)
 have fin:∀ (x:Nat) (neg:Bool) (a' b':Nat) (ng:Bool),x≤X+Y→x*2 ^ K=(U+U').natAbs*D→(U+U'≠0→neg=decide (U+U'<0))→(FracOf x D 0 a' b'∧(x≠0→ng=neg))→((a'*2 ^ K=(U+U').natAbs*b'∧(U+U'≠0→ng=decide (U+U'<0)))∧b'≠0∧blen a'≤100000∧blen b'≤100000):=fun x neg a' b' ng hx hv hn hF=>by
  refine ⟨⟨frac_exact9 x D a' b' K _ hF.1 hzD hv,fun h0=>(hF.2 (fun hx0=>h0 (by rw [hx0,Nat.zero_mul] at hv;rcases Nat.mul_eq_zero.1 hv.symm with g | g;exact Int.natAbs_eq_zero.1 g;exact absurd g hzD))).trans (hn h0)⟩,hF.1.1, ?_, ?_⟩
  ·have g1:=hF.1.2.2.2.1;have g2:=bS x hx;simp at g1;omega
  ·have g1:=hF.1.2.2.2.2;simp at g1;omega
 by_cases c1:sa=sb
 ·refine (raddEqO_ sa sb a1 a2 b1 b2 P1 P2 Q1 Q2 C1 C2 D1 D2 w h1 l1 h2 l2 h3 l3 h4 l4 k1 k2 k3 k4 za zb X Y D hX hY hD lX lY lD lS c1).mono ?_
  rintro e w' ⟨vn,vd,a',b',ng,he,q1,q2,q3,q4⟩
  refine ⟨vn,vd,a',b',ng,he,q1,q2,fin (X+Y) sa a' b' ng (Nat.le_refl _) ?_ ?_ q3,q4⟩
  ·have:(U+U').natAbs=va+vb:=by rw [ia,ib,← c1];cases sa <;> simp <;> omega
   rw [this,Nat.add_mul,Nat.add_mul,eX,eY]
  ·intro hne
   rw [ia,ib,← c1] at hne ⊢
   cases sa <;> simp at hne ⊢ <;> omega
 ·have hcmp:Y≤X ↔ vb≤va:=by
   have hp:=Nat.two_pow_pos K
   constructor
   ·intro h
    have g:=Nat.mul_le_mul_right (2 ^ K) h
    rw [eX,eY] at g
    exact Nat.le_of_mul_le_mul_right g (by omega)
   ·intro h
    have g:=Nat.mul_le_mul_right D h
    rw [← eX,← eY] at g
    exact Nat.le_of_mul_le_mul_right g hp
  by_cases c2:Y≤X
  ·have hv:=hcmp.1 c2
   refine (raddGeO_ sa sb a1 a2 b1 b2 P1 P2 Q1 Q2 C1 C2 D1 D2 w h1 l1 h2 l2 h3 l3 h4 l4 k1 k2 k3 k4 za zb X Y D hX hY hD lX lY lD lS c1 c2).mono ?_
   rintro e w' ⟨vn,vd,a',b',ng,he,q1,q2,q3,q4⟩
   refine ⟨vn,vd,a',b',ng,he,q1,q2,fin (X - Y) sa a' b' ng (by omega) ?_ ?_ q3,q4⟩
   ·have:(U+U').natAbs=va - vb:=by rw [ia,ib];cases sa <;> cases sb <;> simp at c1 ⊢ <;> omega
    rw [this,Nat.sub_mul,Nat.sub_mul,eX,eY]
   ·intro hne
    rw [ia,ib] at hne ⊢
    cases sa <;> cases sb <;> simp at c1 hne ⊢ <;> omega
  ·have hv:va<vb:=by
    rcases Nat.lt_or_ge va vb with h | h
    ·exact h
    ·exact absurd (hcmp.2 h) c2
   refine (raddLtO_ sa sb a1 a2 b1 b2 P1 P2 Q1 Q2 C1 C2 D1 D2 w h1 l1 h2 l2 h3 l3 h4 l4 k1 k2 k3 k4 za zb X Y D hX hY hD lX lY lD lS c1 (by omega)).mono ?_
   rintro e w' ⟨vn,vd,a',b',ng,he,q1,q2,q3,q4⟩
   refine ⟨vn,vd,a',b',ng,he,q1,q2,fin (Y - X) sb a' b' ng (by omega) ?_ ?_ q3,q4⟩
   ·have:(U+U').natAbs=vb - va:=by rw [ia,ib];cases sa <;> cases sb <;> simp at c1 ⊢ <;> omega
    rw [this,Nat.sub_mul,Nat.sub_mul,eX,eY]
   ·intro hne
    rw [ia,ib] at hne ⊢
    cases sa <;> cases sb <;> simp at c1 hne ⊢ <;> omega

theorem vadd_ (n n':Bool) (m m':Nat) s p l c q k d s2 p2 l2 c2 q2 k2 d2 (B1 B2:Nat) (w:World) (h1:RP B1 w s p l c q k d n m) (h2:RP B2 w s2 p2 l2 c2 q2 k2 d2 n' m'):Calls Tryz.prog 151 #[.agg #[.bool s,.slice p l c,.slice q k d],.agg #[.bool s2,.slice p2 l2 c2,.slice q2 k2 d2]] w fun e w'=>∃ s3 p3 l3 c3 q3 k3 d3,e=.returned (.agg #[.bool s3,.slice p3 l3 c3,.slice q3 k3 d3])∧VP w.heap.size w' s3 p3 l3 c3 q3 k3 d3 (Iv n m+Iv n' m')∧Kp w w':=by
 obtain ⟨a1,a2,u1,u2,u3⟩:=h1
 obtain ⟨b1,b2,v1,v2,v3⟩:=h2
 obtain ⟨K,hK⟩:∃ K:Nat,K=1074:=⟨_,rfl⟩
 obtain ⟨P1,C1,e1,x1,y1⟩:=u1.arr
 obtain ⟨P2,C2,e2,x2,y2⟩:=u2.arr
 obtain ⟨Q1,D1,e3,x3,y3⟩:=v1.arr
 obtain ⟨Q2,D2,e4,x4,y4⟩:=v2.arr
 rw [e1,e2,e3,e4]
 refine (raddVG_ (Iv n m) (Iv n' m') _ _ K s s2 a1 a2 b1 b2 P1 P2 Q1 Q2 C1 C2 D1 D2 w x1 y1 x2 y2 x3 y3 x4 y4 (u3 K hK) (v3 K hK)).mono ?_
 rintro e w' ⟨vn,vd,a',b',ng,rfl,o1,o2,⟨⟨f1,f2⟩,f3,f4,f5⟩,g⟩
 obtain ⟨p3,c3,rfl,-,-⟩:=o1.arr
 obtain ⟨q3,d3,rfl,-,-⟩:=o2.arr
 exact ⟨ng,p3,_,c3,q3,_,d3,rfl,⟨a',b',o1,o2,fun K' hK'=>⟨f3,by rw [hK',← hK];exact f1,f2,f4,f5⟩⟩,g⟩
end Go.Proofs.YtmpjcknaelgnoaaGreatDoor
