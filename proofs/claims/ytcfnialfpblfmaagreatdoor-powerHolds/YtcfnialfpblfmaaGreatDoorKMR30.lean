import Derived.Test.YtcfnialfpblfmaaGreatDoorKEM
import Derived.Test.YtcfnialfpblfmaaGreatDoorKMR23
namespace Go.Proofs.YtcfnialfpblfmaaGreatDoor
open Go.RowKit
theorem rU_vV (d:Int) (m:Nat) (hm:m<9218868437227405312):rU d 53 (Fq.vV Ieee.double m) 1=Fq.vV Ieee.double m:=by
 obtain ⟨E,hE⟩:∃ E,E=Fq.eE Ieee.double m:=⟨_,rfl⟩
 obtain ⟨M,hM⟩:∃ M,M=Fq.mM Ieee.double m:=⟨_,rfl⟩
 have hV:Fq.vV Ieee.double m=M*2 ^ E:=by rw [hM,hE];rfl
 have hMb:M<9007199254740992∧(E=0∨4503599627370496≤M):=by
  rw [hM,hE];unfold Fq.mM Fq.eE;rw [Fq.binD]
  by_cases c:m<4503599627370496
  ·rw [if_pos c,if_pos c];exact ⟨by omega,.inl rfl⟩
  ·rw [if_neg c,if_neg c]
   have:=Nat.mod_lt m (show 0<4503599627370496 by decide)
   exact ⟨by omega,.inr (by omega)⟩
 rw [hV]
 clear hV hM hE
 have p0:0<2 ^ E:=Nat.two_pow_pos E
 have hr:rE 53 (M*2 ^ E) 1=E:=by
  refine rE_uniq 53 (M*2 ^ E) 1 E (by decide) (by decide) ?_ ?_
  ·rw [Nat.one_mul,Nat.pow_add,Nat.mul_comm]
   exact Nat.mul_lt_mul_of_pos_left (by rw [show (2:Nat) ^ 53=9007199254740992 from by decide];exact hMb.1) p0
  ·rcases hMb.2 with h | h
   ·exact .inl h
   ·refine .inr ?_
    rw [Nat.one_mul,show E+53 - 1=52+E from by omega,Nat.pow_add,show (2:Nat) ^ 52=4503599627370496 from by decide]
    exact Nat.mul_le_mul_right _ h
 unfold rU rS rR
 rw [hr,Nat.one_mul,Nat.mul_div_cancel _ p0,Nat.mul_mod_left,upw_none _ _ _ p0]
 simp
theorem fin_vV (d:Int) (m:Nat) (hm:m<9218868437227405312):finU 53 2098 9218868437227405311 9218868437227405312 d (Fq.vV Ieee.double m)=m:=by
 have h1:=rU_vV d m hm
 have h2:=vV_rung (Fq.vV Ieee.double m) d
 rw [h1] at h2
 have h3:rgU 53 (Fq.vV Ieee.double m)=m:=(Fq.vV_inj _ _ _).1 h2
 obtain ⟨K,hK⟩:∃ K:Nat,K=2098:=⟨_,rfl⟩
 have hb:Fq.vV Ieee.double m<2 ^ K:=by
  unfold Fq.vV Fq.mM Fq.eE;rw [Fq.binD]
  have hp:∀ a e:Nat,a<9007199254740992→e≤2045→a*2 ^ e<2 ^ K:=fun a e ha he=>by
   have g:a*2 ^ e<2 ^ 53*2 ^ e:=Nat.mul_lt_mul_of_pos_right (by rw [show (2:Nat) ^ 53=9007199254740992 from by decide];exact ha) (Nat.two_pow_pos e)
   rw [← Nat.pow_add] at g
   exact Nat.lt_of_lt_of_le g (Nat.pow_le_pow_right (by decide) (by omega))
  by_cases c:m<4503599627370496
  ·rw [if_pos c,if_pos c];exact hp _ _ (by omega) (by omega)
  ·rw [if_neg c,if_neg c]
   have:=Nat.mod_lt m (show 0<4503599627370496 by decide)
   exact hp _ _ (by omega) (by omega)
 have hbl:blen (Fq.vV Ieee.double m)≤2098:=by rw [← hK];exact (blen_le_iff _ _).2 hb
 unfold finU
 rw [if_pos hbl,h3]
theorem vV_zero_iff (m:Nat):Fq.vV Ieee.double m=0 ↔ m=0:=by
 have h:=Fq.vV_inj Ieee.double m 0
 rw [Fq.vV_zero] at h
 exact h
theorem sumW_exact (d:Int) (n:Bool) (m:Nat) (hm:m<9218868437227405312):sumW d (Iv n m)=Fq.pla (Fq.wD n m):=by
 unfold sumW
 by_cases c:m=0
 ·have h0:Iv n m=0:=by unfold Iv;rw [c,Fq.vV_zero];cases n <;> rfl
  rw [if_pos h0,c];unfold Fq.pla Fq.wD;cases n <;> rfl
 ·have hv:Fq.vV Ieee.double m≠0:=fun h=>c ((vV_zero_iff m).1 h)
  have h0:Iv n m≠0:=by unfold Iv;cases n <;> simp <;> omega
  have h1:decide (Iv n m<0)=n:=by unfold Iv;cases n <;> simp <;> omega
  have h2:(Iv n m).natAbs=Fq.vV Ieee.double m:=by unfold Iv;cases n <;> simp
  rw [if_neg h0,h1,h2,rU_vV _ m hm,fin_vV _ m hm]
  unfold mdW Fq.pla Fq.wD
  rw [if_neg c]
  cases n <;> simp <;> omega
def mnP (n:Bool) (m:Nat):Nat:=Fq.pla (Fq.wD (!n) m)
theorem sub_zero_w (n:Bool) (m:Nat) (hm:m≤9218868437227405312):FloatKind.f64.format.sub 0 (Fq.wD n m)=some (mnP n m):=by
 by_cases c:m=9218868437227405312
 ·rw [c];cases n <;> decide +kernel
 ·have h:=sub_w false n 0 m (by decide) (by omega) (Iv (!n) m) (by unfold Iv;rw [Fq.vV_zero];cases n <;> simp)
  rw [show Fq.wD false 0=0 from rfl] at h
  rw [h]
  have e:=sumW_exact 0 (!n) m (by omega)
  unfold mnP
  by_cases z:m=0
  ·have h0:Iv (!n) m=0:=by unfold Iv;rw [z,Fq.vV_zero];cases n <;> rfl
   rw [if_pos h0,h0,z]
   have g:=rU_vV 0 0 (by decide)
   have g2:=fin_vV 0 0 (by decide)
   rw [Fq.vV_zero] at g g2
   rw [show (0:Int).natAbs=0 from rfl,g,g2]
   cases n <;> rfl
  ·have hv:Fq.vV Ieee.double m≠0:=fun h=>z ((vV_zero_iff m).1 h)
   have h0:Iv (!n) m≠0:=by unfold Iv;cases n <;> simp <;> omega
   have h1:decide (Iv (!n) m<0) = !n:=by unfold Iv;cases n <;> simp <;> omega
   have h2:(Iv (!n) m).natAbs=Fq.vV Ieee.double m:=by unfold Iv;cases n <;> simp
   rw [if_neg h0,h1,h2,rU_vV _ m (by omega),fin_vV _ m (by omega)]
   congr 1
   unfold Fq.pla Fq.wD
   cases n <;> simp <;> omega
theorem rgU_place (p S E:Nat) (hp:0<p) (hS:S≤2 ^ p) (hE:E=0∨2 ^ (p - 1)≤S):rgU p (S*2 ^ E)=E*2 ^ (p - 1)+S:=by
 have ep:(2:Nat) ^ p=2*2 ^ (p - 1):=by rw [show p=p - 1+1 from by omega,Nat.pow_succ,Nat.add_sub_cancel];omega
 have pp:=Nat.two_pow_pos (p - 1)
 have full:∀ X x:Nat,2 ^ (p - 1)≤X→X<2 ^ p→rgU p (X*2 ^ x)=x*2 ^ (p - 1)+X:=by
  intro X x h1 h2
  have b1:blen X≤p:=(blen_le_iff X p).2 h2
  have b2:¬ blen X≤p - 1:=fun h=>by have:=(blen_le_iff X (p - 1)).1 h;omega
  have b3:p - blen X=0:=by omega
  rw [rgU_mul p X x 0 (by omega) (by rw [b3,Nat.zero_min]) b1,Nat.sub_zero,Nat.pow_zero,Nat.mul_one]
 by_cases c:S=2 ^ p
 ·have e:S*2 ^ E=2 ^ (p - 1)*2 ^ (E+1):=by
   rw [c,ep,Nat.pow_succ];ac_rfl
  rw [e,full _ _ (Nat.le_refl _) (by omega),c,ep,Nat.add_mul,Nat.one_mul,Nat.two_mul]
  omega
 ·have hlt:S<2 ^ p:=by omega
  rcases hE with h | h
  ·rw [h,Nat.pow_zero,Nat.mul_one,Nat.zero_mul,Nat.zero_add]
   by_cases z:S=0
   ·rw [z,rgU_zero]
   ·have h1:=rgU_mul p S 0 0 z (by omega) ((blen_le_iff S p).2 hlt)
    rw [Nat.pow_zero,Nat.mul_one,Nat.sub_zero,Nat.zero_mul,Nat.zero_add] at h1
    exact h1
  ·exact full S E h hlt
def TU (I:Nat) (v:Nat→Nat) (A B lo hi ne:Nat):Prop:=(lo=hi∧ne=lo∧lo<I∧v lo*B=A)∨(hi=lo+1∧lo<I∧v lo*B<A∧(hi<I→A<v hi*B)∧((2*A<(v lo+v hi)*B∧ne=lo)∨((v lo+v hi)*B<2*A∧ne=hi)∨(2*A=(v lo+v hi)*B∧(ne=lo∨ne=hi)∧ne % 2=0)))
theorem tightU (p T G I:Nat) (v:Nat→Nat) (hv:∀ E S:Nat,S≤2 ^ p→(E=0∨2 ^ (p - 1)≤S)→v (E*2 ^ (p - 1)+S)=S*2 ^ E) (A B:Nat) (hB:0<B) (hp:2≤p) (hT:p≤T) (hG:(T - p+2)*2 ^ (p - 1)=G+1) (hI:G+1=I) :
  TU I v A B (finU p T G I (-1) (rU (-1) p A B)) (finU p T G I 1 (rU 1 p A B)) (finU p T G I 0 (rU 0 p A B)):=by
 obtain ⟨s1,s2⟩:=rS_lt p A B hB (by omega)
 have ep:(2:Nat) ^ p=2*2 ^ (p - 1):=by rw [show p=p - 1+1 from by omega,Nat.pow_succ,Nat.add_sub_cancel];omega
 have pp:=Nat.two_pow_pos (p - 1)
 have hw:0<B*2 ^ rE p A B:=Nat.mul_pos hB (Nat.two_pow_pos _)
 have d1:=Nat.div_add_mod A (B*2 ^ rE p A B)
 have dr:=Nat.mod_lt A hw
 have q1:A / (B*2 ^ rE p A B)=rS p A B:=rfl
 have q3:A % (B*2 ^ rE p A B)=rR p A B:=rfl
 rw [q1,q3] at d1
 rw [q3] at dr
 have hGp:(T - p)*2 ^ (p - 1)+(2 ^ p - 1)=G:=by
  rw [Nat.add_mul] at hG;omega
 unfold rU
 generalize rS p A B=S at *
 generalize rR p A B=R at *
 generalize rE p A B=E at *
 clear q1 q3
 by_cases ct:E+p≤T
 ·have fin:∀ (d:Int) (u:Bool),(d = -1→u=false)→finU p T G I d ((S+u.toNat)*2 ^ E)=E*2 ^ (p - 1)+(S+u.toNat):=by
   intro d u hd
   have hS1:S+u.toNat≤2 ^ p:=by cases u <;> simp <;> omega
   have hE1:E=0∨2 ^ (p - 1)≤S+u.toNat:=by rcases s2 with h | h;exact Or.inl h;exact Or.inr (by omega)
   unfold finU
   by_cases cb:blen ((S+u.toNat)*2 ^ E)≤T
   ·rw [if_pos cb]
    exact rgU_place p _ E (by omega) hS1 hE1
   ·rw [if_neg cb]
    have hge:2 ^ T≤(S+u.toNat)*2 ^ E:=by
     rcases Nat.lt_or_ge ((S+u.toNat)*2 ^ E) (2 ^ T) with h | h
     ·exact absurd ((blen_le_iff _ T).2 h) cb
     ·exact h
    have hle:(2:Nat) ^ p*2 ^ E≤2 ^ T:=by rw [← Nat.pow_add];exact Nat.pow_le_pow_right (by decide) (by omega)
    have hPE:=Nat.two_pow_pos E
    have hSe:S+u.toNat=2 ^ p:=by
     rcases Nat.lt_or_ge (S+u.toNat) (2 ^ p) with h | h
     ·have:=Nat.mul_lt_mul_of_pos_right h hPE
      omega
     ·omega
    have hu:u=true:=by cases u <;> simp at hSe ⊢;omega
    have hdn:d≠-1:=fun h=>by rw [hd h] at hu;cases hu
    rw [if_neg hdn,hSe]
    have hET:E=T - p:=by
     rcases Nat.lt_or_ge (E+p) T with h | h
     ·have:(2:Nat) ^ (p+E)<2 ^ T:=Nat.pow_lt_pow_right (by decide) (by omega)
      rw [hSe,← Nat.pow_add] at hge
      omega
     ·omega
    rw [hET];omega
  have up1:upw (-1) S R (B*2 ^ E)=false:=rfl
  have up2:upw 1 S R (B*2 ^ E)=decide (0<R):=rfl
  have up3:upw 0 S R (B*2 ^ E)=(decide (B*2 ^ E<2*R) || (decide (B*2 ^ E=2*R) && decide (S % 2=1))):=rfl
  rw [fin (-1) _ (fun _=>up1),fin 1 _ (fun h=>absurd h (by decide)),fin 0 _ (fun h=>absurd h (by decide)),up1,up2,up3]
  have hlo:E*2 ^ (p - 1)+S<I:=by
   have:E*2 ^ (p - 1)≤(T - p)*2 ^ (p - 1):=Nat.mul_le_mul_right _ (by omega)
   omega
  have v1:=hv E S (by omega) s2
  have v2:=hv E (S+1) (by omega) (by rcases s2 with h | h;exact Or.inl h;exact Or.inr (by omega))
  have w1:v (E*2 ^ (p - 1)+S)*B=B*2 ^ E*S:=by rw [v1];ac_rfl
  have w2:v (E*2 ^ (p - 1)+(S+1))*B=B*2 ^ E*S+B*2 ^ E:=by rw [v2,← Nat.mul_succ];ac_rfl
  have ev:E*2 ^ (p - 1) % 2=0:=by
   rw [show p - 1=p - 2+1 from by omega,Nat.pow_succ,← Nat.mul_assoc];exact Nat.mul_mod_left _ _
  generalize E*2 ^ (p - 1)=Z at *
  generalize B*2 ^ E=W at *
  generalize W*S=WS at *
  have t0:false.toNat=0:=rfl
  have t1:true.toNat=1:=rfl
  by_cases cR:R=0
  ·left
   rw [decide_eq_false (show ¬ 0<R by omega),decide_eq_false (show ¬ W<2*R by omega),decide_eq_false (show ¬ W=2*R by omega),Bool.false_and,Bool.or_false,t0,Nat.add_zero]
   exact ⟨rfl,rfl,hlo,by omega⟩
  ·right
   rw [decide_eq_true (show 0<R by omega),t0,t1,show S+0=S from rfl]
   refine ⟨by omega,hlo,by omega,fun _=>by omega, ?_⟩
   rw [Nat.add_mul,w1,w2]
   by_cases c1:W<2*R
   ·rw [decide_eq_true c1,Bool.true_or,t1]
    exact Or.inr (Or.inl ⟨by omega,rfl⟩)
   ·rw [decide_eq_false c1,Bool.false_or]
    by_cases c2:W=2*R
    ·rw [decide_eq_true c2,Bool.true_and]
     refine Or.inr (Or.inr ⟨by omega, ?_⟩)
     by_cases c3:S % 2=1
     ·rw [decide_eq_true c3,t1];exact ⟨Or.inr rfl,by omega⟩
     ·rw [decide_eq_false c3,t0];exact ⟨Or.inl rfl,by omega⟩
    ·rw [decide_eq_false c2,Bool.false_and,t0]
     exact Or.inl ⟨by omega,rfl⟩
 ·have hS0:2 ^ (p - 1)≤S:=s2.resolve_left (by omega)
  have big:(2:Nat) ^ T≤S*2 ^ E:=by
   have h1:(2:Nat) ^ (p - 1)*2 ^ E≤S*2 ^ E:=Nat.mul_le_mul_right _ hS0
   rw [← Nat.pow_add] at h1
   exact Nat.le_trans (Nat.pow_le_pow_right (by decide) (by omega)) h1
  have nb:∀ u:Bool,¬ blen ((S+u.toNat)*2 ^ E)≤T:=fun u h=>by
   have h2:=(blen_le_iff _ T).1 h
   have h3:S*2 ^ E≤(S+u.toNat)*2 ^ E:=Nat.mul_le_mul_right _ (by omega)
   omega
  have f1:∀ u:Bool,finU p T G I (-1) ((S+u.toNat)*2 ^ E)=G:=fun u=>by unfold finU;rw [if_neg (nb u),if_pos rfl]
  have f2:∀ u:Bool,finU p T G I 1 ((S+u.toNat)*2 ^ E)=I:=fun u=>by unfold finU;rw [if_neg (nb u),if_neg (by decide)]
  have f3:∀ u:Bool,finU p T G I 0 ((S+u.toNat)*2 ^ E)=I:=fun u=>by unfold finU;rw [if_neg (nb u),if_neg (by decide)]
  rw [f1,f2,f3]
  right
  have v1:=hv (T - p) (2 ^ p - 1) (by omega) (Or.inr (by omega))
  have v2:=hv (T - p) (2 ^ p) (Nat.le_refl _) (Or.inr (by omega))
  rw [hGp] at v1
  rw [show (T - p)*2 ^ (p - 1)+2 ^ p=I from by omega,← Nat.pow_add,show p+(T - p)=T from by omega] at v2
  have vl:v G<2 ^ T:=by
   rw [v1,show (2:Nat) ^ T=2 ^ p*2 ^ (T - p) from by rw [← Nat.pow_add];exact congrArg _ (by omega)]
   exact Nat.mul_lt_mul_of_pos_right (by omega) (Nat.two_pow_pos _)
  have hA:B*2 ^ T≤A:=by
   have h1:B*2 ^ T≤B*(S*2 ^ E):=Nat.mul_le_mul_left _ big
   have h2:B*(S*2 ^ E)=B*2 ^ E*S:=by ac_rfl
   omega
  have h4:v G*B<2 ^ T*B:=Nat.mul_lt_mul_of_pos_right vl hB
  rw [Nat.mul_comm B] at hA
  refine ⟨by omega,by omega,by omega,fun h=>by omega,Or.inr (Or.inl ⟨?_,rfl⟩)⟩
  rw [Nat.add_mul,v2]
  omega
def TS (I:Nat) (v:Nat→Nat) (A B:Int) (lo hi ne:Int):Prop:=∀ vs:Int→Int,(∀ z:Int,0≤z→vs z=(v z.natAbs:Int))→(∀ z:Int,vs (-z) = - vs z)→(lo=hi∧ne=lo∧-(I:Int)<lo∧lo<I∧vs lo*B=A)∨(hi=lo+1∧-(I:Int)≤lo∧hi≤I∧(-(I:Int)<lo→vs lo*B<A)∧(hi<I→A<vs hi*B)∧((2*A<(vs lo+vs hi)*B∧ne=lo)∨((vs lo+vs hi)*B<2*A∧ne=hi)∨(2*A=(vs lo+vs hi)*B∧(ne=lo∨ne=hi)∧ne % 2=0)))
theorem TU.pos {I:Nat} {v:Nat→Nat} {A B lo hi ne:Nat} (h:TU I v A B lo hi ne):TS I v (A:Int) (B:Int) (lo:Int) (hi:Int) (ne:Int):=by
 intro vs h1 h2
 have e1:vs (lo:Int)=(v lo:Int):=by rw [h1 _ (by omega)];rfl
 have e2:vs (hi:Int)=(v hi:Int):=by rw [h1 _ (by omega)];rfl
 rw [e1,e2]
 rcases h with ⟨a1,a2,a3,a4⟩ | ⟨a1,a2,a3,a4,a5⟩
 ·left
  refine ⟨by omega,by omega,by omega,by omega, ?_⟩
  rw [← a4,Int.natCast_mul]
 ·right
  have m1:((v lo*B:Nat):Int)=(v lo:Int)*(B:Int):=Int.natCast_mul _ _
  have m2:((v hi*B:Nat):Int)=(v hi:Int)*(B:Int):=Int.natCast_mul _ _
  rw [Nat.add_mul] at a5
  rw [Int.add_mul,← m1,← m2]
  generalize v lo*B=X at *
  generalize v hi*B=Y at *
  refine ⟨by omega,by omega,by omega,fun _=>by omega,fun h=>?_, ?_⟩
  ·have:=a4 (by omega);omega
  ·omega
theorem TU.neg {I:Nat} {v:Nat→Nat} {A B lo hi ne:Nat} (h:TU I v A B lo hi ne):TS I v (-(A:Int)) (B:Int) (-(hi:Int)) (-(lo:Int)) (-(ne:Int)):=by
 intro vs h1 h2
 have e1:vs (-(lo:Int)) = -(v lo:Int):=by rw [h2,h1 _ (by omega)];rfl
 have e2:vs (-(hi:Int)) = -(v hi:Int):=by rw [h2,h1 _ (by omega)];rfl
 rw [e1,e2]
 have m1:((v lo*B:Nat):Int)=(v lo:Int)*(B:Int):=Int.natCast_mul _ _
 have m2:((v hi*B:Nat):Int)=(v hi:Int)*(B:Int):=Int.natCast_mul _ _
 rcases h with ⟨a1,a2,a3,a4⟩ | ⟨a1,a2,a3,a4,a5⟩
 ·left
  refine ⟨by omega,by omega,by omega,by omega, ?_⟩
  rw [Int.neg_mul,← m2,← a1,a4]
 ·right
  rw [Nat.add_mul] at a5
  rw [Int.add_mul,Int.neg_mul,Int.neg_mul,← m1,← m2]
  generalize v lo*B=X at *
  generalize v hi*B=Y at *
  refine ⟨by omega,by omega,by omega,fun h=>?_,fun _=>by omega, ?_⟩
  ·have:=a4 (by omega);omega
  ·omega
theorem gpl_tight (p T G I:Nat) (v:Nat→Nat) (hv:∀ E S:Nat,S≤2 ^ p→(E=0∨2 ^ (p - 1)≤S)→v (E*2 ^ (p - 1)+S)=S*2 ^ E) (c1 c2:Nat) (hB:0<c2) (hp:2≤p) (hT:p≤T) (hG:(T - p+2)*2 ^ (p - 1)=G+1) (hI:G+1=I) (V:Int) :
  TS I v (V*c1) (c2:Int) (gpl p T G I (-1) c1 c2 V) (gpl p T G I 1 c1 c2 V) (gpl p T G I 0 c1 c2 V):=by
 have k:=tightU p T G I v hv (V.natAbs*c1) c2 hB hp hT hG hI
 unfold gpl
 by_cases z:V=0
 ·rw [if_pos z,if_pos z,if_pos z]
  intro vs h1 h2
  have v0:=hv 0 0 (Nat.zero_le _) (Or.inl rfl)
  rw [Nat.zero_mul,Nat.zero_mul] at v0
  left
  refine ⟨rfl,rfl,by omega,by omega, ?_⟩
  rw [h1 0 (by omega),show (0:Int).natAbs=0+0 from rfl,v0,z]
  simp
 ·rw [if_neg z,if_neg z,if_neg z]
  by_cases n:V<0
  ·rw [if_pos n,if_pos n,if_pos n]
   have e:V*(c1:Int) = -((V.natAbs*c1:Nat):Int):=by
    rw [Int.natCast_mul,show (V.natAbs:Int) = -V from by omega,Int.neg_mul,Int.neg_neg]
   rw [e]
   exact k.neg
  ·rw [if_neg n,if_neg n,if_neg n]
   have e:V*(c1:Int)=((V.natAbs*c1:Nat):Int):=by
    rw [Int.natCast_mul,show (V.natAbs:Int)=V from by omega]
   rw [e]
   exact k.pos
end Go.Proofs.YtcfnialfpblfmaaGreatDoor
