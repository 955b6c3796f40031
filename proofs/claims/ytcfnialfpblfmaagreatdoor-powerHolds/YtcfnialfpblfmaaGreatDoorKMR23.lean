import Derived.Test.YtcfnialfpblfmaaGreatDoorKFM
import Derived.Test.YtcfnialfpblfmaaGreatDoorKMR17
set_option maxHeartbeats 1000000
namespace Go.Proofs.YtcfnialfpblfmaaGreatDoor
open Go.RowKit
def mulW (d:Int) (ng:Bool) (P:Nat):Nat:=if P=0 then 0 else mdW ng (finU 53 2098 9218868437227405311 9218868437227405312 (dirN ng d) (rV (dirN ng d) 53 P 1 (-1074)))
theorem of_mul (d:Int) (ng:Bool) (c:Nat) (low:Int) (P:Nat) (h1:-2148≤low) (h2:low≤8192) (hb:blen c≤524288) (hP:P=c*2 ^ (low+2148).toNat):ofW d ng c low=mulW d ng P:=by
 have hl:¬ 16384<len32 c:=mt (long_iff c).2 (by omega)
 rw [of_rat]
 unfold ratW mulW
 rw [if_neg (by rw [len32_one];omega),if_neg (by decide)]
 obtain ⟨k,hk⟩:∃ k,k=(low+2148).toNat:=⟨_,rfl⟩
 rw [← hk] at hP
 by_cases c0:c=0
 ·rw [if_pos c0,if_pos (by rw [hP,c0,Nat.zero_mul])]
 ·have hp:P≠0:=by rw [hP];exact Nat.mul_ne_zero c0 (Nat.ne_of_gt (Nat.two_pow_pos k))
  rw [if_neg c0,if_neg hp,hP,rV_up _ _ _ _ _ _ (by decide),show (-1074:Int)+(k:Int)=low+1074 from by omega]
theorem sum_mul (d V:Int) (ng:Bool) (P K:Nat) (hK:K=1074) (hP:V.natAbs*2 ^ K=P) (hng:V≠0→ng=decide (V<0)):sumW d V=mulW d ng P:=by
 unfold sumW mulW
 by_cases c:V=0
 ·rw [if_pos c,if_pos (by rw [← hP,c];simp)]
 ·have hp:P≠0:=by rw [← hP];exact Nat.mul_ne_zero (by omega) (Nat.ne_of_gt (Nat.two_pow_pos K))
  rw [if_neg c,if_neg hp,← hng c,← hP,rV_up _ _ _ _ _ _ (by decide),show (-1074:Int)+(K:Int)=0 from by omega]
  unfold rV
  rw [show ((0:Int)).toNat=0 from rfl,show (-(0:Int)).toNat=0 from rfl,Nat.pow_zero,Nat.mul_one,Nat.mul_one]
theorem sgn_v (n n':Bool) (m m' K:Nat) (V:Int) (hV:V*((2 ^ K:Nat):Int)=Iv n m*Iv n' m') (hv:V≠0):(n ^^ n')=decide (V<0):=by
 have hp:(0:Int)<((2 ^ K:Nat):Int):=by have:=Nat.two_pow_pos K;omega
 obtain ⟨q,hq⟩:∃ q:Int,q=((2 ^ K:Nat):Int):=⟨_,rfl⟩
 rw [← hq] at hV hp
 have hz:V*q≠0:=fun h=>by rcases Int.mul_eq_zero.1 h with h | h <;> omega
 have hs:V<0 ↔ V*q<0:=by
  constructor
  ·intro h;exact Int.mul_neg_of_neg_of_pos h hp
  ·intro h
   rcases Int.lt_or_le V 0 with c | c
   ·exact c
   ·have:=Int.mul_nonneg c (Int.le_of_lt hp);omega
 obtain ⟨x,hx⟩:∃ x:Int,x=((Fq.vV Ieee.double m:Nat):Int):=⟨_,rfl⟩
 obtain ⟨y,hy⟩:∃ y:Int,y=((Fq.vV Ieee.double m':Nat):Int):=⟨_,rfl⟩
 have hxy:0≤x*y:=Int.mul_nonneg (by omega) (by omega)
 unfold Iv at hV
 rw [← hx,← hy] at hV
 cases n <;> cases n' <;> simp only [if_true,if_false,Bool.false_eq_true,Int.neg_mul,Int.mul_neg,Int.neg_neg] at hV <;> by_cases c:V<0 <;> simp [c] <;> omega
theorem abs_v (n n':Bool) (m m' K:Nat) (V:Int) (hV:V*((2 ^ K:Nat):Int)=Iv n m*Iv n' m'):V.natAbs*2 ^ K=Fq.vV Ieee.double m*Fq.vV Ieee.double m':=by
 have h1:=congrArg Int.natAbs hV
 rw [Int.natAbs_mul,Int.natAbs_mul,Int.natAbs_natCast,iv_abs,iv_abs] at h1
 exact h1
theorem vV_zero (m:Nat):Fq.vV Ieee.double m=0 ↔ m=0:=by
 unfold Fq.vV Fq.mM Fq.eE
 rw [Fq.binD]
 have:=Nat.two_pow_pos (if m<4503599627370496 then 0 else m / 4503599627370496 - 1)
 constructor
 ·intro h
  rcases Nat.mul_eq_zero.1 h with h | h
  ·split at h <;> omega
  ·omega
 ·intro h;subst h;simp
theorem rU_floor (p A B:Nat) (h:blen (A / B)≤p):rU (-1) p A B=A / B:=by
 have hE:rE p A B=0:=by unfold rE;omega
 unfold rU rS rR
 rw [hE,Nat.pow_zero,Nat.mul_one,Nat.mul_one]
 have e:upw (-1) (A / B) (A % B) B=false:=by unfold upw;simp
 rw [e];simp
theorem frac_exact (sg:Nat) (ep:Int) (a b K e:Nat) (hF:FracOf sg 1 ep a b) (h0:sg≠0) (he:(e:Int)=ep+(K:Int)):a*2 ^ K=sg*2 ^ e*b:=by
 obtain ⟨hb,-,hrv,-,-⟩:=hF
 have hbp:0<b:=by omega
 have hfl:∀ j:Nat,a*2 ^ K*2 ^ j / b=sg*2 ^ e*2 ^ j:=fun j=>by
  obtain ⟨p,hp⟩:∃ p,p=blen (a*2 ^ (K+j) / b)+blen (sg*2 ^ (e+j)):=⟨_,rfl⟩
  have h:=hrv (-1) p ((K+j:Nat):Int) h0
  unfold rV at h
  rw [show (((K+j:Nat):Int)).toNat=K+j from by omega,show (-((K+j:Nat):Int)).toNat=0 from by omega,show (((K+j:Nat):Int)+ep).toNat=e+j from by omega,show (-(((K+j:Nat):Int)+ep)).toNat=0 from by omega,Nat.pow_zero,Nat.mul_one,Nat.mul_one,rU_floor p _ b (by rw [hp];omega),rU_floor p _ 1 (by rw [Nat.div_one,hp];omega),Nat.div_one,Nat.pow_add,Nat.pow_add] at h
  rw [Nat.mul_assoc,h,Nat.mul_assoc]
 obtain ⟨A,hA⟩:∃ A,A=a*2 ^ K:=⟨_,rfl⟩
 obtain ⟨S,hS⟩:∃ S,S=sg*2 ^ e:=⟨_,rfl⟩
 rw [← hA,← hS] at hfl ⊢
 have h1:=hfl 0
 rw [Nat.pow_zero,Nat.mul_one,Nat.mul_one] at h1
 have h2:S*b≤A:=by rw [← h1];exact Nat.div_mul_le_self A b
 obtain ⟨D,hD⟩:∃ D,D=A - S*b:=⟨_,rfl⟩
 by_cases c:D=0
 ·omega
 ·exfalso
  have h3:=hfl (blen b)
  have h4:b<2 ^ blen b:=(blen_spec b hb).2.1
  have e1:A=S*b+D:=by omega
  rw [e1,Nat.add_mul,Nat.mul_right_comm,Nat.add_comm,Nat.add_mul_div_right _ _ hbp] at h3
  have h5:D*2 ^ blen b / b=0:=by omega
  have h6:b≤D*2 ^ blen b:=Nat.le_trans (Nat.le_of_lt h4) (Nat.le_mul_of_pos_left _ (by omega))
  have h7:=(Nat.le_div_iff_mul_le hbp (x:=1)).2 (by rw [Nat.one_mul];exact h6)
  omega
theorem step_g (d V:Int) (s o sz:Bool) (r ro K:Nat) (hK:53≤K) (hK2:K≤2096) (hv:V.natAbs<2 ^ K) (hr:r=rgU 53 (rU 0 53 V.natAbs 1)) (hs:s=(if V=0 then sz else decide (V<0))) (ho1:Fq.plz o ro<0 ↔ V - Iv s r<0) (ho2:0<Fq.plz o ro ↔ 0<V - Iv s r) :
  (d = -1→Fq.plz o ro<0→Fq.plz s r≠-9218868437227405312∧Fq.fD (Fq.plz s r - 1)=sumW d V)∧(d=1→0<Fq.plz o ro→Fq.plz s r≠9218868437227405312∧Fq.fD (Fq.plz s r+1)=sumW d V)∧(¬ (d = -1∧Fq.plz o ro<0)→¬ (d=1∧0<Fq.plz o ro)→Fq.wD (s && !(r == 0)) r=sumW d V):=by
 rw [ho1,ho2]
 obtain ⟨D1,D2,D3,D4⟩:=dirs V.natAbs
 have hfin:∀ dd d2:Int,finU 53 2098 9218868437227405311 9218868437227405312 d2 (rU dd 53 V.natAbs 1)=rgU 53 (rU dd 53 V.natAbs 1)∧rgU 53 (rU dd 53 V.natAbs 1)<9218868437227405312:=fun dd d2=>fin_small V.natAbs dd d2 K hK (by omega) hv
 have hU:=vV_rung V.natAbs 0
 rw [← hr] at hU D1 D2 D3 D4
 have hrl:r<9218868437227405312:=by rw [hr];exact (hfin 0 0).2
 have hfs:∀ dd,rgU 53 (rU dd 53 V.natAbs 1)<9218868437227405312:=fun dd=>(hfin dd 0).2
 by_cases c0:V=0
 ·have h0:rU 0 53 V.natAbs 1=0:=by
   rw [c0]
   unfold rU rS rR
   rw [Int.natAbs_zero,Nat.zero_div,Nat.zero_mod,upw_none _ _ _ (by rw [Nat.one_mul];exact Nat.two_pow_pos _)]
   simp
  have hr0:r=0:=by rw [hr,h0,rgU_zero]
  have hi:Iv s r=0:=by
   rw [hr0];unfold Iv
   have:Fq.vV Ieee.double 0=0:=(vV_pos 0).2 rfl
   rw [this];cases s <;> simp
  rw [hi,c0]
  refine ⟨fun _ h=>absurd h (by decide),fun _ h=>absurd h (by decide),fun _ _=>?_⟩
  unfold sumW
  rw [if_pos rfl,hr0];unfold Fq.wD;simp
 ·have hsn:s=decide (V<0):=by rw [hs,if_neg c0]
  have hmd:∀ x:Nat,x≠0→mdW s x=Fq.wD s x:=fun x hx=>by unfold mdW Fq.wD;rw [if_neg hx]
  have hsum:∀ dm:Int,dm=dirN s d→sumW d V=mdW s (rgU 53 (rU dm 53 V.natAbs 1)):=fun dm hdm=>by
   unfold sumW;rw [if_neg c0,← hsn,← hdm,(hfin dm dm).1]
  have hr1:r≠0:=by
   intro h
   rw [h,(vV_pos 0).2 rfl] at hU
   have hn:=(rn_nr V.natAbs).near
   rw [← hU] at hn
   have hl:=(rn_nr V.natAbs).low
   omega
  have hiv:Iv s r=if V<0 then -((rU 0 53 V.natAbs 1:Nat):Int) else ((rU 0 53 V.natAbs 1:Nat):Int):=by
   unfold Iv;rw [hU,hsn]
   by_cases c:V<0
   ·rw [decide_eq_true c,if_pos rfl,if_pos c]
   ·rw [decide_eq_false c,if_neg (by simp),if_neg c]
  have hfd:∀ x:Nat,x≠0→∀ P:Int,P=Fq.plz s x→Fq.fD P=mdW s x:=fun x hx P hP=>by
   rw [hmd x hx,hP];unfold Fq.fD Fq.plz Fq.wD
   cases s
   ·simp
   ·simp;omega
  have hother:∀ dm:Int,dm=dirN s d→rgU 53 (rU dm 53 V.natAbs 1)=r→Fq.wD (s && !(r == 0)) r=sumW d V:=fun dm h1 h2=>by
   rw [hsum dm h1,h2,hmd r hr1]
   congr 1
   simp [hr1]
  by_cases c:V<0
  ·rw [decide_eq_true c] at hsn
   rw [hiv,if_pos c]
   subst hsn
   have dN:dirN true d = -d:=rfl
   refine ⟨fun hd h=>?_,fun hd h=>?_,fun h1 h2=>?_⟩
   ·have e:=D3 (by omega)
    have hl:=hfs 1
    refine ⟨by unfold Fq.plz;first | (simp;done) | (simp;omega), ?_⟩
    rw [hsum 1 (by rw [dN,hd];rfl),e]
    exact hfd (r+1) (by omega) _ (by unfold Fq.plz;first | (simp;done) | (simp;omega))
   ·have e:=D1 (by omega)
    refine ⟨by unfold Fq.plz;first | (simp;done) | (simp;omega), ?_⟩
    rw [hsum (-1) (by rw [dN,hd])]
    by_cases cz:rgU 53 (rU (-1) 53 V.natAbs 1)=0
    ·rw [cz]
     have:r=1:=by omega
     rw [this];rfl
    ·exact hfd _ cz _ (by unfold Fq.plz;first | (simp;done) | (simp;omega))
   ·by_cases d1:d = -1
    ·exact hother 1 (by rw [dN,d1];rfl) (D4 (by have:=mt (fun h=>h1 ⟨d1,h⟩);omega))
    ·by_cases d2:d=1
     ·exact hother (-1) (by rw [dN,d2]) (D2 (by have:=mt (fun h=>h2 ⟨d2,h⟩);omega))
     ·exact hother (-d) dN.symm (by rw [dir_oth _ _ (by omega) (by omega),hr])
  ·rw [decide_eq_false c] at hsn
   rw [hiv,if_neg c]
   subst hsn
   have dN:dirN false d=d:=rfl
   refine ⟨fun hd h=>?_,fun hd h=>?_,fun h1 h2=>?_⟩
   ·have e:=D1 (by omega)
    refine ⟨by unfold Fq.plz;first | (simp;done) | (simp;omega), ?_⟩
    rw [hsum (-1) (by rw [dN,hd])]
    by_cases cz:rgU 53 (rU (-1) 53 V.natAbs 1)=0
    ·rw [cz]
     have:r=1:=by omega
     rw [this];rfl
    ·exact hfd _ cz _ (by unfold Fq.plz;first | (simp;done) | (simp;omega))
   ·have e:=D3 (by omega)
    have hl:=hfs 1
    refine ⟨by unfold Fq.plz;first | (simp;done) | (simp;omega), ?_⟩
    rw [hsum 1 (by rw [dN,hd]),e]
    exact hfd (r+1) (by omega) _ (by unfold Fq.plz;simp)
   ·by_cases d1:d = -1
    ·exact hother (-1) (by rw [dN,d1]) (D2 (by have:=mt (fun h=>h1 ⟨d1,h⟩);omega))
    ·by_cases d2:d=1
     ·exact hother 1 (by rw [dN,d2]) (D4 (by have:=mt (fun h=>h2 ⟨d2,h⟩);omega))
     ·exact hother d dN.symm (by rw [dir_oth _ _ d2 d1,hr])
theorem two_dvd {T U:Nat} (hT:∃ E,T=2 ^ E) (hU:∃ e,U=2 ^ e) (h:U≤T):U ∣ T:=by
 obtain ⟨E,rfl⟩:=hT
 obtain ⟨e,rfl⟩:=hU
 exact Nat.pow_dvd_pow 2 ((Nat.pow_le_pow_iff_right (by decide)).1 h)
theorem two_half {T U:Nat} (hT:∃ E,T=2 ^ E) (hU:∃ e,U=2 ^ e) (h:T<2*U):T≤U:=by
 obtain ⟨E,rfl⟩:=hT
 obtain ⟨e,rfl⟩:=hU
 rw [Nat.mul_comm,← Nat.pow_succ] at h
 have:=(Nat.pow_lt_pow_iff_right (by decide)).1 h
 exact Nat.pow_le_pow_right (by decide) (by omega)
theorem lack_exact {x V np op t1 off:Int} {W Tn T5 T6:Nat} (hW:∃ e,W=2 ^ e) (dx:(W:Int) ∣ x) (dV:(W:Int) ∣ V) (hu:(x - V).natAbs≤4503599627370496*W) (v1:20282409603651670423947251286016*W≤V.natAbs) (v2:V.natAbs<81129638414606681695789005144064*W)
  (k0:Nr V np Tn) (hop:op=V - np) (k1:Nr (x - np) t1 T5) (k2:Nr (t1 - op) off T6):off=x - V:=by
 have hWp:0<W:=by obtain ⟨e,rfl⟩:=hW;exact Nat.two_pow_pos e
 have h53:∃ e,9007199254740992*W=2 ^ e:=by
  have:=two_times hW 53
  rwa [show (2:Nat) ^ 53=9007199254740992 from by decide] at this
 have hTn:Tn≤9007199254740992*W:=two_half k0.two h53 (by rcases k0.low with h | h <;> omega)
 have hWT:W ∣ Tn:=two_dvd k0.two hW (by have:=k0.lt;omega)
 have dn:(W:Int) ∣ np:=Int.dvd_trans (Int.natCast_dvd_natCast.2 hWT) k0.dvd
 have f1:FL (x - np):=fl_of hW (Int.dvd_sub dx dn) (by have:=k0.near;omega)
 have e1:=k1.fix f1
 have f2:FL (x - V):=fl_of hW (Int.dvd_sub dx dV) (by omega)
 have e2:t1 - op=x - V:=by omega
 rw [e2] at k2
 exact k2.fix f2
theorem sgn_HR (h q B R u:Int) (hB:0<B) (h0:0≤q) (h1:q<B) (hu:(q=0∧u=0)∨(0<q∧u=1)):(0<2*(h*B+q) - 2*(R*B) ↔ 0<2*h+u - 2*R)∧(2*(h*B+q) - 2*(R*B)<0 ↔ 2*h+u - 2*R<0):=by
 obtain ⟨k,hk⟩:∃ k,k=h - R:=⟨_,rfl⟩
 have e:h*B - R*B=k*B:=by rw [hk,Int.sub_mul]
 rcases Int.lt_trichotomy k 0 with c | c | c
 ·have h5:=Int.mul_le_mul_of_nonneg_right (show k≤-1 by omega) (Int.le_of_lt hB)
  omega
 ·rw [c,Int.zero_mul] at e
  omega
 ·have h5:=Int.mul_le_mul_of_nonneg_right (show 1≤k by omega) (Int.le_of_lt hB)
  omega
theorem quo_H (A B h r H K:Nat) (hB:0<B) (hK:K+1=1074) (hN:A*2 ^ K=h*B+r) (hr:r<B) (hH:H=2*h+(if r=0 then 0 else 1)) (hbig:9007199254740992≤h) (d:Int):rU d 53 H 1=rV d 53 A B 1074:=by
 have e1:=rV_sticky9 d 53 (A*2 ^ K) B h r H 0 hB (by decide) (by decide) hN hr hH (Or.inr hbig)
 have e2:rV d 53 (2*(A*2 ^ K)) B 0=rV d 53 A B 1074:=by
  rw [show 2*(A*2 ^ K)=A*2 ^ (K+1) from by rw [Nat.pow_succ];simp only [Nat.mul_comm,Nat.mul_left_comm],rV_up _ _ _ _ _ _ hB]
  congr 1
  omega
 have e3:rV d 53 H 1 0=rU d 53 H 1:=by
  unfold rV
  rw [show ((0:Int)).toNat=0 from rfl,show (-(0:Int)).toNat=0 from rfl,Nat.pow_zero,Nat.mul_one,Nat.mul_one]
 rw [← e3,← e1,e2]
theorem div_w (n n':Bool) (m m':Nat) (h1:2580562586483294208≤m) (h2:m≤6633802251116740608) (h3:2580562586483294208≤m') (h4:m'≤6633802251116740608) (H:Nat) (hH:∀ d,rU d 53 H 1=rV d 53 (Fq.vV Ieee.double m) (Fq.vV Ieee.double m') 1074) :
  FloatKind.f64.format.div (Fq.wD n m) (Fq.wD n' m')=some (Fq.wD (n ^^ n') (finU 53 2098 9218868437227405311 9218868437227405312 0 (rU 0 53 H 1))):=by
 show Ieee.double.div _ _=_
 unfold Ieee.Format.div
 rw [hH]
 have b1:¬ m<4503599627370496:=by omega
 have b2:¬ m'<4503599627370496:=by omega
 rw [Fq.read_fin _ _ (by rw [Fq.rgD n m (by omega),Fq.infD];omega),Fq.read_fin _ _ (by rw [Fq.rgD n' m' (by omega),Fq.infD];omega),Fq.rgD n m (by omega),Fq.rgD n' m' (by omega),Fq.ngD n m (by omega),Fq.ngD n' m' (by omega),lpD9,fbD9]
 unfold Fq.vV
 have hea:Fq.eE Ieee.double m=m / 4503599627370496 - 1:=by unfold Fq.eE;rw [Fq.binD,if_neg b1]
 have heb:Fq.eE Ieee.double m'=m' / 4503599627370496 - 1:=by unfold Fq.eE;rw [Fq.binD,if_neg b2]
 have hma:Fq.mM Ieee.double m=4503599627370496+m % 4503599627370496:=by unfold Fq.mM;rw [Fq.binD,if_neg b1]
 have hmb:Fq.mM Ieee.double m'=4503599627370496+m' % 4503599627370496:=by unfold Fq.mM;rw [Fq.binD,if_neg b2]
 obtain ⟨e,hee⟩:∃ e,e=Fq.eE Ieee.double m:=⟨_,rfl⟩
 obtain ⟨e',hee'⟩:∃ e',e'=Fq.eE Ieee.double m':=⟨_,rfl⟩
 obtain ⟨a,ha⟩:∃ a,a=Fq.mM Ieee.double m:=⟨_,rfl⟩
 obtain ⟨a',ha'⟩:∃ a',a'=Fq.mM Ieee.double m':=⟨_,rfl⟩
 rw [← hee] at hea
 rw [← hee'] at heb
 rw [← ha] at hma
 rw [← ha'] at hmb
 rw [← hee,← hee',← ha,← ha']
 have a1:4503599627370496≤a:=by omega
 have a2:a<9007199254740992:=by omega
 have a3:4503599627370496≤a':=by omega
 have a4:a'<9007199254740992:=by omega
 have e1:572≤e:=by omega
 have e2:e'≤1472:=by omega
 have lg:∀ x:Nat,4503599627370496≤x→x<9007199254740992→x.log2=52:=fun x q1 q2=>by
  have hb:=blen_uniq x 52 (by rw [show (2:Nat) ^ 52=4503599627370496 from by decide];exact q1) (by rw [show (2:Nat) ^ (52+1)=9007199254740992 from by decide];exact q2)
  have:=log2_blen x (by omega)
  omega
 have l1:=lg a a1 a2
 have l2:=lg a' a3 a4
 clear hee hee' ha ha' hea heb hma hmb lg hH h1 h2 h3 h4 b1 b2
 unfold Ieee.Datum.quotient
 simp only
 rw [if_neg (by omega),l1,l2]
 simp only [Option.map_some]
 unfold Ieee.Format.write
 simp only
 rw [show 52+2+52 - 52=54 from rfl,Nat.shiftLeft_eq]
 obtain ⟨N,hN⟩:∃ N,N=a*2 ^ 54:=⟨_,rfl⟩
 rw [← hN]
 have hNe:N=a*18014398509481984:=hN
 obtain ⟨q,hq⟩:∃ q,q=N / a':=⟨_,rfl⟩
 obtain ⟨r,hr⟩:∃ r,r=N % a':=⟨_,rfl⟩
 have hqr:N=q*a'+r:=by rw [hq,hr,Nat.mul_comm];exact (Nat.div_add_mod _ _).symm
 have hra:r<a':=by rw [hr];exact Nat.mod_lt _ (by omega)
 have hqb:9007199254740992≤q:=by
  rw [hq,Nat.le_div_iff_mul_le (by omega)];omega
 rw [← hq,← hr]
 obtain ⟨mag,hmag⟩:∃ mag,mag=2*q+(r != 0).toNat:=⟨_,rfl⟩
 have hmag2:mag=2*q+(if r=0 then 0 else 1):=by
  rw [hmag]
  by_cases c:r=0
  ·rw [if_pos c,c];rfl
  ·rw [if_neg c];simp [c]
 rw [← hmag]
 obtain ⟨t,ht⟩:∃ t:Nat,(t:Int)=(e:Int) - e' - 54 - 1+1074:=⟨((e:Int) - e' - 54 - 1+1074).toNat,by omega⟩
 rw [near_w _ _ _ t (by omega)]
 have hst:=rV_sticky9 0 53 N a' q r mag (t:Int) (by omega) (by decide) (by decide) hqr hra hmag2 (Or.inr hqb)
 have s1:rV 0 53 mag 1 (t:Int)=rU 0 53 (mag*2 ^ t) 1:=by
  unfold rV
  rw [show ((t:Int)).toNat=t from by omega,show (-(t:Int)).toNat=0 from by omega,Nat.pow_zero,Nat.mul_one]
 have s2:rV 0 53 (2*N) a' (t:Int)=rV 0 53 a a' ((t:Int)+55):=by
  rw [show 2*N=a*2 ^ 55 from by rw [hN];omega,rV_up _ _ _ _ _ _ (by omega)];rfl
 have s3:rV 0 53 (a*2 ^ e) (a'*2 ^ e') 1074=rV 0 53 a a' ((t:Int)+55):=by
  rw [rV_up _ _ _ _ _ _ (Nat.mul_pos (by omega) (Nat.two_pow_pos _)),rV_down _ _ _ _ _ _ (by omega)]
  congr 1
  omega
 rw [s3,← s2,hst,s1]
def divW (d:Int) (ng:Bool) (A B:Nat):Nat:=if A=0 then 0 else mdW ng (finU 53 2098 9218868437227405311 9218868437227405312 (dirN ng d) (rV (dirN ng d) 53 A B 1074))
theorem norm_unit (n:Bool) (m:Nat) (h1:4503599627370496≤m):∃ e:Nat,((2 ^ e:Nat):Int) ∣ Iv n m∧4503599627370496*2 ^ e≤(Iv n m).natAbs∧(Iv n m).natAbs<9007199254740992*2 ^ e:=by
 have hb:¬ m<4503599627370496:=by omega
 refine ⟨m / 4503599627370496 - 1, ?_⟩
 have hv:(Iv n m).natAbs=(4503599627370496+m % 4503599627370496)*2 ^ (m / 4503599627370496 - 1):=by
  rw [iv_abs];unfold Fq.vV Fq.mM Fq.eE;rw [Fq.binD,if_neg hb,if_neg hb]
 refine ⟨Int.dvd_natAbs.1 (by rw [hv];exact Int.natCast_dvd_natCast.2 (Nat.dvd_mul_left _ _)), ?_, ?_⟩
 ·rw [hv];exact Nat.mul_le_mul_right _ (by omega)
 ·rw [hv];exact Nat.mul_lt_mul_of_pos_right (by omega) (Nat.two_pow_pos _)
theorem norm_of (n:Bool) (m:Nat) (h:4503599627370496≤(Iv n m).natAbs):4503599627370496≤m:=by
 by_cases c:4503599627370496≤m
 ·exact c
 ·exfalso
  rw [iv_abs] at h
  unfold Fq.vV Fq.mM Fq.eE at h
  rw [Fq.binD,if_pos (by omega),if_pos (by omega),Nat.pow_zero,Nat.mul_one] at h
  omega
theorem sgn_mul (u p:Int) (hp:0<p):(u<0 ↔ u*p<0)∧(0<u ↔ 0<u*p):=by
 rcases Int.lt_trichotomy u 0 with c | c | c
 ·have:=Int.mul_neg_of_neg_of_pos c hp
  omega
 ·rw [c,Int.zero_mul];omega
 ·have:=Int.mul_pos c hp
  omega
theorem pw52:(2:Nat) ^ 52=4503599627370496:=by decide
theorem pw53:(2:Nat) ^ 53=9007199254740992:=by decide
theorem pw110:(2:Nat) ^ 110=1298074214633706907132624082305024:=by decide
theorem quot_nat (A B H h q u R T ex ey e L:Nat) (hL:L=1074) (hA1:4503599627370496*2 ^ ex≤A) (hA2:A<9007199254740992*2 ^ ex) (hB1:4503599627370496*2 ^ ey≤B) (hB2:B<9007199254740992*2 ^ ey) (x1:572≤ex) (x2:ex≤1472) (y1:572≤ey) (y2:ey≤1472)
  (hN:A*2 ^ L=2*(h*B+q)) (hq:q<B) (hH:H=2*h+u) (hu:(q=0∧u=0)∨(0<q∧u=1)) (hT:∃ E,T=2 ^ E) (dR:T ∣ R) (n1:2*H≤2*R+T) (n2:2*R≤2*H+T) (hlt:H<9007199254740992*T) (hlow:T=1∨4503599627370496*T≤H)
  (hR1:4503599627370496*2 ^ e≤R) (hR2:R<9007199254740992*2 ^ e) (Hbig:1298074214633706907132624082305024≤H) :
  L≤e+ey∧e+ey - L≤ex∧e≤1960∧e+ey≤2944∧2 ∣ R∧2*(A*2 ^ L)<2*(R*B)+9007199254740993*2 ^ (e+ey)∧2*(R*B)<2*(A*2 ^ L)+9007199254740993*2 ^ (e+ey):=by
 have hT0:144115188075855872<T:=by omega
 have hTlow:=hlow.resolve_left (by omega)
 have hRT:4503599627370496*T≤R:=by
  obtain ⟨k,hk⟩:=dR
  rcases Nat.lt_or_ge k 4503599627370496 with c | c
  ·exfalso
   have h5:T*k≤T*4503599627370495:=Nat.mul_le_mul_left T (by omega)
   omega
  ·have h5:=Nat.mul_le_mul_left T c
   omega
 have hTe:T≤2 ^ e:=two_half hT ⟨e,rfl⟩ (by omega)
 have h2R:2 ∣ R:=by
  refine Nat.dvd_trans ?_ dR
  obtain ⟨E,rfl⟩:=hT
  have:E≠0:=fun h0=>by rw [h0] at hT0;omega
  exact ⟨2 ^ (E - 1),by rw [Nat.mul_comm,← Nat.pow_succ];congr 1;omega⟩
 have m1:=Nat.mul_le_mul_right B n1
 have m2:=Nat.mul_le_mul_right B n2
 have hHB:H*B=2*(h*B)+u*B:=by rw [hH,Nat.add_mul,Nat.mul_assoc]
 have huB:u*B=if q=0 then 0 else B:=by
  rcases hu with ⟨c,d⟩ | ⟨c,d⟩
  ·rw [d,if_pos c,Nat.zero_mul]
  ·rw [d,if_neg (by omega),Nat.one_mul]
 rw [Nat.add_mul,Nat.mul_assoc,Nat.mul_assoc] at m1 m2
 obtain ⟨RB,hRB⟩:∃ x,x=R*B:=⟨_,rfl⟩
 obtain ⟨TB,hTB⟩:∃ x,x=T*B:=⟨_,rfl⟩
 obtain ⟨HB,hHBx⟩:∃ x,x=H*B:=⟨_,rfl⟩
 obtain ⟨hb,hhb⟩:∃ x,x=h*B:=⟨_,rfl⟩
 obtain ⟨AL,hAL⟩:∃ x,x=A*2 ^ L:=⟨_,rfl⟩
 obtain ⟨uB,huB'⟩:∃ x,x=u*B:=⟨_,rfl⟩
 rw [← hRB,← hTB,← hHBx] at m1 m2
 rw [← hHBx,← hhb,← huB'] at hHB
 rw [← huB'] at huB
 rw [← hAL,← hhb] at hN
 have d1:2*AL<2*RB+(TB+2*B):=by split at huB <;> omega
 have d2:2*RB<2*AL+(TB+2*B):=by split at huB <;> omega
 have hPe:2 ^ (e+ey)=2 ^ e*2 ^ ey:=Nat.pow_add _ _ _
 have hTP:TB+2*B≤9007199254740993*2 ^ (e+ey):=by
  have g1:TB≤2 ^ e*B:=by rw [hTB];exact Nat.mul_le_mul_right B hTe
  have g2:2 ^ e*B≤2 ^ e*(9007199254740992*2 ^ ey):=Nat.mul_le_mul_left _ (by omega)
  rw [Nat.mul_left_comm,← hPe] at g2
  have g3:144115188075855872*2 ^ ey≤2 ^ (e+ey):=by rw [hPe];exact Nat.mul_le_mul_right _ (by omega)
  omega
 have hTR:TB+2*B≤RB:=by
  have g1:(T+2)*B≤R*B:=Nat.mul_le_mul_right B (by omega)
  rw [Nat.add_mul,← hTB,← hRB] at g1
  omega
 have c1:RB≤2*AL:=by omega
 have c2:AL≤2*RB:=by omega
 have r1:2 ^ (104+(e+ey))≤RB:=by
  have g:=Nat.mul_le_mul hR1 hB1
  rw [← hRB,sq_rearr,← hPe,← pw52,← Nat.pow_add,← Nat.pow_add] at g
  exact g
 have r2:RB<2 ^ (106+(e+ey)):=by
  have g:=Nat.mul_lt_mul'' hR2 hB2
  rw [← hRB,sq_rearr,← hPe,← pw53,← Nat.pow_add,← Nat.pow_add] at g
  exact g
 have a1:2 ^ (52+ex+L)≤AL:=by
  have g:=Nat.mul_le_mul_right (2 ^ L) hA1
  rw [← hAL,← pw52,← Nat.pow_add,← Nat.pow_add] at g
  exact g
 have a2:AL<2 ^ (53+ex+L):=by
  have g:=Nat.mul_lt_mul_of_pos_right hA2 (Nat.two_pow_pos L)
  rw [← hAL,← pw53,← Nat.pow_add,← Nat.pow_add] at g
  exact g
 have p1:104+(e+ey)<54+ex+L:=by
  refine (Nat.pow_lt_pow_iff_right (a:=2) (by decide)).1 ?_
  have:2 ^ (54+ex+L)=2*2 ^ (53+ex+L):=by rw [Nat.mul_comm,← Nat.pow_succ];congr 1;omega
  omega
 have p2:52+ex+L<107+(e+ey):=by
  refine (Nat.pow_lt_pow_iff_right (a:=2) (by decide)).1 ?_
  have:2 ^ (107+(e+ey))=2*2 ^ (106+(e+ey)):=by rw [Nat.mul_comm,← Nat.pow_succ];congr 1;omega
  omega
 rw [← hRB,← hAL]
 exact ⟨by omega,by omega,by omega,by omega,h2R,by omega,by omega⟩
theorem small_of {u:Int} {W k:Nat} (hW:0<W) (hd:(W:Int) ∣ u) (h:2*u.natAbs<(2*k+1)*W):u.natAbs≤k*W:=by
 obtain ⟨c,rfl⟩:=hd
 rw [Int.natAbs_mul,Int.natAbs_natCast] at h ⊢
 rw [Nat.mul_comm k]
 refine Nat.mul_le_mul_left W ?_
 rcases Nat.lt_or_ge k c.natAbs with g | g
 ·exfalso
  have h5:=Nat.mul_le_mul_left W (show 2*k+2≤2*c.natAbs by omega)
  rw [Nat.mul_comm (2*k+1)] at h
  have h6:W*(2*k+2)=W*(2*k+1)+W:=by rw [show 2*k+2=2*k+1+1 from rfl,Nat.mul_succ]
  have h7:W*(2*c.natAbs)=2*(W*c.natAbs):=Nat.mul_left_comm _ _ _
  omega
 ·exact g
theorem quot_all (n n':Bool) (m m':Nat) (h1:2580562586483294208≤m) (h2:m≤6633802251116740608) (h3:2580562586483294208≤m') (h4:m'≤6633802251116740608) (L:Nat) (hL:L=1074) :
  ∃ (V:Int) (s:Bool) (r K e ey ex:Nat),FloatKind.f64.format.div (Fq.wD n m) (Fq.wD n' m')=some (Fq.wD s r)∧r<9218868437227405312∧r=rgU 53 (rU 0 53 V.natAbs 1)∧s=(if V=0 then n ^^ n' else decide (V<0))∧53≤K∧K≤2096∧V.natAbs<2 ^ K∧(∀ d,sumW d V=divW d (n ^^ n') (Fq.vV Ieee.double m) (Fq.vV Ieee.double m'))
   ∧ (e≤1960∧ey≤1960∧1074≤e+ey∧e+ey≤2944∧e+ey - L≤ex∧ex≤1472)∧(((2 ^ e:Nat):Int) ∣ Iv s r∧4503599627370496*2 ^ e≤(Iv s r).natAbs∧(Iv s r).natAbs<9007199254740992*2 ^ e)∧(((2 ^ ey:Nat):Int) ∣ Iv n' m'∧4503599627370496*2 ^ ey≤(Iv n' m').natAbs∧(Iv n' m').natAbs<9007199254740992*2 ^ ey)
   ∧ (Iv n m).natAbs<9007199254740992*2 ^ ex∧∀ V2:Int,V2*((2 ^ L:Nat):Int)=Iv s r*Iv n' m'→(((2 ^ (e+ey - L):Nat):Int) ∣ Iv n m∧((2 ^ (e+ey - L):Nat):Int) ∣ V2∧(Iv n m - V2).natAbs≤4503599627370496*2 ^ (e+ey - L)∧20282409603651670423947251286016*2 ^ (e+ey - L)≤V2.natAbs∧V2.natAbs<81129638414606681695789005144064*2 ^ (e+ey - L))
    ∧ ((if n' then -(Iv n m - V2) else Iv n m - V2)<0 ↔ V - Iv s r<0)∧(0<(if n' then -(Iv n m - V2) else Iv n m - V2) ↔ 0<V - Iv s r):=by
 obtain ⟨ex,x1,x2,dx,hA1,hA2⟩:=mild_unit n m h1 h2
 obtain ⟨ey,y1,y2,dy,hB1,hB2⟩:=mild_unit n' m' h3 h4
 obtain ⟨A,hA⟩:∃ A,A=Fq.vV Ieee.double m:=⟨_,rfl⟩
 obtain ⟨B,hB⟩:∃ B,B=Fq.vV Ieee.double m':=⟨_,rfl⟩
 have hxa:(Iv n m).natAbs=A:=by rw [iv_abs,hA]
 have hyb:(Iv n' m').natAbs=B:=by rw [iv_abs,hB]
 rw [hxa] at hA1 hA2
 rw [hyb] at hB1 hB2
 have hBp:0<B:=by have:=Nat.two_pow_pos ey;omega
 obtain ⟨J,hJ⟩:∃ J,J+1=L:=⟨L - 1,by omega⟩
 obtain ⟨h,hh⟩:∃ h,h=A*2 ^ J / B:=⟨_,rfl⟩
 obtain ⟨q,hq⟩:∃ q,q=A*2 ^ J % B:=⟨_,rfl⟩
 have hqr:A*2 ^ J=h*B+q:=by rw [hh,hq];exact (Nat.div_add_mod' _ _).symm
 have hqB:q<B:=by rw [hq];exact Nat.mod_lt _ hBp
 obtain ⟨u,hu⟩:∃ u,u=if q=0 then 0 else 1:=⟨_,rfl⟩
 obtain ⟨H,hH⟩:∃ H,H=2*h+u:=⟨_,rfl⟩
 have hN:A*2 ^ L=2*(h*B+q):=by rw [← hJ,Nat.pow_succ,← Nat.mul_assoc,hqr,Nat.mul_comm]
 have huq:(q=0∧u=0)∨(0<q∧u=1):=by
  by_cases c:q=0
  ·left;exact ⟨c,by rw [hu,if_pos c]⟩
  ·right;exact ⟨by omega,by rw [hu,if_neg c]⟩
 have hbig:1298074214633706907132624082305024≤h:=by
  rw [hh,Nat.le_div_iff_mul_le hBp,← pw110]
  have g1:2 ^ 110*B≤2 ^ 110*(9007199254740992*2 ^ ey):=Nat.mul_le_mul_left _ (by omega)
  have g2:4503599627370496*2 ^ ex*2 ^ J≤A*2 ^ J:=Nat.mul_le_mul_right _ hA1
  rw [← pw53,← Nat.pow_add,← Nat.pow_add] at g1
  rw [← pw52,← Nat.pow_add,← Nat.pow_add] at g2
  have g3:2 ^ (110+(53+ey))≤2 ^ (52+ex+J):=Nat.pow_le_pow_right (by decide) (by omega)
  exact Nat.le_trans g1 (Nat.le_trans g3 g2)
 have hHd:=quo_H A B h q H J hBp (by omega) hqr hqB (by rw [hH,hu]) (by omega)
 obtain ⟨K,hK⟩:∃ K:Nat,K=1980:=⟨_,rfl⟩
 have hHK:H<2 ^ K:=by
  rcases Nat.lt_or_ge H (2 ^ K) with c | c
  ·exact c
  ·exfalso
   have g1:=Nat.mul_le_mul c hB1
   have g2:H*B≤2*(A*2 ^ L):=by
    rw [hH,Nat.add_mul,Nat.mul_assoc,hN]
    have:u*B≤B:=by
     have:u≤1:=by omega
     have:=Nat.mul_le_mul_right B this
     omega
    have g3:B≤h*B:=by have:=Nat.mul_le_mul_right B (show 1≤h by omega);omega
    omega
   have g3:2*(A*2 ^ L)<2*(9007199254740992*2 ^ ex*2 ^ L):=by
    have:=Nat.mul_lt_mul_of_pos_right hA2 (Nat.two_pow_pos L)
    omega
   have g4:2 ^ (K+(52+ey))<2 ^ (1+(53+ex+L)):=by
    rw [Nat.pow_add 2 K,Nat.pow_add 2 52 ey,pw52,Nat.pow_add 2 1,Nat.pow_one,Nat.pow_add 2 (53+ex) L,Nat.pow_add 2 53 ex,pw53]
    exact Nat.lt_of_le_of_lt g1 (Nat.lt_of_le_of_lt g2 g3)
   have:=(Nat.pow_lt_pow_iff_right (a:=2) (by decide)).1 g4
   omega
 obtain ⟨V,hV⟩:∃ V:Int,V=if (n ^^ n') then -(H:Int) else (H:Int):=⟨_,rfl⟩
 have hVa:V.natAbs=H:=by rw [hV];split <;> simp
 have hV0:V≠0:=by omega
 have hVs:decide (V<0)=(n ^^ n'):=by
  rw [hV]
  cases (n ^^ n')
  ·simp
  ·simp;omega
 obtain ⟨s,r,T,w0,r0,n0,e0,e0',l0⟩:=op_nr V (n ^^ n') K (by omega) (by omega) (by rw [hVa];exact hHK)
 have hs:s=(n ^^ n'):=by rw [e0',if_neg hV0,hVs]
 have hdiv:=div_w n n' m m' h1 h2 h3 h4 H (by rw [← hA,← hB];exact hHd)
 rw [if_neg hV0,hVs,hVa] at w0
 rw [w0] at hdiv
 obtain ⟨R,hR⟩:∃ R,R=Fq.vV Ieee.double r:=⟨_,rfl⟩
 have hra:(Iv s r).natAbs=R:=by rw [iv_abs,hR]
 have hIs:Iv s r=if (n ^^ n') then -(R:Int) else (R:Int):=by unfold Iv;rw [hs,← hR]
 have hnr:2*H≤2*R+T∧2*R≤2*H+T:=by
  have:=n0.near
  rw [hV,hIs] at this
  cases (n ^^ n') <;> simp at this <;> omega
 have hlt:=n0.lt
 rw [hVa] at hlt
 have hlow:=n0.low
 rw [hVa] at hlow
 have dR:T ∣ R:=by
  have:=n0.dvd
  rw [← hra]
  exact Int.natCast_dvd_natCast.1 (Int.dvd_natAbs.2 this)
 have hnm:4503599627370496≤r:=norm_of s r (by rw [hra];omega)
 obtain ⟨e,de,hR1,hR2⟩:=norm_unit s r hnm
 have hR1':=hR1
 have hR2':=hR2
 rw [hra] at hR1' hR2'
 obtain ⟨p1,p2,p3,p4,p5,p6,p7⟩:=quot_nat A B H h q u R T ex ey e L hL hA1 hA2 hB1 hB2 x1 x2 y1 y2 hN hqB hH huq n0.two dR hnr.1 hnr.2 hlt hlow hR1' hR2' (by omega)
 have hAne:Fq.vV Ieee.double m≠0:=by rw [← hA];have:=Nat.two_pow_pos ex;omega
 refine ⟨V,s,r,K,e,ey,ex,hdiv,r0,e0,e0',by omega,by omega,by rw [hVa];exact hHK,fun d=>?_,⟨p3,by omega,by omega,p4,p2,x2⟩,⟨de,hR1,hR2⟩,⟨dy,by rw [hyb];exact hB1,by rw [hyb];exact hB2⟩,by rw [hxa];exact hA2, ?_⟩
 ·unfold sumW divW
  rw [if_neg hV0,if_neg hAne,hVs,hVa,hHd,hA,hB]
 ·intro V2 hV2
  obtain ⟨W,hW⟩:∃ W,W=2 ^ (e+ey - L):=⟨_,rfl⟩
  obtain ⟨Z,hZ⟩:∃ Z:Nat,Z=2 ^ L:=⟨_,rfl⟩
  have hZp:0<Z:=by rw [hZ];exact Nat.two_pow_pos L
  have hWp:0<W:=by rw [hW];exact Nat.two_pow_pos _
  have hWZ:2 ^ e*2 ^ ey=W*Z:=by rw [hW,hZ,← Nat.pow_add,← Nat.pow_add];congr 1;omega
  have hWZ2:2 ^ (e+ey)=W*Z:=by rw [Nat.pow_add,hWZ]
  rw [← hW]
  rw [← hZ] at hV2 p6 p7 hN
  have hWx:(W:Int) ∣ Iv n m:=by
   refine Int.dvd_trans (Int.natCast_dvd_natCast.2 ?_) dx
   rw [hW];exact Nat.pow_dvd_pow 2 p2
  have hab:V2.natAbs*Z=R*B:=by
   have g:=congrArg Int.natAbs hV2
   rw [Int.natAbs_mul,Int.natAbs_mul,Int.natAbs_natCast,hra,hyb] at g
   exact g
  have hWV:(W:Int) ∣ V2:=by
   obtain ⟨k,hk⟩:=de
   obtain ⟨j,hj⟩:=dy
   refine ⟨k*j, ?_⟩
   have g:V2*(Z:Int)=(W:Int)*(k*j)*(Z:Int):=by
    rw [hV2,hk,hj]
    have g2:((2 ^ e:Nat):Int)*((2 ^ ey:Nat):Int)=(W:Int)*(Z:Int):=by rw [← Int.natCast_mul,← Int.natCast_mul,hWZ]
    rw [show ((2 ^ e:Nat):Int)*k*(((2 ^ ey:Nat):Int)*j)=((2 ^ e:Nat):Int)*((2 ^ ey:Nat):Int)*(k*j) from by ac_rfl,g2]
    ac_rfl
   exact Int.eq_of_mul_eq_mul_right (by omega) g
  have v1:20282409603651670423947251286016*W≤V2.natAbs:=by
   have g:=Nat.mul_le_mul hR1' hB1
   rw [← hab,sq_rearr,show (4503599627370496:Nat)*4503599627370496=20282409603651670423947251286016 from by decide,hWZ,← Nat.mul_assoc] at g
   exact Nat.le_of_mul_le_mul_right g hZp
  have v2:V2.natAbs<81129638414606681695789005144064*W:=by
   have g:=Nat.mul_lt_mul'' hR2' hB2
   rw [← hab,sq_rearr,show (9007199254740992:Nat)*9007199254740992=81129638414606681695789005144064 from by decide,hWZ,← Nat.mul_assoc] at g
   exact Nat.lt_of_mul_lt_mul_right g
  -- the sign and size of what is lacking
  obtain ⟨R2,hR2x⟩:=p5
  have sg:=sgn_HR (h:Int) (q:Int) (B:Int) (R2:Int) (u:Int) (by omega) (by omega) (by omega) (by omega)
  obtain ⟨AZ,hAZ⟩:∃ x:Int,x=(A:Int)*(Z:Int):=⟨_,rfl⟩
  obtain ⟨RB,hRB⟩:∃ x:Int,x=(R:Int)*(B:Int):=⟨_,rfl⟩
  have hNi:AZ=2*((h:Int)*(B:Int)+(q:Int)):=by
   rw [hAZ,← Int.natCast_mul,hN];simp
  have hRi:RB=2*((R2:Int)*(B:Int)):=by
   rw [hRB,hR2x,Int.natCast_mul,Int.mul_assoc];rfl
  rw [← hNi,← hRi] at sg
  have hHi:(2*(h:Int)+(u:Int) - 2*(R2:Int))=(H:Int) - (R:Int):=by omega
  rw [hHi] at sg
  have hZi:(0:Int)<(Z:Int):=by omega
  have key:(Iv n m - V2)*(Z:Int)=if n then -(AZ - RB) else AZ - RB:=by
   rw [Int.sub_mul,hV2,hIs]
   have e1:Iv n m=if n then -(A:Int) else (A:Int):=by unfold Iv;rw [← hA]
   have e2:Iv n' m'=if n' then -(B:Int) else (B:Int):=by unfold Iv;rw [← hB]
   rw [e1,e2,hAZ,hRB]
   cases n <;> cases n' <;> simp [Int.neg_mul,Int.mul_neg] <;> omega
  have hsz:(Iv n m - V2).natAbs≤4503599627370496*W:=by
   refine small_of hWp (Int.dvd_sub hWx hWV) ?_
   have g:=congrArg Int.natAbs key
   rw [Int.natAbs_mul,Int.natAbs_natCast] at g
   have g2:(if n then -(AZ - RB) else AZ - RB).natAbs=(AZ - RB).natAbs:=by cases n <;> simp <;> omega
   rw [g2] at g
   have p6i:2*AZ<2*RB+9007199254740993*((W*Z:Nat):Int):=by rw [hAZ,hRB,← hWZ2,← Int.natCast_mul,← Int.natCast_mul];omega
   have p7i:2*RB<2*AZ+9007199254740993*((W*Z:Nat):Int):=by rw [hAZ,hRB,← hWZ2,← Int.natCast_mul,← Int.natCast_mul];omega
   have g3:2*((Iv n m - V2).natAbs*Z)<9007199254740993*(W*Z):=by rw [g];omega
   rw [← Nat.mul_assoc,← Nat.mul_assoc] at g3
   exact Nat.lt_of_mul_lt_mul_right g3
  refine ⟨⟨hWx,hWV,hsz,v1,v2⟩, ?_⟩
  have hVI:V - Iv s r=if (n ^^ n') then -((H:Int) - (R:Int)) else (H:Int) - (R:Int):=by
   rw [hV,hIs];cases (n ^^ n') <;> simp <;> omega
  rw [hVI]
  have t:=sgn_mul (Iv n m - V2) (Z:Int) hZi
  rw [key] at t
  cases n <;> cases n' <;> simp at t ⊢ <;> omega
theorem upw_mono (d:Int) (S r w r' w':Nat) (hw:0<w) (hw':0<w') (h:r*w'≤r'*w) (u:upw d S r w=true):upw d S r' w'=true:=by
 unfold upw at u ⊢
 by_cases c1:d=1
 ·rw [if_pos c1] at u ⊢
  have h0:0<r:=of_decide_eq_true u
  apply decide_eq_true
  have h1:0<r*w':=Nat.mul_pos h0 hw'
  rcases Nat.eq_zero_or_pos r' with e | e
  ·rw [e,Nat.zero_mul] at h;omega
  ·exact e
 ·rw [if_neg c1] at u ⊢
  by_cases c2:d = -1
  ·rw [if_pos c2] at u;cases u
  ·rw [if_neg c2] at u ⊢
   have key:∀ a b:Nat,a*w'≤b*w→w<2*a→w'<2*b:=by
    intro a b h1 h2
    rcases Nat.lt_or_ge w' (2*b) with g | g
    ·exact g
    ·exfalso
     have e1:2*b*w≤w'*w:=Nat.mul_le_mul_right _ g
     have e2:w*w'<2*a*w':=Nat.mul_lt_mul_of_pos_right h2 hw'
     have e3:2*a*w'≤2*b*w:=by rw [Nat.mul_assoc,Nat.mul_assoc];exact Nat.mul_le_mul_left _ h1
     rw [Nat.mul_comm w' w] at e1
     omega
   have key2:∀ a b:Nat,a*w'≤b*w→w=2*a→w'≤2*b:=by
    intro a b h1 h2
    rcases Nat.lt_or_ge (2*b) w' with g | g
    ·exfalso
     have e1:2*b*w<w'*w:=Nat.mul_lt_mul_of_pos_right g hw
     have e3:2*a*w'≤2*b*w:=by rw [Nat.mul_assoc,Nat.mul_assoc];exact Nat.mul_le_mul_left _ h1
     rw [← h2,Nat.mul_comm w w'] at e3
     omega
    ·exact g
   rw [Bool.or_eq_true,Bool.and_eq_true] at u ⊢
   rcases u with u | ⟨u1,u2⟩
   ·left
    exact decide_eq_true (key r r' h (of_decide_eq_true u))
   ·have e:=key2 r r' h (of_decide_eq_true u1)
    rcases Nat.lt_or_ge w' (2*r') with g | g
    ·left;exact decide_eq_true g
    ·right
     exact ⟨decide_eq_true (by omega),u2⟩
theorem rS_lt (p A B:Nat) (hB:0<B) (hp:0<p):rS p A B<2 ^ p∧(rE p A B=0∨2 ^ (p - 1)≤rS p A B):=by
 obtain ⟨h1,h2⟩:=rE_spec p A B hB hp
 have hq:0<B*2 ^ rE p A B:=Nat.mul_pos hB (Nat.two_pow_pos _)
 unfold rS
 refine ⟨?_, ?_⟩
 ·rw [Nat.div_lt_iff_lt_mul hq,Nat.mul_comm (2 ^ p),Nat.mul_assoc,← Nat.pow_add]
  exact h1
 ·rcases h2 with h2 | h2
  ·exact Or.inl h2
  ·by_cases c:rE p A B=0
   ·exact Or.inl c
   ·right
    rw [Nat.le_div_iff_mul_le hq,Nat.mul_comm (2 ^ (p - 1)),Nat.mul_assoc,← Nat.pow_add,show rE p A B+(p - 1)=rE p A B+p - 1 from by omega]
    exact h2
theorem rE_mono (p A B A' B':Nat) (hB:0<B) (hB':0<B') (h:A*B'≤A'*B):rE p A B≤rE p A' B':=by
 unfold rE
 have:A / B≤A' / B':=by
  rw [Nat.le_div_iff_mul_le hB']
  have e:A / B*B≤A:=Nat.div_mul_le_self A B
  have e2:A / B*B*B'≤A'*B:=Nat.le_trans (Nat.mul_le_mul_right _ e) h
  rw [Nat.mul_right_comm] at e2
  exact Nat.le_of_mul_le_mul_right e2 hB
 have:=blen_mono this
 omega
theorem rU_mono (d:Int) (p A B A' B':Nat) (hB:0<B) (hB':0<B') (hp:0<p) (h:A*B'≤A'*B):rU d p A B≤rU d p A' B':=by
 obtain ⟨s1,s2⟩:=rS_lt p A B hB hp
 obtain ⟨t1,t2⟩:=rS_lt p A' B' hB' hp
 have hE:=rE_mono p A B A' B' hB hB' h
 have hw:0<B*2 ^ rE p A B:=Nat.mul_pos hB (Nat.two_pow_pos _)
 have hw':0<B'*2 ^ rE p A' B':=Nat.mul_pos hB' (Nat.two_pow_pos _)
 have le1:∀ b:Bool,b.toNat≤1:=fun b=>by cases b <;> decide
 unfold rU
 by_cases c:rE p A B=rE p A' B'
 ·have hS:rS p A B≤rS p A' B':=by
   unfold rS
   rw [Nat.le_div_iff_mul_le hw']
   have e:A / (B*2 ^ rE p A B)*(B*2 ^ rE p A B)≤A:=Nat.div_mul_le_self _ _
   have e2:A / (B*2 ^ rE p A B)*(B*2 ^ rE p A B)*B'≤A'*B:=Nat.le_trans (Nat.mul_le_mul_right _ e) h
   rw [← c]
   generalize A / (B*2 ^ rE p A B)=q at *
   generalize 2 ^ rE p A B=P at *
   have e3:q*(B*P)*B'=q*(B'*P)*B:=by ac_rfl
   rw [e3] at e2
   exact Nat.le_of_mul_le_mul_right e2 hB
  rw [← c]
  apply Nat.mul_le_mul_right
  rcases Nat.lt_or_ge (rS p A B) (rS p A' B') with g | g
  ·have:=le1 (upw d (rS p A B) (rR p A B) (B*2 ^ rE p A B))
   omega
  ·have e:rS p A B=rS p A' B':=by omega
   rw [← e]
   have hu:upw d (rS p A B) (rR p A B) (B*2 ^ rE p A B)=true→upw d (rS p A B) (rR p A' B') (B'*2 ^ rE p A B)=true:=by
    apply upw_mono d _ _ _ _ _ hw (by rw [c];exact hw')
    have d1:=Nat.div_add_mod A (B*2 ^ rE p A B)
    have d2:=Nat.div_add_mod A' (B'*2 ^ rE p A' B')
    have q1:A / (B*2 ^ rE p A B)=rS p A B:=rfl
    have q2:A' / (B'*2 ^ rE p A' B')=rS p A B:=e.symm
    have q3:A % (B*2 ^ rE p A B)=rR p A B:=rfl
    have q4:A' % (B'*2 ^ rE p A' B')=rR p A' B':=rfl
    rw [q1,q3] at d1
    rw [q2,q4,← c] at d2
    generalize rR p A B=r at *
    generalize rR p A' B'=r' at *
    generalize rS p A B=q at *
    generalize 2 ^ rE p A B=P at *
    have f1:A*(B'*P)=(B*P)*q*(B'*P)+r*(B'*P):=by rw [← d1,Nat.add_mul]
    have f2:A'*(B*P)=(B'*P)*q*(B*P)+r'*(B*P):=by rw [← d2,Nat.add_mul]
    have f3:A*(B'*P)≤A'*(B*P):=by rw [← Nat.mul_assoc,← Nat.mul_assoc];exact Nat.mul_le_mul_right _ h
    have f4:(B*P)*q*(B'*P)=(B'*P)*q*(B*P):=by ac_rfl
    omega
   cases hx:upw d (rS p A B) (rR p A B) (B*2 ^ rE p A B)
   ·simp
   ·rw [hu hx];exact Nat.le_refl _
 ·have hlt:rE p A B<rE p A' B':=by omega
  have t3:2 ^ (p - 1)≤rS p A' B':=t2.resolve_left (by omega)
  have g1:(rS p A B+(upw d (rS p A B) (rR p A B) (B*2 ^ rE p A B)).toNat)*2 ^ rE p A B≤2 ^ p*2 ^ rE p A B:=by
   apply Nat.mul_le_mul_right
   have:=le1 (upw d (rS p A B) (rR p A B) (B*2 ^ rE p A B))
   omega
  have g2:2 ^ p*2 ^ rE p A B≤2 ^ (p - 1)*2 ^ rE p A' B':=by
   rw [← Nat.pow_add,← Nat.pow_add]
   exact Nat.pow_le_pow_right (by decide) (by omega)
  have g3:2 ^ (p - 1)*2 ^ rE p A' B'≤(rS p A' B'+(upw d (rS p A' B') (rR p A' B') (B'*2 ^ rE p A' B')).toNat)*2 ^ rE p A' B':=by
   apply Nat.mul_le_mul_right
   omega
  omega
theorem rgU_mono (p U U':Nat) (hp:0<p) (h:U≤U'):rgU p U≤rgU p U':=by
 have hb:=blen_mono h
 unfold rgU
 by_cases c:blen U - p=blen U' - p
 ·rw [c]
  exact Nat.add_le_add_left (Nat.div_le_div_right h) _
 ·have hlt:blen U - p<blen U' - p:=by omega
  have u1:U / 2 ^ (blen U - p)<2 ^ p:=by
   rw [Nat.div_lt_iff_lt_mul (Nat.two_pow_pos _),← Nat.pow_add]
   exact Nat.lt_of_lt_of_le ((blen_le_iff U (blen U)).1 (Nat.le_refl _)) (Nat.pow_le_pow_right (by decide) (by omega))
  have u2:2 ^ (p - 1)≤U' / 2 ^ (blen U' - p):=by
   rw [Nat.le_div_iff_mul_le (Nat.two_pow_pos _),← Nat.pow_add]
   rcases Nat.lt_or_ge U' (2 ^ (p - 1+(blen U' - p))) with g | g
   ·have:=(blen_le_iff U' _).2 g
    omega
   ·exact g
  have e:(2:Nat) ^ p=2*2 ^ (p - 1):=by rw [show p=p - 1+1 from by omega,Nat.pow_succ,Nat.add_sub_cancel];omega
  have m1:(blen U - p+1)*2 ^ (p - 1)≤(blen U' - p)*2 ^ (p - 1):=Nat.mul_le_mul_right _ (by omega)
  rw [Nat.add_mul,Nat.one_mul] at m1
  omega
theorem rgU_top (p T U:Nat) (hp:0<p) (hT:p≤T) (h:blen U≤T):rgU p U<(T - p+2)*2 ^ (p - 1):=by
 have u1:U / 2 ^ (blen U - p)<2 ^ p:=by
  rw [Nat.div_lt_iff_lt_mul (Nat.two_pow_pos _),← Nat.pow_add]
  exact Nat.lt_of_lt_of_le ((blen_le_iff U (blen U)).1 (Nat.le_refl _)) (Nat.pow_le_pow_right (by decide) (by omega))
 have e:(2:Nat) ^ p=2*2 ^ (p - 1):=by rw [show p=p - 1+1 from by omega,Nat.pow_succ,Nat.add_sub_cancel];omega
 unfold rgU
 have m1:(blen U - p)*2 ^ (p - 1)≤(T - p)*2 ^ (p - 1):=Nat.mul_le_mul_right _ (by omega)
 rw [Nat.add_mul]
 omega
theorem finG_mono (p T G I:Nat) (d:Int) (U U':Nat) (hp:0<p) (hT:p≤T) (hG:(T - p+2)*2 ^ (p - 1)=G+1) (hI:G+1=I) (h:U≤U'):finU p T G I d U≤finU p T G I d U'∧finU p T G I d U'≤I:=by
 have hb:=blen_mono h
 have k:∀ X,blen X≤T→rgU p X≤G:=fun X hX=>by have:=rgU_top p T X hp hT hX;omega
 unfold finU
 by_cases c2:blen U'≤T
 ·rw [if_pos c2,if_pos (by omega)]
  have:=k U' c2
  exact ⟨rgU_mono p U U' hp h,by omega⟩
 ·rw [if_neg c2]
  by_cases c1:blen U≤T
  ·rw [if_pos c1]
   have:=k U c1
   split <;> omega
  ·rw [if_neg c1]
   split <;> omega
def gpl (p T G I:Nat) (d:Int) (c1 c2:Nat) (V:Int):Int:=if V=0 then 0 else (if V<0 then -((finU p T G I (dirN true d) (rU (dirN true d) p (V.natAbs*c1) c2):Nat):Int) else ((finU p T G I (dirN false d) (rU (dirN false d) p (V.natAbs*c1) c2):Nat):Int))
theorem gpl_mono (p T G I:Nat) (d:Int) (c1 c2:Nat) (hc:0<c2) (hp:0<p) (hT:p≤T) (hG:(T - p+2)*2 ^ (p - 1)=G+1) (hI:G+1=I) (V V':Int) (h:V≤V'):gpl p T G I d c1 c2 V≤gpl p T G I d c1 c2 V':=by
 have mn:∀ (s:Bool) (a b:Nat),a≤b→finU p T G I (dirN s d) (rU (dirN s d) p (a*c1) c2)≤finU p T G I (dirN s d) (rU (dirN s d) p (b*c1) c2):=fun s a b hab =>
  (finG_mono p T G I (dirN s d) _ _ hp hT hG hI (rU_mono (dirN s d) p (a*c1) c2 (b*c1) c2 hc hc hp (Nat.mul_le_mul_right _ (Nat.mul_le_mul_right _ hab)))).1
 unfold gpl
 by_cases z:V=0
 ·rw [if_pos z]
  by_cases z':V'=0
  ·rw [if_pos z'];exact Int.le_refl _
  ·rw [if_neg z',if_neg (by omega)];omega
 ·rw [if_neg z]
  by_cases n:V<0
  ·rw [if_pos n]
   by_cases z':V'=0
   ·rw [if_pos z'];omega
   ·rw [if_neg z']
    by_cases n':V'<0
    ·rw [if_pos n']
     have:=mn true V'.natAbs V.natAbs (by omega)
     omega
    ·rw [if_neg n'];omega
  ·rw [if_neg n,if_neg (show ¬ V'=0 by omega),if_neg (show ¬ V'<0 by omega)]
   have:=mn false V.natAbs V'.natAbs (by omega)
   omega
theorem gpl_le (p T G I:Nat) (d:Int) (c1 c2:Nat) (hp:0<p) (hT:p≤T) (hG:(T - p+2)*2 ^ (p - 1)=G+1) (hI:G+1=I) (V:Int):-(I:Int)≤gpl p T G I d c1 c2 V∧gpl p T G I d c1 c2 V≤I:=by
 have k:=fun d U=>(finG_mono p T G I d U U hp hT hG hI (Nat.le_refl _)).2
 unfold gpl
 split
 ·omega
 ·split
  ·have:=k (dirN true d) (rU (dirN true d) p (V.natAbs*c1) c2)
   omega
  ·have:=k (dirN false d) (rU (dirN false d) p (V.natAbs*c1) c2)
   omega
end Go.Proofs.YtcfnialfpblfmaaGreatDoor
