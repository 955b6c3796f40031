import Derived.Test.YtmpjcknaelgnoaaGreatDoorKQM
import Derived.Test.YtmpjcknaelgnoaaGreatDoorKXY
namespace Go.Proofs.YtmpjcknaelgnoaaGreatDoor
open Go.RowKit
theorem jq (o:Nat)(h0:o≠0)(h:o<18446744073709551616):Lib.bitLen o=aq o:=by
 obtain⟨d,c,b,a⟩:=Fq.nY o h0 h
 have:=ed o (Lib.bitLen o-1) b (by rw[show Lib.bitLen o-1+1=Lib.bitLen o from by omega];exact a)
 omega
def pW (s:Nat)(neg:Bool)(m:Nat):Nat:=if m=0 then 0 else if neg then s+m else m
theorem FW (d:Int)(sig c:Nat)(hs:sig<1152921504606846976)(kp:Nat)(hk:kp=sig/2^c+(fw d (sig/2^c) (sig%2^c) (2^c)).toNat) :
  kp=sig/2^min c 61+(fw d (sig/2^min c 61) (sig%2^min c 61) (2^min c 61)).toNat:=by
 by_cases h:c<=61
 ·rw[cW h];exact hk
 ·rw[Nat.min_eq_right (by omega)]
  have b:(2:Nat)^61<=2^c:=al (by omega) (by omega)
  have a:(2:Nat)^61=2305843009213693952:=by decide
  rw[hk,bh (by omega:sig<2^c),aX (by omega:sig<2^c),bh (by omega:sig<2^61),aX (by omega:sig<2^61),ul d 0 sig (2^c) (2^61) (by omega) (by omega)]
theorem Dn (o:Nat)(E:Int)(h0:o≠0)(h:o<18446744073709551616)(hj:Fq.xU o E=true):Fq.Do o E=fk 53 (o*2^(E+1074).toNat):=by
 obtain⟨d,c,f⟩:=(Fq.mR o E).1 hj
 have a:=jq o h0 h
 have b:=iq 53 o (E+1074).toNat (Fq.xS o E) h0 (by unfold Fq.xS;rw[a]) (by omega)
 rw[b]
 unfold Fq.Do
 rw[show(2:Nat)^(53-1)=4503599627370496 from by decide]
theorem Dp (kp Lx U:Nat)(last:Int)(hk0:kp≠0)(hk:kp<=9007199254740992)(hl:last=(Lx:Int)-1074)(hU:U=kp*2^Lx) :
  ∃o k:Nat,o%2=1∧kp=o*2^k∧o*2^k<18446744073709551616∧(Fq.xU o (last+(k:Int))=true ↔ aq U<=2098)∧(aq U<=2098->Fq.Do o (last+(k:Int))=fk 53 U∧fk 53 U≠0):=by
 obtain⟨o,k,n,e⟩:=kr kp hk0
 have s:0<2^k:=aP (by omega)
 have m:o<=kp:=by rw[e];exact fu _ s
 have r:=jq o (by omega) (by omega)
 have p:aq o<=53:=by
  by_cases c:kp=9007199254740992
  ·by_cases l:o=1
   ·rw[l,ed 1 0 (by decide) (by decide)];omega
   ·have q:k≠0:=by
     intro h
     rw[h,aB,aG]at e
     omega
    have g:2*o<=kp:=by
     rw[e,ap 2]
     refine aR _ ?_
     have:(2:Nat)^1<=2^k:=al (by omega) (by omega)
     simpa using this
    exact gp o 53 (by rw[show(2:Nat)^53=9007199254740992 from by decide];omega)
  ·exact gp o 53 (by rw[show(2:Nat)^53=9007199254740992 from by decide];omega)
 have j:(last+(k:Int)+1074).toNat=k+Lx:=by omega
 have b:U=o*2^(last+(k:Int)+1074).toNat:=by rw[hU,e,j,ag,ak]
 have f:aq U=aq o+(k+Lx):=by rw[b,j,du _ _ (by omega)]
 have a:Fq.xU o (last+(k:Int))=true ↔ aq U<=2098:=by
  rw[Fq.mR,r,f]
  omega
 refine⟨o,k,n,e,by rw[<-e];omega,a,fun h=>⟨?_, ?_⟩⟩
 ·rw[Dn o _ (by omega) (by omega) (a.2 h),<-b]
 ·intro i
  unfold fk at i
  have d:U≠0:=by rw[b];exact dL (aQ (by omega) (aP (by omega)))
  have q:=(cK U d).1
  have g:U/2^(aq U-53)=0:=(Nat.add_eq_zero_iff.1 i).2
  have u:U<2^(aq U-53):=by
   by_cases c:U<2^(aq U-53)
   ·exact c
   ·exact absurd g (dL (Nat.div_pos (by omega) (aP (by omega))))
  have t:(2:Nat)^(aq U-53)<=2^(aq U-1):=al (by omega) (by omega)
  omega
def FL (v:Int):Prop:=∃k:Nat,(2^k:Int) ∣ v∧v.natAbs<=9007199254740992*2^k
structure Nr (v s:Int)(T:Nat):Prop where
 pos:0<T
 dvd:(T:Int) ∣ s
 near:2*(v-s).natAbs<=T
 lt:v.natAbs<9007199254740992*T
 low:T=1∨4503599627370496*T<=v.natAbs
 two:∃E:Nat,T=2^E
theorem fH {T x:Int}(_hT:0<T)(h:T ∣ x)(hx:x.natAbs<T.natAbs):x=0:=by
 obtain⟨q,rfl⟩:=h
 by_cases c:q=0
 ·rw[c,Int.mul_zero]
 ·exfalso
  rw[bI]at hx
  have:1<=q.natAbs:=by omega
  have:=aR T.natAbs this
  omega
theorem fx {j k:Nat}(h:j<=k):(2^j:Int) ∣ 2^k:=⟨2^(k-j),by rw[<-Int.pow_add];congr 1;omega⟩
theorem fQ (k:Nat):((2^k:Nat):Int)=(2:Int)^k:=by rw[Int.natCast_pow];rfl
theorem Nr.nearest {v s:Int}{T:Nat}(h:Nr v s T){B:Int}(hB:FL B):(v-s).natAbs<=(v-B).natAbs:=by
 obtain⟨k,l,n⟩:=hB
 obtain⟨E,g⟩:=h.two
 have b:∀C:Int,(T:Int) ∣ C->(v-s).natAbs<=(v-C).natAbs:=fun C hC=>by
  by_cases c:s=C
  ·rw[c];exact ao _
  ·have i:(T:Int) ∣ (C-s):=bY hC h.dvd
   have m:¬(C-s).natAbs<(T:Int).natAbs:=fun hx=>by
    have:=fH (by have:=h.pos;omega) i hx
    omega
   have j:(T:Int).natAbs=T:=by simp
   rw[j]at m
   have:=h.near
   omega
 by_cases c:E<=k
 ·exact b B (by rw[g,fQ];exact cF (fx c) l)
 ·have o:2^k*2<=T:=by
   rw[g,<-aF]
   exact al (by omega) (by omega)
  have d:¬T=1:=by have:=ah k;omega
  have f:=h.low.resolve_left d
  rcases cC v 0 with hv|hv
  ·have:=b (-(4503599627370496*(T:Int))) (Int.dvd_neg.2 (cT _ _))
   omega
  ·have:=b (4503599627370496*(T:Int)) (cT _ _)
   omega
theorem Nr.fix {v s:Int}{T:Nat}(h:Nr v s T)(hv:FL v):s=v:=by
 have:=h.nearest hv
 omega
theorem Nr.fl {v s:Int}{T:Nat}(h:Nr v s T):FL s:=by
 obtain⟨E,d⟩:=h.two
 refine⟨E,by rw[<-fQ,<-d];exact h.dvd, ?_⟩
 rw[<-d]
 have f:=h.near
 have g:=h.lt
 by_cases c:s.natAbs<=9007199254740992*T
 ·exact c
 ·exfalso
  rcases cC s 0 with hs|hs
  ·have b:(T:Int) ∣ (s+9007199254740992*(T:Int)):=Int.dvd_add h.dvd (cT _ _)
   have:=fH (by have:=h.pos;omega) b (by simp;omega)
   omega
  ·have b:(T:Int) ∣ (s-9007199254740992*(T:Int)):=bY h.dvd (cT _ _)
   have:=fH (by have:=h.pos;omega) b (by simp;omega)
   omega
theorem Nr.mul {v s:Int}{T:Nat}(h:Nr v s T)(j:Nat)(hj:(2^j:Int) ∣ v):(2^j:Int) ∣ s:=by
 obtain⟨E,a⟩:=h.two
 by_cases c:j<=E
 ·have:=h.dvd
  rw[a,fQ]at this
  exact cF (fx c) this
 ·have b:(T:Int) ∣ v:=by rw[a,fQ];exact cF (fx (by omega)) hj
  have d:(T:Int) ∣ (v-s):=bY b h.dvd
  have:=fH (by have:=h.pos;omega) d (by have:=h.near;have:=h.pos;simp;omega)
  rw[show s=v from by omega];exact hj
theorem FL.neg {v:Int}(h:FL v):FL (-v):=by
 obtain⟨k,a,b⟩:=h
 exact⟨k,Int.dvd_neg.2 a,by rw[dP];exact b⟩
theorem FL.zero:FL 0:=⟨0,Int.dvd_zero _,by simp⟩
theorem Nr.neg {v s:Int}{T:Nat}(h:Nr v s T):Nr (-v) (-s) T:=by
 obtain⟨b,c,g,d,f,a⟩:=h
 exact⟨b,Int.dvd_neg.2 c,by omega,by omega,by omega,a⟩
theorem FL.both {x y:Int}(hx:FL x)(hy:FL y):∃j:Nat,(2^j:Int) ∣ x∧(2^j:Int) ∣ y∧(x.natAbs<=9007199254740992*2^j∨y.natAbs<=9007199254740992*2^j):=by
 obtain⟨k,a,f⟩:=hx
 obtain⟨l,b,d⟩:=hy
 by_cases c:k<=l
 ·exact⟨k,a,cF (fx c) b,Or.inl f⟩
 ·exact⟨l,cF (fx (by omega)) a,b,Or.inr d⟩
theorem FL.diff {x y d:Int}(hx:FL x)(hy:FL y)(hd:∀j:Nat,(2^j:Int) ∣ x->(2^j:Int) ∣ y->(2^j:Int) ∣ d)(h1:d.natAbs<=x.natAbs)(h2:d.natAbs<=y.natAbs):FL d:=by
 obtain⟨j,a,b,c⟩:=hx.both hy
 exact⟨j,hd j a b,by rcases c with c|c<;>omega⟩
theorem my {x y:Int}(hx:FL x)(hy:FL y)(h:(x-y).natAbs<=x.natAbs∧(x-y).natAbs<=y.natAbs):FL (x-y) :=
 FL.diff hx hy (fun _ a b=>bY a b) h.1 h.2
theorem xm {x y s:Int}{T:Nat}(hx:FL x)(hy:FL y)(h:Nr (x+y) s T):FL (x+y-s):=by
 refine FL.diff hx hy (fun j a b=>?_) ?_ ?_
 ·exact bY (Int.dvd_add a b) (h.mul j (Int.dvd_add a b))
 ·have:=h.nearest hy;omega
 ·have:=h.nearest hx;omega
theorem FL.unit {x:Int}(hx:FL x)(E:Nat)(h:9007199254740992*2^E<x.natAbs):(2^(E+1):Int) ∣ x:=by
 obtain⟨k,a,b⟩:=hx
 by_cases c:E+1<=k
 ·exact cF (fx c) a
 ·exfalso
  have:2^k<=2^E:=al (by omega) (by omega)
  omega
theorem tX {x y s:Int}{T:Nat}(hx:FL x)(hy:FL y)(h:Nr (x+y) s T)(hxy:y.natAbs<=x.natAbs):FL (s-x):=by
 by_cases p:s=x+y
 ·rw[p,show x+y-x=y from by omega];exact hy
 ·obtain⟨E,i⟩:=h.two
  have u:=h.near
  have H:=h.lt
  have j:¬T=1:=fun e=>by
   rw[e]at u
   omega
  have o:=h.low.resolve_left j
  have z:E≠0:=fun e=>j (by rw[i,e,aB])
  obtain⟨F,rfl⟩:∃F,E=F+1:=⟨E-1,by omega⟩
  obtain⟨S,b⟩:=aA (2^F)
  have C:T=2*S:=by rw[i,b,aF];omega
  have B:0<S:=by rw[b];exact ah F
  have g:(T:Int) ∣ s:=h.dvd
  by_cases D:(0<=x∧0<=y)∨(x<=0∧y<=0)
  ·
   have d:((2:Int)^F) ∣ x:=by
    by_cases c:9007199254740992*2^F<x.natAbs
    ·exact cF (fx (by omega)) (hx.unit F c)
    ·
     by_cases c2:F=0
     ·rw[c2,Int.pow_zero];exact Int.one_dvd _
     ·obtain⟨G,rfl⟩:∃G,F=G+1:=⟨F-1,by omega⟩
      by_cases c3:9007199254740992*2^G<x.natAbs
      ·exact hx.unit G c3
      ·have A:2^(G+1)=2*2^G:=by rw[aF];omega
       have t:x.natAbs=4503599627370496*2^(G+1):=by omega
       rcases cC x 0 with hs|hs
       ·have e:x = -(4503599627370496*(2:Int)^(G+1)):=by rw[<-fQ];omega
        rw[e];exact Int.dvd_neg.2 (cT _ _)
       ·have e:x=4503599627370496*(2:Int)^(G+1):=by rw[<-fQ];omega
        rw[e];exact cT _ _
   have m:((2:Int)^F) ∣ s:=by
    rw[i,fQ]at g
    exact cF (fx (by omega)) g
   refine⟨F,bY m d, ?_⟩
   rw[<-b]
   by_cases c:9007199254740992*2^F<2*y.natAbs
   ·by_cases c2:F=0
    ·have:S=1:=by rw[b,c2]
     omega
    ·obtain⟨G,rfl⟩:∃G,F=G+1:=⟨F-1,by omega⟩
     have A:2^(G+1)=2*2^G:=by rw[aF];omega
     have l:=hy.unit G (by omega)
     rw[<-b]at c
     have n:(S:Int) ∣ (y.natAbs:Int)-9007199254740992*(S:Int):=by
      refine bY ?_ (cT _ _)
      rw[b,fQ]
      exact Int.dvd_natAbs.2 l
     by_cases c4:y.natAbs+S<=9007199254740992*S
     ·omega
     ·have:=fH (by omega) n (by simp;omega)
      omega
   ·rw[<-b]at c;omega
  ·
   have q:¬((x - -y).natAbs<=x.natAbs∧(x - -y).natAbs<=(-y).natAbs):=fun hh=>by
    have r:=my hx hy.neg hh
    rw[show x - -y=x+y from by omega]at r
    exact p (h.fix r)
   have d:((2:Int)^(F+1)) ∣ x:=hx.unit F (by rw[<-b];omega)
   have f:(T:Int) ∣ (s-x):=bY g (by rw[i,fQ];exact d)
   refine⟨F+1,by rw[<-fQ,<-i];exact f, ?_⟩
   rw[<-i]
   by_cases c:(s-x).natAbs<=9007199254740992*T
   ·exact c
   ·exfalso
    rcases cC (s-x) 0 with hs|hs
    ·have k:(T:Int) ∣ (s-x+9007199254740992*(T:Int)):=Int.dvd_add f (cT _ _)
     have:=fH (by omega) k (by simp;omega)
     omega
    ·have k:(T:Int) ∣ (s-x-9007199254740992*(T:Int)):=bY f (cT _ _)
     have:=fH (by omega) k (by simp;omega)
     omega
theorem ot {x y s p d1 d2 d3 o:Int}{T0 T1 T2 T3 T4 T5:Nat}(hx:FL x)(hy:FL y)(h0:Nr (x+y) s T0)(h1:Nr (s-x) p T1)(h2:Nr (s-p) d1 T2)(h3:Nr (x-d1) d2 T3)(h4:Nr (y-p) d3 T4)(h5:Nr (d2+d3) o T5):o=x+y-s:=by
 have k:=xm hx hy h0
 by_cases m:s-x=p∧True
 ·
  have b:p=s-x:=m.1.symm
  have d:d1=x:=by
   have:=h2.fix (by rw[b,show s-(s-x)=x from by omega];exact hx)
   omega
  have g:d2=0:=by
   have:=h3.fix (by rw[d,show x-x=0 from by omega];exact FL.zero)
   omega
  have j:d3=x+y-s:=by
   have:=h4.fix (by rw[b,show y-(s-x)=x+y-s from by omega];exact k)
   omega
  have:=h5.fix (by rw[g,j,show(0:Int)+(x+y-s)=x+y-s from by omega];exact k)
  omega
 ·have b:p≠s-x:=fun e=>m ⟨e.symm,trivial⟩
  have B:x.natAbs<y.natAbs:=by
   rcases cO x.natAbs y.natAbs with h|h
   ·exact h
   ·exact absurd (h1.fix (tX hx hy h0 h)) b
  have l:s≠x+y:=fun e=>by
   have:=h1.fix (by rw[e,show x+y-x=y from by omega];exact hy)
   exact b this
  have c:=h0.fl
  have f:x.natAbs<=s.natAbs:=by
   have E:=h0.nearest hx
   have C:=h0.nearest hx.neg
   have r:¬((x - -y).natAbs<=x.natAbs∧(x - -y).natAbs<=(-y).natAbs):=fun hh=>by
    have q:=my hx hy.neg hh
    rw[show x - -y=x+y from by omega]at q
    exact l (h0.fix q)
   omega
  have a:Nr (s + -x) p T1:=by rw[show s + -x=s-x from by omega];exact h1
  have u:=tX c hx.neg a (by rw[dP];exact f)
  have d:d1=s-p:=h2.fix (by rw[show s-p = -(p-s)from by omega];exact u.neg)
  have z:=xm c hx.neg a
  have g:d2=x-d1:=h3.fix (by rw[d,show x-(s-p) = -(s + -x-p)from by omega];exact z.neg)
  have A:=h0.near
  have i:¬T0=1:=fun e=>by rw[e]at A;omega
  have n:=h0.low.resolve_left i
  have D:=h1.nearest hy
  have t:FL (y-p):=my hy h1.fl ⟨by omega,by omega⟩
  have j:d3=y-p:=h4.fix t
  have:=h5.fix (by rw[g,j,d,show x-(s-p)+(y-p)=x+y-s from by omega];exact k)
  omega
open Ieee in
theorem mW (neg:Bool)(n drop:Nat):Toward.even.cut neg n drop=n/2^drop+(fw 0 (n/2^drop) (n%2^drop) (2^drop)).toNat:=by
 unfold Toward.cut
 simp only[dw,aN]
 have a:∀S r w:Nat,fw 0 S r w=(decide (w<2*r) || (w == 2*r && S%2 == 1)):=fun S r w=>by
  unfold fw
  simp
  rfl
 rcases cO (n.log2+2) drop with c|c
 ·rw[Nat.min_eq_right (by omega)]
  have h:n<2^(n.log2+1):=Nat.lt_log2_self
  have f:2^(n.log2+2)=2*2^(n.log2+1):=by rw[aF];omega
  have j:2^(n.log2+2)<=2^drop:=al (by omega) (by omega)
  rw[bh (show n<2^(n.log2+2)by omega),aX (show n<2^(n.log2+2)by omega),bh (show n<2^drop by omega),aX (show n<2^drop by omega),a]
  have d:¬2^(n.log2+2)<2*n:=by omega
  have b:¬2^drop<2*n:=by omega
  have g:¬2^(n.log2+2)=2*n:=by omega
  have i:¬2^drop=2*n:=by omega
  simp[d,b]
 ·rw[cW c,a]
theorem tg (A:Nat):Nr (A:Int) ((rU 0 53 A 1:Nat):Int) (2^rE 53 A 1):=by
 obtain⟨m,l⟩:=iu 53 A 1 (by omega) (by omega)
 obtain⟨E,c⟩:=aA (rE 53 A 1)
 obtain⟨T,a⟩:=aA (2^E)
 have b:0<T:=by rw[a];exact ah E
 have k:rU 0 53 A 1=(A/T+(fw 0 (A/T) (A%T) T).toNat)*T:=by
  unfold rU rS rR
  rw[<-c,aN,<-a]
 rw[<-c,aN,ag,<-a,show(2:Nat)^53=9007199254740992 from by decide]at m
 rw[k,<-c,<-a]
 have d:=bU A T
 have f:=bZ A b
 obtain⟨Q,i⟩:=aA (A/T)
 obtain⟨r,g⟩:=aA (A%T)
 rw[<-i,<-g]at d
 rw[<-g]at f
 rw[<-i,<-g]
 refine⟨b,⟨((Q+(fw 0 Q r T).toNat:Nat):Int),by rw[aK,Int.mul_comm]⟩, ?_,by rw[aU];omega, ?_,⟨E,a⟩⟩
 ·have n:T*Q=Q*T:=ap _ _
  cases hu:fw 0 Q r T
  ·have j:¬T<2*r:=fun h=>by unfold fw at hu;simp at hu;omega
   simp only[Bool.toNat_false,bi]
   omega
  ·have j:T<=2*r:=by
    unfold fw at hu
    simp at hu
    omega
   simp only[Bool.toNat_true]
   have:(Q+1)*T=Q*T+T:=by rw[aH,aN]
   omega
 ·rw[aU]
  rcases l with h|h
  ·left;rw[a,c,h,aB]
  ·right
   rw[<-c,aN,show E+53-1=E+52 from by omega,ag,<-a,show(2:Nat)^52=4503599627370496 from by decide]at h
   omega
theorem gP (A:Nat)(d:Int)(E K:Nat)(hE:E=rE 53 A 1)(hK:K=rS 53 A 1+(fw d (rS 53 A 1) (rR 53 A 1) (1*2^rE 53 A 1)).toNat):rU d 53 A 1=K*2^E∧K<=9007199254740992∧(E=0->K<9007199254740992)∧(E=0∨4503599627370496<=K)∧fk 53 (rU d 53 A 1)=E*4503599627370496+K∧(aq (rU d 53 A 1)<=2098 ↔ E*4503599627370496+K<9218868437227405312):=by
 obtain⟨o,q⟩:=iu 53 A 1 (by omega) (by omega)
 have r:rU d 53 A 1=K*2^E:=by unfold rU;rw[<-hK,<-hE]
 rw[<-hE]at o q
 rw[aN,ag,show(2:Nat)^53=9007199254740992 from by decide]at o
 have f:0<2^E:=ah E
 have b:rS 53 A 1=A/2^E:=by unfold rS;rw[<-hE,aN]
 have n:rR 53 A 1=A%2^E:=by unfold rR;rw[<-hE,aN]
 have u:rS 53 A 1<9007199254740992:=by rw[b,bz f,ap];exact o
 have z:E=0∨4503599627370496<=rS 53 A 1:=by
  rcases q with h|h
  ·exact Or.inl h
  ·right
   rw[aN,show E+53-1=52+E from by omega,ag,show(2:Nat)^52=4503599627370496 from by decide]at h
   rw[b,bj f]
   exact h
 have B:(fw d (rS 53 A 1) (rR 53 A 1) (1*2^rE 53 A 1)).toNat<=1:=Bool.toNat_le _
 have l:K<=9007199254740992:=by omega
 have c:E=0->K<9007199254740992:=fun h=>by
  have y:rR 53 A 1=0:=by rw[n,h,aB,fW]
  rw[y,eC _ _ _ (by rw[aN];exact ah _)]at hK
  simp at hK
  omega
 have j:E=0∨4503599627370496<=K:=by omega
 refine⟨r,l,c,j, ?_⟩
 rw[r]
 by_cases k:K=0
 ·have i:E=0:=by omega
  rw[k,i,aM,gR,cP]
  omega
 ·by_cases p:K=9007199254740992
  ·have C:0<E:=by
    rcases bS E with h|h
    ·exact absurd (c h) (by omega)
    ·exact h
   have t:K*2^E=4503599627370496*2^(E+1):=by rw[p,aF];omega
   have a:aq 4503599627370496=53:=by
    have:=ed 4503599627370496 52 (by decide) (by decide)
    exact this
   rw[t,iq 53 4503599627370496 (E+1) 0 (by decide) (by rw[a];omega) (by rw[a];omega),du _ _ (by decide),a,show(2:Nat)^(53-1)=4503599627370496 from by decide,aB,aG,p]
   constructor
   ·omega
   ·omega
  ·have g:K<9007199254740992:=by omega
   by_cases c2:E=0
   ·rw[c2,aB,aG]
    have m:aq K<=53:=by rw[ay,show(2:Nat)^53=9007199254740992 from by decide];exact g
    have:fk 53 K=K:=by
     unfold fk
     rw[show aq K-53=0 from by omega,aM,aB,fy,bJ]
    rw[this]
    omega
   ·have s:4503599627370496<=K:=by omega
    have a:aq K=53:=by
     have m:aq K<=53:=by rw[ay,show(2:Nat)^53=9007199254740992 from by decide];exact g
     have x:¬aq K<=52:=by rw[ay,show(2:Nat)^52=4503599627370496 from by decide];omega
     omega
    rw[iq 53 K E 0 k (by rw[a];omega) (by omega),du _ _ k,a,show(2:Nat)^(53-1)=4503599627370496 from by decide,aB,aG]
    constructor
    ·omega
    ·omega
def Iv (n:Bool)(m:Nat):Int:=if n then -((Fq.vV Ieee.double m:Nat):Int) else ((Fq.vV Ieee.double m:Nat):Int)
theorem xE:Ieee.double.leastPlace = -1074:=by decide +kernel
theorem DQ:Ieee.double.fractionBits=52:=rfl
theorem BX (n:Bool)(r:Nat):Ieee.double.word n r=Fq.wD n r:=by unfold Ieee.Format.word Fq.wD;rw[Fq.Be]
theorem jx (m:Nat)(h:m≠0):aq m=m.log2+1:=by unfold aq;rw[if_neg h]
open Ieee in
theorem jk (f:Format)(neg:Bool)(mag:Nat)(place:Int)(h:mag≠0):f.nearest neg mag place=f.word neg (min ((max (place+(mag.log2:Nat)-(f.fractionBits:Nat)) f.leastPlace-f.leastPlace).toNat*f.binade+Toward.even.cut neg (mag <<< (place-max (place+(mag.log2:Nat)-(f.fractionBits:Nat)) f.leastPlace).toNat) (max (place+(mag.log2:Nat)-(f.fractionBits:Nat)) f.leastPlace-place).toNat) f.infRung):=by
 unfold Format.nearest
 rw[if_neg h]
theorem mL (neg:Bool)(mag:Nat)(place:Int)(t:Nat)(ht:(t:Int)=place+1074):Ieee.double.nearest neg mag place=Fq.wD neg (dK 53 2098 9218868437227405311 9218868437227405312 0 (rU 0 53 (mag*2^t) 1)):=by
 by_cases c:mag=0
 ·unfold Ieee.Format.nearest
  rw[if_pos c,BX,c,aM]
  have n:rU 0 53 0 1=0:=by
   unfold rU rS rR
   rw[ei,eR,eC _ _ _ (by rw[aN];exact ah _)]
   simp
  rw[n]
  unfold dK
  rw[cP,if_pos (by omega),gR]
 ·rw[jk _ _ _ _ c,BX,xE,DQ,Fq.D9,Fq.yc]
  obtain⟨A,d⟩:=aA (mag*2^t)
  have g:aq A=mag.log2+1+t:=by rw[d,du _ _ c,jx mag c]
  obtain⟨E,i⟩:=aA (rE 53 A 1)
  have m:E=mag.log2+t-52:=by rw[i];unfold rE;rw[fy,g];omega
  obtain⟨a,k⟩:∃a:Int,a=max (place+(mag.log2:Nat)-((52:Nat):Int)) (-1074):=⟨_,rfl⟩
  have o:(E:Int)=a+1074:=by rw[k];omega
  obtain⟨K,j⟩:=aA (rS 53 A 1+(fw 0 (rS 53 A 1) (rR 53 A 1) (1*2^rE 53 A 1)).toNat)
  have b:Ieee.Toward.even.cut neg (mag <<< (place-a).toNat) (a-place).toNat=K:=by
   rw[mW,j]
   unfold rS rR
   rw[<-i,aN,dw]
   by_cases q:E<=t
   ·rw[show(place-a).toNat=t-E from by omega,show(a-place).toNat=0 from by omega,aB,fy,fW,eC _ _ _ (by omega)]
    have f:A=mag*2^(t-E)*2^E:=by rw[d,ak,<-ag];congr 2;omega
    rw[f,eg _ (ah E),Nat.mul_mod_left,eC _ _ _ (ah E)]
   ·rw[show(place-a).toNat=0 from by omega,show(a-place).toNat=E-t from by omega,aB,aG]
    have f:2^E=2^(E-t)*2^t:=by rw[<-ag];congr 1;omega
    rw[d,f,cQ _ _ (ah t),cI,iE _ _ _ _ _ (ah t)]
  rw[<-k]
  rw[b,show(a-(-1074)).toNat=E from by omega,<-d]
  obtain⟨_,_,_,_,p,l⟩:=gP A 0 E K i j
  unfold dK
  congr 1
  by_cases c2:aq (rU 0 53 A 1)<=2098
  ·rw[if_pos c2,p];exact cW (bO (l.1 c2))
  ·rw[if_neg c2,if_neg (by decide)]
   exact Nat.min_eq_right (Nat.le_of_not_lt (fun h=>c2 (l.2 h)))
theorem jS (A:Nat)(d:Int):Fq.vV Ieee.double (fk 53 (rU d 53 A 1))=rU d 53 A 1:=by
 obtain⟨E,i⟩:=aA (rE 53 A 1)
 obtain⟨K,f⟩:=aA (rS 53 A 1+(fw d (rS 53 A 1) (rR 53 A 1) (1*2^rE 53 A 1)).toNat)
 obtain⟨g,j,l,k,h,_⟩:=gP A d E K i f
 rw[h,g]
 unfold Fq.vV Fq.mM Fq.eE
 rw[Fq.D9]
 by_cases a:E*4503599627370496+K<4503599627370496
 ·have:E=0:=by omega
  rw[if_pos a,if_pos a,this];simp
 ·rw[if_neg a,if_neg a]
  by_cases c:K=9007199254740992
  ·rw[c,show(E*4503599627370496+9007199254740992)/4503599627370496=E+2 from by omega,show(E*4503599627370496+9007199254740992)%4503599627370496=0 from by omega,show E+2-1=E+1 from by omega,aF]
   omega
  ·have b:4503599627370496<=K:=by omega
   rw[show(E*4503599627370496+K)/4503599627370496=E+1 from by omega,show(E*4503599627370496+K)%4503599627370496=K-4503599627370496 from by omega,show 4503599627370496+(K-4503599627370496)=K from by omega,b6]
open Ieee in
theorem mA (n:Bool)(m u v:Nat):signed n m u*((2^v:Nat):Int)=if n then -((m*2^(u+v):Nat):Int) else ((m*2^(u+v):Nat):Int):=by
 unfold signed
 rw[dw]
 cases n
 ·simp[ag,fd]
 ·simp[ag,fd,bF]
theorem yJ (n n':Bool)(m m':Nat)(h:m<9218868437227405312)(h':m'<9218868437227405312)(V:Int)(hV:V=Iv n m+Iv n' m') :
  FloatKind.f64.format.add (Fq.wD n m) (Fq.wD n' m')=some (Fq.wD (if V=0 then n && n' else decide (V<0)) (dK 53 2098 9218868437227405311 9218868437227405312 0 (rU 0 53 V.natAbs 1))):=by
 show Ieee.double.add _ _=_
 unfold Ieee.Format.add
 rw[Fq.jZ _ _ (by rw[Fq.Em n m (by omega),Fq.yc];exact h),Fq.jZ _ _ (by rw[Fq.Em n' m' (by omega),Fq.yc];exact h'),Fq.Em n m (by omega),Fq.Em n' m' (by omega),Fq.Hm n m (by omega),Fq.Hm n' m' (by omega),xE]
 unfold Ieee.Datum.sum
 obtain⟨e,o⟩:=aA (Fq.eE Ieee.double m)
 obtain⟨d,g⟩:=aA (Fq.eE Ieee.double m')
 obtain⟨a,p⟩:=aA (Fq.mM Ieee.double m)
 obtain⟨s,i⟩:=aA (Fq.mM Ieee.double m')
 rw[<-o,<-g,<-p,<-i]
 obtain⟨b,u⟩:=aA (min e d)
 simp only
 rw[show min (-1074+(e:Int)) (-1074+(d:Int)) = -1074+(b:Int)from by omega,show(-1074+(e:Int)-(-1074+(b:Int))).toNat=e-b from by omega,show(-1074+(d:Int)-(-1074+(b:Int))).toNat=d-b from by omega]
 obtain⟨t,k⟩:=aA (Ieee.signed n a (e-b)+Ieee.signed n' s (d-b))
 have f:t*((2^b:Nat):Int)=V:=by
  rw[k,Int.add_mul,mA,mA,hV,show e-b+b=e from by omega,show d-b+b=d from by omega]
  unfold Iv Fq.vV
  rw[<-o,<-g,<-p,<-i]
 have q:(0:Int)<((2^b:Nat):Int):=by have:=ah b;omega
 rw[<-k]
 simp only[Option.map_some]
 unfold Ieee.Format.write
 simp only
 rw[mL _ _ _ b (by omega)]
 have j:t.natAbs*2^b=V.natAbs:=by rw[<-f,bI,aU]
 rw[j]
 have l:t=0 ↔ V=0:=by
  constructor
  ·intro h;rw[<-f,h,bV]
  ·intro h;rw[h]at f
   rcases Int.mul_eq_zero.1 f with h|h
   ·exact h
   ·omega
 have r:t<0 ↔ V<0:=by
  rw[<-f]
  constructor
  ·intro h;exact bQ h q
  ·intro h
   rcases cC t 0 with c|c
   ·exact c
   ·have:=b8 c (bT q);omega
 by_cases c:t=0
 ·rw[if_pos c,if_pos (l.1 c)]
 ·rw[if_neg c,if_neg (fun h=>c (l.2 h)),decide_eq_decide.2 r]
theorem G1 (A:Nat):(A<rU 0 53 A 1->fk 53 (rU (-1) 53 A 1)+1=fk 53 (rU 0 53 A 1))∧(rU 0 53 A 1<=A->fk 53 (rU (-1) 53 A 1)=fk 53 (rU 0 53 A 1))∧(rU 0 53 A 1<A->fk 53 (rU 1 53 A 1)=fk 53 (rU 0 53 A 1)+1)∧(A<=rU 0 53 A 1->fk 53 (rU 1 53 A 1)=fk 53 (rU 0 53 A 1)):=by
 obtain⟨E,a⟩:=aA (rE 53 A 1)
 obtain⟨q,i⟩:=aA (rS 53 A 1)
 obtain⟨r,g⟩:=aA (rR 53 A 1)
 obtain⟨T,d⟩:=aA (2^E)
 have o:0<T:=by rw[d];exact ah E
 have u:A=q*T+r:=by
  rw[i,g,d,a];unfold rS rR;rw[aN,ap];exact(bU _ _).symm
 have s:r<T:=by rw[g,d,a];unfold rR;rw[aN];exact bZ _ (ah _)
 have k:=gP A 0 E (q+(fw 0 q r T).toNat) a (by rw[i,g,d,a,aN])
 have n:=gP A 1 E (q+(fw 1 q r T).toNat) a (by rw[i,g,d,a,aN])
 have j:=gP A (-1) E (q+(fw (-1) q r T).toNat) a (by rw[i,g,d,a,aN])
 rw[<-d]at k n j
 have p:fw 1 q r T=decide (0<r):=by unfold fw;simp
 have t:fw (-1) q r T=false:=by unfold fw;simp
 rw[p]at n
 rw[t]at j
 rw[k.2.2.2.2.1,n.2.2.2.2.1,j.2.2.2.2.1,k.1]
 have f:∀b:Bool,(q+b.toNat)*T=q*T+b.toNat*T:=fun b=>aH _ _ _
 rw[f]
 have l:fw 0 q 0 T=false:=eC _ _ _ o
 cases hu:fw 0 q r T
 ·simp only[Bool.toNat_false,aM,bi]
  by_cases c:0<r
  ·rw[af c]
   simp only[Bool.toNat_true]
   refine⟨fun h=>by omega,fun _=>trivial,fun _=>by omega,fun h=>by omega⟩
  ·rw[ae c]
   simp only[Bool.toNat_false,bi]
   refine⟨fun h=>by omega,fun _=>trivial,fun h=>by omega,fun _=>trivial⟩
 ·have m:0<r:=by
   rcases bS r with h|h
   ·rw[h,l]at hu;cases hu
   ·exact h
  rw[af m]
  simp only[Bool.toNat_true,Bool.toNat_false,aN,bi]
  refine⟨fun _=>by omega,fun h=>by omega,fun h=>by omega,fun _=>trivial⟩
theorem t8 (A:Nat)(d:Int)(h1:d≠1)(h2:d≠-1):rU d 53 A 1=rU 0 53 A 1:=by
 unfold rU
 have e:∀S r w:Nat,fw d S r w=fw 0 S r w:=fun S r w=>by unfold fw;rw[if_neg h1,if_neg h2,if_neg (by decide),if_neg (by decide)]
 rw[e]
def fg (d V:Int):Nat:=if V=0 then 0 else gO (decide (V<0)) (dK 53 2098 9218868437227405311 9218868437227405312 (dU (decide (V<0)) d) (rU (dU (decide (V<0)) d) 53 V.natAbs 1))
theorem tz (A:Nat)(d:Int)(k:Nat)(hk:53<=k)(h:A<2^k):aq (rU d 53 A 1)<=k+1:=by
 obtain⟨E,c⟩:=aA (rE 53 A 1)
 obtain⟨K,f⟩:=aA (rS 53 A 1+(fw d (rS 53 A 1) (rR 53 A 1) (1*2^rE 53 A 1)).toNat)
 obtain⟨l,g,o,m,n,_⟩:=gP A d E K c f
 rw[l]
 have a:E<=k-53:=by
  rw[c];unfold rE;rw[fy]
  have:=(ay A k).2 h
  omega
 rw[ay]
 have j:2^E<=2^(k-53):=al (by omega) a
 have i:2^(k+1)=2^54*2^(k-53):=by rw[<-ag];congr 1;omega
 rw[i,show(2:Nat)^54=18014398509481984 from by decide]
 have b:=ah (k-53)
 calc K*2^E<=9007199254740992*2^(k-53):=dB g j
  _<18014398509481984*2^(k-53):=am (by decide) b
theorem lj (A:Nat)(d d2:Int)(k:Nat)(hk:53<=k)(hk2:k<=2097)(h:A<2^k):dK 53 2098 9218868437227405311 9218868437227405312 d2 (rU d 53 A 1)=fk 53 (rU d 53 A 1)∧fk 53 (rU d 53 A 1)<9218868437227405312:=by
 have c:=tz A d k hk h
 have a:aq (rU d 53 A 1)<=2098:=by omega
 constructor
 ·unfold dK;rw[if_pos a]
 ·have b:=gP A d _ _ rfl rfl
  rw[b.2.2.2.2.1];exact b.2.2.2.2.2.1 a
theorem fp (V:Int)(sz:Bool)(k:Nat)(hk:53<=k)(hk2:k<=2097)(h:V.natAbs<2^k):∃s r T,Fq.wD (if V=0 then sz else decide (V<0)) (dK 53 2098 9218868437227405311 9218868437227405312 0 (rU 0 53 V.natAbs 1))=Fq.wD s r∧r<9218868437227405312∧Nr V (Iv s r) T∧r=fk 53 (rU 0 53 V.natAbs 1)∧s=(if V=0 then sz else decide (V<0))∧(Iv s r).natAbs<2^(k+1):=by
 obtain⟨g,i⟩:=lj V.natAbs 0 0 k hk hk2 h
 have a:Iv (if V=0 then sz else decide (V<0)) (fk 53 (rU 0 53 V.natAbs 1))=if V<0 then -((rU 0 53 V.natAbs 1:Nat):Int) else ((rU 0 53 V.natAbs 1:Nat):Int):=by
  unfold Iv
  rw[jS]
  by_cases c:V=0
  ·have j:rU 0 53 V.natAbs 1=0:=by
    rw[c]
    unfold rU rS rR
    rw[Int.natAbs_zero,ei,eR,eC _ _ _ (by rw[aN];exact ah _)]
    simp
   have b:¬V<0:=by rw[c];decide
   rw[j,if_neg b]
   simp
  ·rw[if_neg c]
   by_cases c2:V<0
   ·rw[af c2,if_pos rfl,if_pos c2]
   ·rw[ae c2,if_neg (by simp),if_neg c2]
 refine⟨_,_,2^rE 53 V.natAbs 1,by rw[g],i, ?_,rfl,rfl, ?_⟩
 ·rw[a]
  have b:=tg V.natAbs
  by_cases c2:V<0
  ·rw[if_pos c2]
   have e:V = -((V.natAbs:Nat):Int):=by omega
   have d:=b.neg
   rw[<-e]at d
   exact d
  ·rw[if_neg c2]
   have e:((V.natAbs:Nat):Int)=V:=by omega
   rw[e]at b
   exact b
 ·rw[a]
  have f:=(ay _ _).1 (tz V.natAbs 0 k hk h)
  split
  ·rw[dP,aU];exact f
  ·rw[aU];exact f
theorem tR (n:Bool)(m:Nat):FL (Iv n m):=by
 have h:FL ((Fq.vV Ieee.double m:Nat):Int):=by
  unfold Fq.vV
  refine⟨Fq.eE Ieee.double m,by rw[aK,fQ];exact cT _ _, ?_⟩
  rw[aU]
  refine ai _ ?_
  unfold Fq.mM
  rw[Fq.D9]
  split<;>omega
 unfold Iv
 cases n
 ·exact h
 ·exact h.neg
theorem sd (n:Bool)(m:Nat):Iv (!n) m = -Iv n m:=by unfold Iv;cases n<;>simp
theorem ip (n n':Bool)(m m':Nat)(h:m<9218868437227405312)(h':m'<9218868437227405312)(V:Int)(hV:V=Iv n m-Iv n' m') :
  FloatKind.f64.format.sub (Fq.wD n m) (Fq.wD n' m')=some (Fq.wD (if V=0 then n && !n' else decide (V<0)) (dK 53 2098 9218868437227405311 9218868437227405312 0 (rU 0 53 V.natAbs 1))):=by
 have a:=yJ n (!n') m m' h h' V (by rw[sd,hV];omega)
 rw[<-a]
 show Ieee.double.sub _ _=Ieee.double.add _ _
 unfold Ieee.Format.sub Ieee.Format.add
 rw[Fq.jZ _ (Fq.wD n' m') (by rw[Fq.Em n' m' (by omega),Fq.yc];exact h'),Fq.jZ _ (Fq.wD (!n') m') (by rw[Fq.Em (!n') m' (by omega),Fq.yc];exact h'),Fq.Em n' m' (by omega),Fq.Em (!n') m' (by omega),Fq.Hm n' m' (by omega),Fq.Hm (!n') m' (by omega)]
 rfl
theorem gm {a b:Int}{K L:Nat}(ha:a.natAbs<2^K)(hb:b.natAbs<2^L)(h:L<=K):(a+b).natAbs<2^(K+1)∧(a-b).natAbs<2^(K+1):=by
 have c:2^L<=2^K:=al (by omega) h
 have d:2^(K+1)=2*2^K:=by rw[aF];omega
 omega
theorem gI {a b:Int}{K L:Nat}(ha:a.natAbs<2^K)(hb:b.natAbs<2^L)(h:K<=L):(a+b).natAbs<2^(L+1)∧(a-b).natAbs<2^(L+1):=by
 have c:2^K<=2^L:=al (by omega) h
 have d:2^(L+1)=2*2^L:=by rw[aF];omega
 omega
theorem um (n n':Bool)(m m' K:Nat)(hK:53<=K)(hK2:K+12<=2097)(hm:m<9218868437227405312)(hm':m'<9218868437227405312)(hx:(Iv n m).natAbs<2^K)(hy:(Iv n' m').natAbs<2^K)(V:Int)(hV:V=Iv n m+Iv n' m') :
  ∃(s p a b c o:Bool)(r pr ar br cr ro:Nat),FloatKind.f64.format.add (Fq.wD n m) (Fq.wD n' m')=some (Fq.wD s r)∧FloatKind.f64.format.sub (Fq.wD s r) (Fq.wD n m)=some (Fq.wD p pr)∧FloatKind.f64.format.sub (Fq.wD s r) (Fq.wD p pr)=some (Fq.wD a ar)∧FloatKind.f64.format.sub (Fq.wD n m) (Fq.wD a ar)=some (Fq.wD b br)∧FloatKind.f64.format.sub (Fq.wD n' m') (Fq.wD p pr)=some (Fq.wD c cr)∧FloatKind.f64.format.add (Fq.wD b br) (Fq.wD c cr)=some (Fq.wD o ro)∧r<9218868437227405312∧ro<9218868437227405312∧r=fk 53 (rU 0 53 V.natAbs 1)∧s=(if V=0 then n && n' else decide (V<0))∧Iv o ro=V-Iv s r:=by
 have C:V.natAbs<2^(K+1):=by rw[hV];exact(gm hx hy (ao _)).1
 obtain⟨s,r,R,q,d,y,A,f,j⟩:=fp V (n && n') (K+1) (by omega) (by omega) C
 obtain⟨p,pr,T,u,h,H,_,_,i⟩:=fp (Iv s r-Iv n m) (s && !n) (K+3) (by omega) (by omega) (gm j hx (by omega)).2
 obtain⟨a,ar,S,t,x,z,_,_,F⟩:=fp (Iv s r-Iv p pr) (s && !p) (K+5) (by omega) (by omega) (gI j i (by omega)).2
 obtain⟨b,br,O,J,I,G,_,_,D⟩:=fp (Iv n m-Iv a ar) (n && !a) (K+7) (by omega) (by omega) (gI hx F (by omega)).2
 obtain⟨c,cr,P,E,L,B,_,_,k⟩:=fp (Iv n' m'-Iv p pr) (n' && !p) (K+5) (by omega) (by omega) (gI hy i (by omega)).2
 obtain⟨o,ro,Q,l,M,N,_,_,U⟩:=fp (Iv b br+Iv c cr) (b && c) (K+9) (by omega) (by omega) (gm D k (by omega)).1
 have g:=ot (tR n m) (tR n' m') (by rw[<-hV];exact y) H z G B N
 refine⟨s,p,a,b,c,o,r,pr,ar,br,cr,ro, ?_, ?_, ?_, ?_, ?_, ?_,d,M,A,f,by rw[hV];exact g⟩
 ·rw[yJ n n' m m' hm hm' V hV,q]
 ·rw[ip s n r m d hm _ rfl,u]
 ·rw[ip s p r pr d h _ rfl,t]
 ·rw[ip n a m ar hm x _ rfl,J]
 ·rw[ip n' p m' pr hm' h _ rfl,E]
 ·rw[yJ b c br cr I L _ rfl,l]
theorem kO (m:Nat):Fq.vV Ieee.double m=0 ↔ m=0:=by
 unfold Fq.vV Fq.mM Fq.eE
 rw[Fq.D9]
 by_cases c:m<4503599627370496
 ·rw[if_pos c,if_pos c];simp
 ·rw[if_neg c,if_neg c]
  have a:=ah (m/4503599627370496-1)
  constructor
  ·intro h
   rcases Nat.mul_eq_zero.1 h with h|h<;>omega
  ·intro h;omega
theorem jI (n:Bool)(m:Nat):(Iv n m<0 ↔ Fq.gU n m<0)∧(0<Iv n m ↔ 0<Fq.gU n m):=by
 have h:=kO m
 unfold Iv Fq.gU
 cases n<;>simp<;>omega
theorem wj (d V:Int)(s o sz:Bool)(r ro K:Nat)(hK:53<=K)(hK2:K<=2096)(hv:V.natAbs<2^K)(hr:r=fk 53 (rU 0 53 V.natAbs 1))(hs:s=(if V=0 then sz else decide (V<0)))(ho1:Fq.gU o ro<0 ↔ V-Iv s r<0)(ho2:0<Fq.gU o ro ↔ 0<V-Iv s r) :
  (d = -1->Fq.gU o ro<0->Fq.gU s r≠-9218868437227405312∧Fq.fD (Fq.gU s r-1)=fg d V)∧(d=1->0<Fq.gU o ro->Fq.gU s r≠9218868437227405312∧Fq.fD (Fq.gU s r+1)=fg d V)∧(¬(d = -1∧Fq.gU o ro<0)->¬(d=1∧0<Fq.gU o ro)->Fq.wD (s && !(r == 0)) r=fg d V):=by
 rw[ho1,ho2]
 obtain⟨C,B,D,A⟩:=G1 V.natAbs
 have g:∀dd j:Int,dK 53 2098 9218868437227405311 9218868437227405312 j (rU dd 53 V.natAbs 1)=fk 53 (rU dd 53 V.natAbs 1)∧fk 53 (rU dd 53 V.natAbs 1)<9218868437227405312:=fun dd j=>lj V.natAbs dd j K hK (by omega) hv
 have z:=jS V.natAbs 0
 rw[<-hr]at z C B D A
 have G:r<9218868437227405312:=by rw[hr];exact(g 0 0).2
 have n:∀dd,fk 53 (rU dd 53 V.natAbs 1)<9218868437227405312:=fun dd=>(g dd 0).2
 by_cases y:V=0
 ·have H:rU 0 53 V.natAbs 1=0:=by
   rw[y]
   unfold rU rS rR
   rw[Int.natAbs_zero,ei,eR,eC _ _ _ (by rw[aN];exact ah _)]
   simp
  have u:r=0:=by rw[hr,H,gR]
  have hi:Iv s r=0:=by
   rw[u];unfold Iv
   have:Fq.vV Ieee.double 0=0:=(kO 0).2 rfl
   rw[this];cases s<;>simp
  rw[hi,y]
  refine⟨fun _ h=>absurd h (by decide),fun _ h=>absurd h (by decide),fun _ _=>?_⟩
  unfold fg
  rw[if_pos rfl,u];unfold Fq.wD;simp
 ·have f:s=decide (V<0):=by rw[hs,if_neg y]
  have p:∀x:Nat,x≠0->gO s x=Fq.wD s x:=fun x hx=>by unfold gO Fq.wD;rw[if_neg hx]
  have b:∀dm:Int,dm=dU s d->fg d V=gO s (fk 53 (rU dm 53 V.natAbs 1)):=fun dm hdm=>by
   unfold fg;rw[if_neg y,<-f,<-hdm,(g dm dm).1]
  have m:r≠0:=by
   intro h
   rw[h,(kO 0).2 rfl]at z
   have F:=(tg V.natAbs).near
   rw[<-z]at F
   have E:=(tg V.natAbs).low
   omega
  have q:Iv s r=if V<0 then -((rU 0 53 V.natAbs 1:Nat):Int) else ((rU 0 53 V.natAbs 1:Nat):Int):=by
   unfold Iv;rw[z,f]
   by_cases c:V<0
   ·rw[af c,if_pos rfl,if_pos c]
   ·rw[ae c,if_neg (by simp),if_neg c]
  have k:∀x:Nat,x≠0->∀P:Int,P=Fq.gU s x->Fq.fD P=gO s x:=fun x hx P hP=>by
   rw[p x hx,hP];unfold Fq.fD Fq.gU Fq.wD
   cases s
   ·simp
   ·simp;omega
  have a:∀dm:Int,dm=dU s d->fk 53 (rU dm 53 V.natAbs 1)=r->Fq.wD (s && !(r == 0)) r=fg d V:=fun dm h1 h2=>by
   rw[b dm h1,h2,p r m]
   congr 1
   simp[m]
  by_cases c:V<0
  ·rw[af c]at f
   rw[q,if_pos c]
   subst f
   have i:dU true d = -d:=rfl
   refine⟨fun hd h=>?_,fun hd h=>?_,fun h1 h2=>?_⟩
   ·have e:=D (by omega)
    have E:=n 1
    refine⟨by unfold Fq.gU;(simp;omega), ?_⟩
    rw[b 1 (by rw[i,hd];rfl),e]
    exact k (r+1) (by omega) _ (by unfold Fq.gU;(simp;omega))
   ·have e:=C (by omega)
    refine⟨by unfold Fq.gU;(simp;omega), ?_⟩
    rw[b (-1) (by rw[i,hd])]
    by_cases t:fk 53 (rU (-1) 53 V.natAbs 1)=0
    ·rw[t]
     have:r=1:=by omega
     rw[this];rfl
    ·exact k _ t _ (by unfold Fq.gU;(simp;omega))
   ·by_cases l:d = -1
    ·exact a 1 (by rw[i,l];rfl) (A (by have:=mt (fun h=>h1 ⟨l,h⟩);omega))
    ·by_cases j:d=1
     ·exact a (-1) (by rw[i,j]) (B (by have:=mt (fun h=>h2 ⟨j,h⟩);omega))
     ·exact a (-d) i.symm (by rw[t8 _ _ (by omega) (by omega),hr])
  ·rw[ae c]at f
   rw[q,if_neg c]
   subst f
   have i:dU false d=d:=rfl
   refine⟨fun hd h=>?_,fun hd h=>?_,fun h1 h2=>?_⟩
   ·have e:=C (by omega)
    refine⟨by unfold Fq.gU;(simp;done), ?_⟩
    rw[b (-1) (by rw[i,hd])]
    by_cases t:fk 53 (rU (-1) 53 V.natAbs 1)=0
    ·rw[t]
     have:r=1:=by omega
     rw[this];rfl
    ·exact k _ t _ (by unfold Fq.gU;(simp;omega))
   ·have e:=D (by omega)
    have E:=n 1
    refine⟨by unfold Fq.gU;(simp;omega), ?_⟩
    rw[b 1 (by rw[i,hd]),e]
    exact k (r+1) (by omega) _ (by unfold Fq.gU;simp)
   ·by_cases l:d = -1
    ·exact a (-1) (by rw[i,l]) (B (by have:=mt (fun h=>h1 ⟨l,h⟩);omega))
    ·by_cases j:d=1
     ·exact a 1 (by rw[i,j]) (A (by have:=mt (fun h=>h2 ⟨j,h⟩);omega))
     ·exact a d i.symm (by rw[t8 _ _ j l,hr])
theorem wi (d V:Int)(s o sz:Bool)(r ro K:Nat)(hK:53<=K)(hK2:K<=2096)(hv:V.natAbs<2^K)(hr:r=fk 53 (rU 0 53 V.natAbs 1))(hs:s=(if V=0 then sz else decide (V<0)))(ho:Iv o ro=V-Iv s r) :
  (d = -1->Fq.gU o ro<0->Fq.gU s r≠-9218868437227405312∧Fq.fD (Fq.gU s r-1)=fg d V)∧(d=1->0<Fq.gU o ro->Fq.gU s r≠9218868437227405312∧Fq.fD (Fq.gU s r+1)=fg d V)∧(¬(d = -1∧Fq.gU o ro<0)->¬(d=1∧0<Fq.gU o ro)->Fq.wD (s && !(r == 0)) r=fg d V):=wj d V s o sz r ro K hK hK2 hv hr hs (by rw[<-(jI o ro).1,ho]) (by rw[<-(jI o ro).2,ho])
end Go.Proofs.YtmpjcknaelgnoaaGreatDoor
