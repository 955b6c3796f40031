import Derived.Test.YtmpjcknaelgnoaaGreatDoorKNSm
namespace Go.Proofs.YtmpjcknaelgnoaaGreatDoor
open Go.RowKit
theorem lF (m:Nat)(hm:m<=9110782046170513408)(K:Nat)(hK:K=2075):Fq.vV Ieee.double m<2^K:=by
 unfold Fq.vV Fq.mM Fq.eE
 rw[Fq.D9]
 by_cases c:m<4503599627370496
 ·rw[if_pos c,if_pos c,aB,aG]
  have a:2^53<=2^K:=al (by omega) (by omega)
  rw[show(2:Nat)^53=9007199254740992 from by decide]at a
  omega
 ·rw[if_neg c,if_neg c]
  obtain⟨e,d⟩:=aA (m/4503599627370496-1)
  have b:e<=2022:=by omega
  rw[<-d]
  have a:2^53*2^e<=2^K:=by rw[<-ag];exact al (by omega) (by omega)
  have f:(4503599627370496+m%4503599627370496)*2^e<2^53*2^e:=am (by rw[show(2:Nat)^53=9007199254740992 from by decide];omega) (ah _)
  exact aE f a
theorem gg (n:Bool)(m:Nat):(Iv n m).natAbs=Fq.vV Ieee.double m:=by
 unfold Iv;cases n<;>simp
theorem C3 (d:Int)(ng:Bool)(c:Nat)(low V:Int)(h1:-1074<=low)(h2:low<=2048)(hb:aq c<=524288)(hV:V=if ng then -((c*2^(low+1074).toNat:Nat):Int) else ((c*2^(low+1074).toNat:Nat):Int)):tI d ng c low=fg d V:=by
 have a:jC low=low:=by unfold jC;omega
 have j:∀g R,pW 9223372036854775808 g R=gO g R:=fun g R=>rfl
 unfold tI
 rw[if_neg (by omega),a,j]
 have k:∀dd,rV dd 53 c 1 (low+1074)=rU dd 53 (c*2^(low+1074).toNat) 1:=fun dd=>by
  unfold rV;rw[show(-(low+1074)).toNat=0 from by omega,aB,aG]
 rw[k]
 obtain⟨C,m⟩:=aA (c*2^(low+1074).toNat)
 rw[<-m]at hV|-
 unfold fg
 by_cases l:C=0
 ·have i:V=0:=by rw[hV,l];cases ng<;>simp
  rw[if_pos i,l]
  have n:rU (dU ng d) 53 0 1=0:=by
   unfold rU rS rR
   rw[ei,eR,eC _ _ _ (by rw[aN];exact ah _)]
   simp
  rw[n]
  unfold dK
  rw[cP,if_pos (by omega),gR]
  rfl
 ·have f:V≠0:=by rw[hV];cases ng<;>simp<;>omega
  have b:decide (V<0)=ng:=by rw[hV];cases ng<;>simp<;>omega
  have h:V.natAbs=C:=by rw[hV];cases ng<;>simp
  rw[if_neg f,b,h]
theorem ur (s t:Bool)(a b:Nat)(ea eb low:Int)(ea1:-1074<=ea)(eb1:-1074<=eb)(hlow:low=min ea eb)(n n':Bool)(m m':Nat)(hs:s=(n && !(m == 0)))(ht:t=(n' && !(m' == 0)))(ha:a*2^(ea+1074).toNat=Fq.vV Ieee.double m)(hb:b*2^(eb+1074).toNat=Fq.vV Ieee.double m')(A B:Nat)(hA:A=a*2^(ea-low).toNat)(hB:B=b*2^(eb-low).toNat) :
  (s=t->Iv n m+Iv n' m'=if s then -(((A+B)*2^(low+1074).toNat:Nat):Int) else (((A+B)*2^(low+1074).toNat:Nat):Int))∧(s≠t->B<=A->Iv n m+Iv n' m'=if s then -(((A-B)*2^(low+1074).toNat:Nat):Int) else (((A-B)*2^(low+1074).toNat:Nat):Int))∧(s≠t->A<B->Iv n m+Iv n' m'=if t then -(((B-A)*2^(low+1074).toNat:Nat):Int) else (((B-A)*2^(low+1074).toNat:Nat):Int)):=by
 obtain⟨P,g⟩:=aA (2^(low+1074).toNat)
 have p:A*P=Fq.vV Ieee.double m:=by
  rw[hA,g,<-ha,ak,<-ag];congr 2;omega
 have o:B*P=Fq.vV Ieee.double m':=by
  rw[hB,g,<-hb,ak,<-ag];congr 2;omega
 have l:Iv n m=if s then -((A*P:Nat):Int) else ((A*P:Nat):Int):=by
  rw[p,hs];unfold Iv
  by_cases c:m=0
  ·rw[c,(kO 0).2 rfl];cases n<;>simp
  ·have:(m == 0)=false:=by simp[c]
   rw[this];cases n<;>simp
 have k:Iv n' m'=if t then -((B*P:Nat):Int) else ((B*P:Nat):Int):=by
  rw[o,ht];unfold Iv
  by_cases c:m'=0
  ·rw[c,(kO 0).2 rfl];cases n'<;>simp
  ·have:(m' == 0)=false:=by simp[c]
   rw[this];cases n'<;>simp
 rw[<-g,l,k,aH,Nat.sub_mul,Nat.sub_mul]
 obtain⟨X,f⟩:=aA (A*P)
 obtain⟨Y,d⟩:=aA (B*P)
 have j:B<=A->Y<=X:=fun h=>by rw[f,d];exact ai _ h
 have i:A<B->X<=Y:=fun h=>by rw[f,d];exact ai _ (bO h)
 rw[<-f,<-d]
 clear f d p o l k
 refine⟨fun h=>?_,fun h hh=>?_,fun h hh=>?_⟩
 ·subst h;cases s<;>simp<;>omega
 ·have:=j hh
  cases s<;>cases t<;>simp at h|-<;>omega
 ·have:=i hh
  cases s<;>cases t<;>simp at h|-<;>omega
end Go.Proofs.YtmpjcknaelgnoaaGreatDoor
