import Derived.Test.YtmpjcknaelgnoaaGreatDoorKG3D
namespace Go.Proofs.YtmpjcknaelgnoaaGreatDoor
open Go.RowKit
theorem kj (p A B:Nat)(h:aq (A/B)<=p):rU (-1) p A B=A/B:=by
 have a:rE p A B=0:=by unfold rE;omega
 unfold rU rS rR
 rw[a,aB,aG,aG]
 have e:fw (-1) (A/B) (A%B) B=false:=by unfold fw;simp
 rw[e];simp
theorem sF (sg:Nat)(ep:Int)(a b K e:Nat)(hF:fJ sg 1 ep a b)(h0:sg≠0)(he:(e:Int)=ep+(K:Int)):a*2^K=sg*2^e*b:=by
 obtain⟨n,-,g,-,-⟩:=hF
 have f:0<b:=by omega
 have d:∀j:Nat,a*2^K*2^j/b=sg*2^e*2^j:=fun j=>by
  obtain⟨p,i⟩:=aA (aq (a*2^(K+j)/b)+aq (sg*2^(e+j)))
  have h:=g (-1) p ((K+j:Nat):Int) h0
  unfold rV at h
  rw[show(((K+j:Nat):Int)).toNat=K+j from by omega,show(-((K+j:Nat):Int)).toNat=0 from by omega,show(((K+j:Nat):Int)+ep).toNat=e+j from by omega,show(-(((K+j:Nat):Int)+ep)).toNat=0 from by omega,aB,aG,aG,kj p _ b (by rw[i];omega),kj p _ 1 (by rw[fy,i];omega),fy,ag,ag]at h
  rw[ak,h,ak]
 obtain⟨A,q⟩:=aA (a*2^K)
 obtain⟨S,o⟩:=aA (sg*2^e)
 rw[<-q,<-o]at d|-
 have k:=d 0
 rw[aB,aG,aG]at k
 have y:S*b<=A:=by rw[<-k];exact dS A b
 obtain⟨D,z⟩:=aA (A-S*b)
 by_cases c:D=0
 ·omega
 ·exfalso
  have m:=d (aq b)
  have l:b<2^aq b:=(cK b n).2.1
  have s:A=S*b+D:=by omega
  rw[s,aH,bG,dz,Nat.add_mul_div_right _ _ f]at m
  have u:D*2^aq b/b=0:=by omega
  have r:b<=D*2^aq b:=aT (bO l) (cw _ (by omega))
  have t:=(bj f (x:=1)).2 (by rw[aN];exact r)
  omega
theorem uG (d V:Int)(x D a b K:Nat)(neg:Bool)(hK:K=1074)(hD:D≠0)(hF:fJ x D 0 a b)(hx:x*2^K=V.natAbs*D)(ng:Bool)(hng:x≠0->ng=neg)(hneg:V≠0->neg=decide (V<0)):mE 53 1074 2098 9218868437227405311 0 d ng a b=fg d V:=by
 have h:=qk d ng neg x D a b 0 hF hng K hK
 rw[<-hK]
 rw[h]
 unfold fg
 have f:x=0 ↔ V=0:=by
  have k:=ah K
  constructor
  ·intro g;rw[g,aM]at hx
   rcases Nat.mul_eq_zero.1 hx.symm with i|i<;>omega
  ·intro g;rw[g]at hx
   rw[Int.natAbs_zero,aM]at hx
   rcases Nat.mul_eq_zero.1 hx with i|i
   ·exact i
   ·omega
 by_cases c:x=0
 ·rw[if_pos c,if_pos (f.1 c)]
 ·have j:V≠0:=fun g=>c (f.2 g)
  rw[if_neg c,if_neg j,<-hneg j]
  have e:rV (dU neg d) 53 x D (0+1074)=rU (dU neg d) 53 V.natAbs 1:=by
   unfold rV
   rw[show((0:Int)+1074).toNat=K from by omega,show(-((0:Int)+1074)).toNat=0 from by omega,aB,aG,hx]
   exact ki _ _ _ _ _ _ (by omega) (by omega) (by rw[aG])
  rw[e]
end Go.Proofs.YtmpjcknaelgnoaaGreatDoor
