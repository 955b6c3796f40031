import Derived.Test.YtmpjcknaelgnoaaGreatDoorKG3D
namespace Go.Proofs.YtmpjcknaelgnoaaGreatDoor
open Go.RowKit
theorem wP (d:Int)(t:Int):rV d 53 0 1 t=0:=by
 unfold rV rU rS rR
 rw[aM,ei,eR,eC _ _ _ (aQ (aQ (by omega) (aP (by omega))) (aP (by omega)))]
 simp
theorem jm (a:Nat):524288<aq a ↔ 16384<aS a:=by
 constructor
 ·intro h
  by_cases c:16384<aS a
  ·exact c
  ·have:=jp a 16384 (by omega)
   omega
 ·intro h
  by_cases c:524288<aq a
  ·exact c
  ·have:=dZ a 16384 (by omega)
   unfold aS at h
   omega
theorem C4 (d:Int)(neg:Bool)(a:Nat)(exp:Int):tI d neg a exp=ni d neg a 1 exp:=by
 unfold tI ni
 by_cases c:524288<aq a
 ·rw[if_pos c,if_pos (Or.inl ((jm a).1 c))]
 ·rw[if_neg c,if_neg (by rw[nN];have:=mt (jm a).2 c;omega),if_neg (by decide)]
  by_cases b:a=0
  ·have h:∀(dd t:Int),rV dd 53 0 1 t=0:=fun dd t=>wP dd t
   rw[if_pos b,b,h]
   have i:∀dd:Int,dK 53 2098 9218868437227405311 9218868437227405312 dd 0=0:=fun dd=>by unfold dK;rw[cP,if_pos (by omega),gR]
   rw[i];rfl
  ·rw[if_neg b]
   have j:=(cK a b).2.2
   have f:∀R,pW 9223372036854775808 neg R=gO neg R:=fun R=>rfl
   rw[f]
   by_cases g:jC exp=exp
   ·rw[g]
   ·refine congrArg (gO neg) (nR (dU neg d) a 1 a 1 (jC exp+1074) (exp+1074) b (by decide) b (by decide) ?_)
    rw[show aq 1=1 from ed 1 0 (by decide) (by decide)]
    unfold jC at g|-
    omega
end Go.Proofs.YtmpjcknaelgnoaaGreatDoor
