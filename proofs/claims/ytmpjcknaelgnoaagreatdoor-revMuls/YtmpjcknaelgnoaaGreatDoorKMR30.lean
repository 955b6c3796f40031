import Derived.Test.YtmpjcknaelgnoaaGreatDoorKEM
import Derived.Test.YtmpjcknaelgnoaaGreatDoorKMR17
import Derived.Test.YtmpjcknaelgnoaaGreatDoorKMR18
namespace Go.Proofs.YtmpjcknaelgnoaaGreatDoor
open Go.RowKit
theorem tv (d:Int)(m:Nat)(hm:m<9218868437227405312):rU d 53 (Fq.vV Ieee.double m) 1=Fq.vV Ieee.double m:=by
 obtain⟨E,g⟩:=aA (Fq.eE Ieee.double m)
 obtain⟨M,f⟩:=aA (Fq.mM Ieee.double m)
 have i:Fq.vV Ieee.double m=M*2^E:=by rw[f,g];rfl
 have a:M<9007199254740992∧(E=0∨4503599627370496<=M):=by
  rw[f,g];unfold Fq.mM Fq.eE;rw[Fq.D9]
  by_cases c:m<4503599627370496
  ·rw[if_pos c,if_pos c];exact⟨by omega,.inl rfl⟩
  ·rw[if_neg c,if_neg c]
   have:=bZ m (show 0<4503599627370496 by decide)
   exact⟨by omega,.inr (by omega)⟩
 rw[i]
 clear i f g
 have b:0<2^E:=ah E
 have j:rE 53 (M*2^E) 1=E:=by
  refine oK 53 (M*2^E) 1 E (by decide) (by decide) ?_ ?_
  ·rw[aN,ag,ap]
   exact Nat.mul_lt_mul_of_pos_left (by rw[show(2:Nat)^53=9007199254740992 from by decide];exact a.1) b
  ·rcases a.2 with h|h
   ·exact .inl h
   ·refine .inr ?_
    rw[aN,show E+53-1=52+E from by omega,ag,show(2:Nat)^52=4503599627370496 from by decide]
    exact ai _ h
 unfold rU rS rR
 rw[j,aN,eg _ b,Nat.mul_mod_left,eC _ _ _ b]
 simp
theorem sG (d:Int)(m:Nat)(hm:m<9218868437227405312):dK 53 2098 9218868437227405311 9218868437227405312 d (Fq.vV Ieee.double m)=m:=by
 have k:=tv d m hm
 have f:=jS (Fq.vV Ieee.double m) d
 rw[k]at f
 have l:fk 53 (Fq.vV Ieee.double m)=m:=(Fq.mr _ _ _).1 f
 obtain⟨K,j⟩:∃K:Nat,K=2098:=⟨_,rfl⟩
 have i:Fq.vV Ieee.double m<2^K:=by
  unfold Fq.vV Fq.mM Fq.eE;rw[Fq.D9]
  have h:∀a e:Nat,a<9007199254740992->e<=2045->a*2^e<2^K:=fun a e ha he=>by
   have g:a*2^e<2^53*2^e:=am (by rw[show(2:Nat)^53=9007199254740992 from by decide];exact ha) (ah e)
   rw[<-ag]at g
   exact aE g (al (by decide) (by omega))
  by_cases c:m<4503599627370496
  ·rw[if_pos c,if_pos c];exact h _ _ (by omega) (by omega)
  ·rw[if_neg c,if_neg c]
   have:=bZ m (show 0<4503599627370496 by decide)
   exact h _ _ (by omega) (by omega)
 have b:aq (Fq.vV Ieee.double m)<=2098:=by rw[<-j];exact(ay _ _).2 i
 unfold dK
 rw[if_pos b,l]
theorem im (m:Nat):Fq.vV Ieee.double m=0 ↔ m=0:=by
 have h:=Fq.mr Ieee.double m 0
 rw[Fq.gj]at h
 exact h
theorem jF (d:Int)(n:Bool)(m:Nat)(hm:m<9218868437227405312):fg d (Iv n m)=Fq.kL (Fq.wD n m):=by
 unfold fg
 by_cases c:m=0
 ·have a:Iv n m=0:=by unfold Iv;rw[c,Fq.gj];cases n<;>rfl
  rw[if_pos a,c];unfold Fq.kL Fq.wD;cases n<;>rfl
 ·have g:Fq.vV Ieee.double m≠0:=fun h=>c ((im m).1 h)
  have a:Iv n m≠0:=by unfold Iv;cases n<;>simp<;>omega
  have f:decide (Iv n m<0)=n:=by unfold Iv;cases n<;>simp<;>omega
  have b:(Iv n m).natAbs=Fq.vV Ieee.double m:=by unfold Iv;cases n<;>simp
  rw[if_neg a,f,b,tv _ m hm,sG _ m hm]
  unfold gO Fq.kL Fq.wD
  rw[if_neg c]
  cases n<;>simp<;>omega
def Gv (n:Bool)(m:Nat):Nat:=Fq.kL (Fq.wD (!n) m)
theorem rD (n:Bool)(m:Nat)(hm:m<=9218868437227405312):FloatKind.f64.format.sub 0 (Fq.wD n m)=some (Gv n m):=by
 by_cases c:m=9218868437227405312
 ·rw[c];cases n<;>decide +kernel
 ·have h:=ip false n 0 m (by decide) (by omega) (Iv (!n) m) (by unfold Iv;rw[Fq.gj];cases n<;>simp)
  rw[show Fq.wD false 0=0 from rfl]at h
  rw[h]
  have e:=jF 0 (!n) m (by omega)
  unfold Gv
  by_cases z:m=0
  ·have a:Iv (!n) m=0:=by unfold Iv;rw[z,Fq.gj];cases n<;>rfl
   rw[if_pos a,a,z]
   have g:=tv 0 0 (by decide)
   have b:=sG 0 0 (by decide)
   rw[Fq.gj]at g b
   rw[show(0:Int).natAbs=0 from rfl,g,b]
   cases n<;>rfl
  ·have i:Fq.vV Ieee.double m≠0:=fun h=>z ((im m).1 h)
   have a:Iv (!n) m≠0:=by unfold Iv;cases n<;>simp<;>omega
   have f:decide (Iv (!n) m<0) = !n:=by unfold Iv;cases n<;>simp<;>omega
   have d:(Iv (!n) m).natAbs=Fq.vV Ieee.double m:=by unfold Iv;cases n<;>simp
   rw[if_neg a,f,d,tv _ m (by omega),sG _ m (by omega)]
   congr 1
   unfold Fq.kL Fq.wD
   cases n<;>simp<;>omega
end Go.Proofs.YtmpjcknaelgnoaaGreatDoor
