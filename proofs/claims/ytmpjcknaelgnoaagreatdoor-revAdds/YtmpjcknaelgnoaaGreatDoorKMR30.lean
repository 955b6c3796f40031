import Derived.Test.YtmpjcknaelgnoaaGreatDoorKEM
import Derived.Test.YtmpjcknaelgnoaaGreatDoorKMR17
import Derived.Test.YtmpjcknaelgnoaaGreatDoorKMR18
namespace Go.Proofs.YtmpjcknaelgnoaaGreatDoor
open Go.RowKit
theorem rU_vV (d:Int) (m:Nat) (hm:m<9218868437227405312):rU d 53 (Fq.vV Ieee.double m) 1=Fq.vV Ieee.double m:=by
 obtain ⟨E,hE⟩:∃ E,E=Fq.eE Ieee.double m:=⟨_,rfl⟩
 obtain ⟨M,hM⟩:∃ M,M=Fq.mM Ieee.double m:=⟨_,rfl⟩
 have hV:Fq.vV Ieee.double m=M*2 ^ E:=by rw [hM,hE];rfl
 have hMb:M<9007199254740992∧(E=0∨4503599627370496≤M):=by
  rw [hM,hE];unfold Fq.mM Fq.eE;rw [Fq.binD]
  by_cases c:m<4503599627370496
  ·rw [if_pos c,if_pos c];exact ⟨by omega,.inl rfl⟩
  ·rw [if_neg c,if_neg c]
   have:=Nat.mod_lt m (show 0<4503599627370496 by decide)
   exact ⟨by omega,.inr (by omega)⟩
 rw [hV]
 clear hV hM hE
 have p0:0<2 ^ E:=Nat.two_pow_pos E
 have hr:rE 53 (M*2 ^ E) 1=E:=by
  refine rE_uniq 53 (M*2 ^ E) 1 E (by decide) (by decide) ?_ ?_
  ·rw [Nat.one_mul,Nat.pow_add,Nat.mul_comm]
   exact Nat.mul_lt_mul_of_pos_left (by rw [show (2:Nat) ^ 53=9007199254740992 from by decide];exact hMb.1) p0
  ·rcases hMb.2 with h | h
   ·exact .inl h
   ·refine .inr ?_
    rw [Nat.one_mul,show E+53 - 1=52+E from by omega,Nat.pow_add,show (2:Nat) ^ 52=4503599627370496 from by decide]
    exact Nat.mul_le_mul_right _ h
 unfold rU rS rR
 rw [hr,Nat.one_mul,Nat.mul_div_cancel _ p0,Nat.mul_mod_left,upw_none _ _ _ p0]
 simp
theorem fin_vV (d:Int) (m:Nat) (hm:m<9218868437227405312):finU 53 2098 9218868437227405311 9218868437227405312 d (Fq.vV Ieee.double m)=m:=by
 have h1:=rU_vV d m hm
 have h2:=vV_rung (Fq.vV Ieee.double m) d
 rw [h1] at h2
 have h3:rgU 53 (Fq.vV Ieee.double m)=m:=(Fq.vV_inj _ _ _).1 h2
 obtain ⟨K,hK⟩:∃ K:Nat,K=2098:=⟨_,rfl⟩
 have hb:Fq.vV Ieee.double m<2 ^ K:=by
  unfold Fq.vV Fq.mM Fq.eE;rw [Fq.binD]
  have hp:∀ a e:Nat,a<9007199254740992→e≤2045→a*2 ^ e<2 ^ K:=fun a e ha he=>by
   have g:a*2 ^ e<2 ^ 53*2 ^ e:=Nat.mul_lt_mul_of_pos_right (by rw [show (2:Nat) ^ 53=9007199254740992 from by decide];exact ha) (Nat.two_pow_pos e)
   rw [← Nat.pow_add] at g
   exact Nat.lt_of_lt_of_le g (Nat.pow_le_pow_right (by decide) (by omega))
  by_cases c:m<4503599627370496
  ·rw [if_pos c,if_pos c];exact hp _ _ (by omega) (by omega)
  ·rw [if_neg c,if_neg c]
   have:=Nat.mod_lt m (show 0<4503599627370496 by decide)
   exact hp _ _ (by omega) (by omega)
 have hbl:blen (Fq.vV Ieee.double m)≤2098:=by rw [← hK];exact (blen_le_iff _ _).2 hb
 unfold finU
 rw [if_pos hbl,h3]
theorem vV_zero_iff (m:Nat):Fq.vV Ieee.double m=0 ↔ m=0:=by
 have h:=Fq.vV_inj Ieee.double m 0
 rw [Fq.vV_zero] at h
 exact h
theorem sumW_exact (d:Int) (n:Bool) (m:Nat) (hm:m<9218868437227405312):sumW d (Iv n m)=Fq.pla (Fq.wD n m):=by
 unfold sumW
 by_cases c:m=0
 ·have h0:Iv n m=0:=by unfold Iv;rw [c,Fq.vV_zero];cases n <;> rfl
  rw [if_pos h0,c];unfold Fq.pla Fq.wD;cases n <;> rfl
 ·have hv:Fq.vV Ieee.double m≠0:=fun h=>c ((vV_zero_iff m).1 h)
  have h0:Iv n m≠0:=by unfold Iv;cases n <;> simp <;> omega
  have h1:decide (Iv n m<0)=n:=by unfold Iv;cases n <;> simp <;> omega
  have h2:(Iv n m).natAbs=Fq.vV Ieee.double m:=by unfold Iv;cases n <;> simp
  rw [if_neg h0,h1,h2,rU_vV _ m hm,fin_vV _ m hm]
  unfold mdW Fq.pla Fq.wD
  rw [if_neg c]
  cases n <;> simp <;> omega
def mnP (n:Bool) (m:Nat):Nat:=Fq.pla (Fq.wD (!n) m)
theorem sub_zero_w (n:Bool) (m:Nat) (hm:m≤9218868437227405312):FloatKind.f64.format.sub 0 (Fq.wD n m)=some (mnP n m):=by
 by_cases c:m=9218868437227405312
 ·rw [c];cases n <;> decide +kernel
 ·have h:=sub_w false n 0 m (by decide) (by omega) (Iv (!n) m) (by unfold Iv;rw [Fq.vV_zero];cases n <;> simp)
  rw [show Fq.wD false 0=0 from rfl] at h
  rw [h]
  have e:=sumW_exact 0 (!n) m (by omega)
  unfold mnP
  by_cases z:m=0
  ·have h0:Iv (!n) m=0:=by unfold Iv;rw [z,Fq.vV_zero];cases n <;> rfl
   rw [if_pos h0,h0,z]
   have g:=rU_vV 0 0 (by decide)
   have g2:=fin_vV 0 0 (by decide)
   rw [Fq.vV_zero] at g g2
   rw [show (0:Int).natAbs=0 from rfl,g,g2]
   cases n <;> rfl
  ·have hv:Fq.vV Ieee.double m≠0:=fun h=>z ((vV_zero_iff m).1 h)
   have h0:Iv (!n) m≠0:=by unfold Iv;cases n <;> simp <;> omega
   have h1:decide (Iv (!n) m<0) = !n:=by unfold Iv;cases n <;> simp <;> omega
   have h2:(Iv (!n) m).natAbs=Fq.vV Ieee.double m:=by unfold Iv;cases n <;> simp
   rw [if_neg h0,h1,h2,rU_vV _ m (by omega),fin_vV _ m (by omega)]
   congr 1
   unfold Fq.pla Fq.wD
   cases n <;> simp <;> omega
end Go.Proofs.YtmpjcknaelgnoaaGreatDoor
