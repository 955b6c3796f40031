import Derived.Test.YtmpjcknaelgnoaaGreatDoorKH3DQ
namespace Go.Proofs.YtmpjcknaelgnoaaGreatDoor
open Go.RowKit
theorem vV_lt (m:Nat) (hm:m≤9110782046170513408) (K:Nat) (hK:K=2075):Fq.vV Ieee.double m<2 ^ K:=by
 unfold Fq.vV Fq.mM Fq.eE
 rw [Fq.binD]
 by_cases c:m<4503599627370496
 ·rw [if_pos c,if_pos c,Nat.pow_zero,Nat.mul_one]
  have h1:2 ^ 53≤2 ^ K:=Nat.pow_le_pow_right (by omega) (by omega)
  rw [show (2:Nat) ^ 53=9007199254740992 from by decide] at h1
  omega
 ·rw [if_neg c,if_neg c]
  obtain ⟨e,he⟩:∃ e,e=m / 4503599627370496 - 1:=⟨_,rfl⟩
  have he2:e≤2022:=by omega
  rw [← he]
  have h1:2 ^ 53*2 ^ e≤2 ^ K:=by rw [← Nat.pow_add];exact Nat.pow_le_pow_right (by omega) (by omega)
  have h2:(4503599627370496+m % 4503599627370496)*2 ^ e<2 ^ 53*2 ^ e:=Nat.mul_lt_mul_of_pos_right (by rw [show (2:Nat) ^ 53=9007199254740992 from by decide];omega) (Nat.two_pow_pos _)
  exact Nat.lt_of_lt_of_le h2 h1
theorem iv_abs (n:Bool) (m:Nat):(Iv n m).natAbs=Fq.vV Ieee.double m:=by
 unfold Iv;cases n <;> simp
theorem of_sum (d:Int) (ng:Bool) (c:Nat) (low V:Int) (h1:-1074≤low) (h2:low≤2048) (hb:blen c≤524288) (hV:V=if ng then -((c*2 ^ (low+1074).toNat:Nat):Int) else ((c*2 ^ (low+1074).toNat:Nat):Int)):ofW d ng c low=sumW d V:=by
 have hconf:conf low=low:=by unfold conf;omega
 have hpm:∀ g R,pW 9223372036854775808 g R=mdW g R:=fun g R=>rfl
 unfold ofW
 rw [if_neg (by omega),hconf,hpm]
 have hrv:∀ dd,rV dd 53 c 1 (low+1074)=rU dd 53 (c*2 ^ (low+1074).toNat) 1:=fun dd=>by
  unfold rV;rw [show (-(low+1074)).toNat=0 from by omega,Nat.pow_zero,Nat.mul_one]
 rw [hrv]
 obtain ⟨C,hC⟩:∃ C,C=c*2 ^ (low+1074).toNat:=⟨_,rfl⟩
 rw [← hC] at hV ⊢
 unfold sumW
 by_cases c0:C=0
 ·have hV0:V=0:=by rw [hV,c0];cases ng <;> simp
  rw [if_pos hV0,c0]
  have h0:rU (dirN ng d) 53 0 1=0:=by
   unfold rU rS rR
   rw [Nat.zero_div,Nat.zero_mod,upw_none _ _ _ (by rw [Nat.one_mul];exact Nat.two_pow_pos _)]
   simp
  rw [h0]
  unfold finU
  rw [blen_zero,if_pos (by omega),rgU_zero]
  rfl
 ·have hVn:V≠0:=by rw [hV];cases ng <;> simp <;> omega
  have hneg:decide (V<0)=ng:=by rw [hV];cases ng <;> simp <;> omega
  have hab:V.natAbs=C:=by rw [hV];cases ng <;> simp
  rw [if_neg hVn,hneg,hab]
theorem sum_signs (s t:Bool) (a b:Nat) (ea eb low:Int) (ea1:-1074≤ea) (eb1:-1074≤eb) (hlow:low=min ea eb) (n n':Bool) (m m':Nat) (hs:s=(n && !(m == 0))) (ht:t=(n' && !(m' == 0))) (ha:a*2 ^ (ea+1074).toNat=Fq.vV Ieee.double m) (hb:b*2 ^ (eb+1074).toNat=Fq.vV Ieee.double m') (A B:Nat) (hA:A=a*2 ^ (ea - low).toNat) (hB:B=b*2 ^ (eb - low).toNat) :
  (s=t→Iv n m+Iv n' m'=if s then -(((A+B)*2 ^ (low+1074).toNat:Nat):Int) else (((A+B)*2 ^ (low+1074).toNat:Nat):Int))∧(s≠t→B≤A→Iv n m+Iv n' m'=if s then -(((A - B)*2 ^ (low+1074).toNat:Nat):Int) else (((A - B)*2 ^ (low+1074).toNat:Nat):Int))∧(s≠t→A<B→Iv n m+Iv n' m'=if t then -(((B - A)*2 ^ (low+1074).toNat:Nat):Int) else (((B - A)*2 ^ (low+1074).toNat:Nat):Int)):=by
 obtain ⟨P,hP⟩:∃ P,P=2 ^ (low+1074).toNat:=⟨_,rfl⟩
 have e1:A*P=Fq.vV Ieee.double m:=by
  rw [hA,hP,← ha,Nat.mul_assoc,← Nat.pow_add];congr 2;omega
 have e2:B*P=Fq.vV Ieee.double m':=by
  rw [hB,hP,← hb,Nat.mul_assoc,← Nat.pow_add];congr 2;omega
 have i1:Iv n m=if s then -((A*P:Nat):Int) else ((A*P:Nat):Int):=by
  rw [e1,hs];unfold Iv
  by_cases c:m=0
  ·rw [c,(vV_pos 0).2 rfl];cases n <;> simp
  ·have:(m == 0)=false:=by simp [c]
   rw [this];cases n <;> simp
 have i2:Iv n' m'=if t then -((B*P:Nat):Int) else ((B*P:Nat):Int):=by
  rw [e2,ht];unfold Iv
  by_cases c:m'=0
  ·rw [c,(vV_pos 0).2 rfl];cases n' <;> simp
  ·have:(m' == 0)=false:=by simp [c]
   rw [this];cases n' <;> simp
 rw [← hP,i1,i2,Nat.add_mul,Nat.sub_mul,Nat.sub_mul]
 obtain ⟨X,hX⟩:∃ X,X=A*P:=⟨_,rfl⟩
 obtain ⟨Y,hY⟩:∃ Y,Y=B*P:=⟨_,rfl⟩
 have hle:B≤A→Y≤X:=fun h=>by rw [hX,hY];exact Nat.mul_le_mul_right _ h
 have hlt:A<B→X≤Y:=fun h=>by rw [hX,hY];exact Nat.mul_le_mul_right _ (Nat.le_of_lt h)
 rw [← hX,← hY]
 clear hX hY e1 e2 i1 i2
 refine ⟨fun h=>?_,fun h hh=>?_,fun h hh=>?_⟩
 ·subst h;cases s <;> simp <;> omega
 ·have:=hle hh
  cases s <;> cases t <;> simp at h ⊢ <;> omega
 ·have:=hlt hh
  cases s <;> cases t <;> simp at h ⊢ <;> omega
end Go.Proofs.YtmpjcknaelgnoaaGreatDoor
