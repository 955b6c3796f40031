import Derived.Test.YtmpjcknaelgnoaaGreatDoorKFM
import Derived.Test.YtmpjcknaelgnoaaGreatDoorKMR7Q
namespace Go.Proofs.YtmpjcknaelgnoaaGreatDoor
open Go.RowKit
theorem rU_floor (p A B:Nat) (h:blen (A / B)≤p):rU (-1) p A B=A / B:=by
 have hE:rE p A B=0:=by unfold rE;omega
 unfold rU rS rR
 rw [hE,Nat.pow_zero,Nat.mul_one,Nat.mul_one]
 have e:upw (-1) (A / B) (A % B) B=false:=by unfold upw;simp
 rw [e];simp
theorem frac_exact (sg:Nat) (ep:Int) (a b K e:Nat) (hF:FracOf sg 1 ep a b) (h0:sg≠0) (he:(e:Int)=ep+(K:Int)):a*2 ^ K=sg*2 ^ e*b:=by
 obtain ⟨hb,-,hrv,-,-⟩:=hF
 have hbp:0<b:=by omega
 have hfl:∀ j:Nat,a*2 ^ K*2 ^ j / b=sg*2 ^ e*2 ^ j:=fun j=>by
  obtain ⟨p,hp⟩:∃ p,p=blen (a*2 ^ (K+j) / b)+blen (sg*2 ^ (e+j)):=⟨_,rfl⟩
  have h:=hrv (-1) p ((K+j:Nat):Int) h0
  unfold rV at h
  rw [show (((K+j:Nat):Int)).toNat=K+j from by omega,show (-((K+j:Nat):Int)).toNat=0 from by omega,show (((K+j:Nat):Int)+ep).toNat=e+j from by omega,show (-(((K+j:Nat):Int)+ep)).toNat=0 from by omega,Nat.pow_zero,Nat.mul_one,Nat.mul_one,rU_floor p _ b (by rw [hp];omega),rU_floor p _ 1 (by rw [Nat.div_one,hp];omega),Nat.div_one,Nat.pow_add,Nat.pow_add] at h
  rw [Nat.mul_assoc,h,Nat.mul_assoc]
 obtain ⟨A,hA⟩:∃ A,A=a*2 ^ K:=⟨_,rfl⟩
 obtain ⟨S,hS⟩:∃ S,S=sg*2 ^ e:=⟨_,rfl⟩
 rw [← hA,← hS] at hfl ⊢
 have h1:=hfl 0
 rw [Nat.pow_zero,Nat.mul_one,Nat.mul_one] at h1
 have h2:S*b≤A:=by rw [← h1];exact Nat.div_mul_le_self A b
 obtain ⟨D,hD⟩:∃ D,D=A - S*b:=⟨_,rfl⟩
 by_cases c:D=0
 ·omega
 ·exfalso
  have h3:=hfl (blen b)
  have h4:b<2 ^ blen b:=(blen_spec b hb).2.1
  have e1:A=S*b+D:=by omega
  rw [e1,Nat.add_mul,Nat.mul_right_comm,Nat.add_comm,Nat.add_mul_div_right _ _ hbp] at h3
  have h5:D*2 ^ blen b / b=0:=by omega
  have h6:b≤D*2 ^ blen b:=Nat.le_trans (Nat.le_of_lt h4) (Nat.le_mul_of_pos_left _ (by omega))
  have h7:=(Nat.le_div_iff_mul_le hbp (x:=1)).2 (by rw [Nat.one_mul];exact h6)
  omega
theorem ratio_sum (d V:Int) (x D a b K:Nat) (neg:Bool) (hK:K=1074) (hD:D≠0) (hF:FracOf x D 0 a b) (hx:x*2 ^ K=V.natAbs*D) (ng:Bool) (hng:x≠0→ng=neg) (hneg:V≠0→neg=decide (V<0)):refW 53 1074 2098 9218868437227405311 0 d ng a b=sumW d V:=by
 have h:=refW_fin d ng neg x D a b 0 hF hng K hK
 rw [← hK]
 rw [h]
 unfold sumW
 have hx0:x=0 ↔ V=0:=by
  have hp:=Nat.two_pow_pos K
  constructor
  ·intro h0;rw [h0,Nat.zero_mul] at hx
   rcases Nat.mul_eq_zero.1 hx.symm with h1 | h1 <;> omega
  ·intro h0;rw [h0] at hx
   rw [Int.natAbs_zero,Nat.zero_mul] at hx
   rcases Nat.mul_eq_zero.1 hx with h1 | h1
   ·exact h1
   ·omega
 by_cases c:x=0
 ·rw [if_pos c,if_pos (hx0.1 c)]
 ·have hv:V≠0:=fun h0=>c (hx0.2 h0)
  rw [if_neg c,if_neg hv,← hneg hv]
  have e:rV (dirN neg d) 53 x D (0+1074)=rU (dirN neg d) 53 V.natAbs 1:=by
   unfold rV
   rw [show ((0:Int)+1074).toNat=K from by omega,show (-((0:Int)+1074)).toNat=0 from by omega,Nat.pow_zero,Nat.mul_one,hx]
   exact rU_ratio _ _ _ _ _ _ (by omega) (by omega) (by rw [Nat.mul_one])
  rw [e]
end Go.Proofs.YtmpjcknaelgnoaaGreatDoor
