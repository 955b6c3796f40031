import Derived.Test.YtmpjcknaelgnoaaGreatDoorKFM
import Derived.Test.YtmpjcknaelgnoaaGreatDoorKH3DQ
namespace Go.Proofs.YtmpjcknaelgnoaaGreatDoor
open Go.RowKit
theorem rV_zero9 (d:Int) (t:Int):rV d 53 0 1 t=0:=by
 unfold rV rU rS rR
 rw [Nat.zero_mul,Nat.zero_div,Nat.zero_mod,upw_none _ _ _ (Nat.mul_pos (Nat.mul_pos (by omega) (Nat.pow_pos (by omega))) (Nat.pow_pos (by omega)))]
 simp
theorem long_iff (a:Nat):524288<blen a ↔ 16384<len32 a:=by
 constructor
 ·intro h
  by_cases c:16384<len32 a
  ·exact c
  ·have:=blen_len a 16384 (by omega)
   omega
 ·intro h
  by_cases c:524288<blen a
  ·exact c
  ·have:=dlen a 16384 (by omega)
   unfold len32 at h
   omega
theorem of_rat (d:Int) (neg:Bool) (a:Nat) (exp:Int):ofW d neg a exp=ratW d neg a 1 exp:=by
 unfold ofW ratW
 by_cases c:524288<blen a
 ·rw [if_pos c,if_pos (Or.inl ((long_iff a).1 c))]
 ·rw [if_neg c,if_neg (by rw [len32_one];have:=mt (long_iff a).2 c;omega),if_neg (by decide)]
  by_cases c0:a=0
  ·have hz:∀ (dd t:Int),rV dd 53 0 1 t=0:=fun dd t=>rV_zero9 dd t
   rw [if_pos c0,c0,hz]
   have hf:∀ dd:Int,finU 53 2098 9218868437227405311 9218868437227405312 dd 0=0:=fun dd=>by unfold finU;rw [blen_zero,if_pos (by omega),rgU_zero]
   rw [hf];rfl
  ·rw [if_neg c0]
   have hb:=(blen_spec a c0).2.2
   have hpm:∀ R,pW 9223372036854775808 neg R=mdW neg R:=fun R=>rfl
   rw [hpm]
   by_cases ce:conf exp=exp
   ·rw [ce]
   ·refine congrArg (mdW neg) (fin_clamp (dirN neg d) a 1 a 1 (conf exp+1074) (exp+1074) c0 (by decide) c0 (by decide) ?_)
    rw [show blen 1=1 from blen_uniq 1 0 (by decide) (by decide)]
    unfold conf at ce ⊢
    omega
end Go.Proofs.YtmpjcknaelgnoaaGreatDoor
