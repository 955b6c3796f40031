import Derived.Test.YtnileplkkmhdgaaGreatDoorKXQF
import Derived.Test.YtnileplkkmhdgaaGreatDoorKXY
namespace Go.Proofs.YtnileplkkmhdgaaGreatDoor
open Go.RowKit
theorem bitLen_blen (o:Nat) (h0:o≠0) (h:o < 18446744073709551616):Lib.bitLen o = blen o:=by
  obtain ⟨a1,a2,a3,a4⟩:=Fq.bitLen_bd o h0 h
  have:=blen_uniq o (Lib.bitLen o - 1) a3 (by rw [show Lib.bitLen o - 1 + 1 = Lib.bitLen o from by omega];exact a4)
  omega
def pW (s:Nat) (neg:Bool) (m:Nat):Nat:=if m = 0 then 0 else if neg then s + m else m
theorem cut61 (d:Int) (sig c:Nat) (hs:sig < 1152921504606846976) (kp:Nat) (hk:kp = sig / 2 ^ c + (upw d (sig / 2 ^ c) (sig % 2 ^ c) (2 ^ c)).toNat) :
    kp = sig / 2 ^ min c 61 + (upw d (sig / 2 ^ min c 61) (sig % 2 ^ min c 61) (2 ^ min c 61)).toNat:=by
  by_cases h:c≤61
  · rw [Nat.min_eq_left h];exact hk
  · rw [Nat.min_eq_right (by omega)]
    have h61:(2:Nat) ^ 61≤2 ^ c:=Nat.pow_le_pow_right (by omega) (by omega)
    have e61:(2:Nat) ^ 61 = 2305843009213693952:=by decide
    rw [hk,Nat.div_eq_of_lt (by omega:sig < 2 ^ c),Nat.mod_eq_of_lt (by omega:sig < 2 ^ c),Nat.div_eq_of_lt (by omega:sig < 2 ^ 61),Nat.mod_eq_of_lt (by omega:sig < 2 ^ 61),upw_small d 0 sig (2 ^ c) (2 ^ 61) (by omega) (by omega)]
theorem jrD_rg (o:Nat) (E:Int) (h0:o≠0) (h:o < 18446744073709551616) (hj:Fq.jokD o E = true):Fq.jrD o E = rgU 53 (o * 2 ^ (E + 1074).toNat):=by
  obtain ⟨a1,a2,a3⟩:=(Fq.jokD_iff o E).1 hj
  have hb:=bitLen_blen o h0 h
  have hr:=rgU_mul 53 o (E + 1074).toNat (Fq.jshD o E) h0 (by unfold Fq.jshD;rw [hb]) (by omega)
  rw [hr]
  unfold Fq.jrD
  rw [show (2:Nat) ^ (53 - 1) = 4503599627370496 from by decide]
theorem joinPD (kp Lx U:Nat) (last:Int) (hk0:kp≠0) (hk:kp≤9007199254740992) (hl:last = (Lx:Int) - 1074) (hU:U = kp * 2 ^ Lx) :
    ∃ o k:Nat,o % 2 = 1∧kp = o * 2 ^ k∧o * 2 ^ k < 18446744073709551616∧(Fq.jokD o (last + (k:Int)) = true ↔ blen U≤2098)∧(blen U≤2098→Fq.jrD o (last + (k:Int)) = rgU 53 U∧rgU 53 U≠0):=by
  obtain ⟨o,k,ho,e⟩:=odd_part kp hk0
  have hp:0 < 2 ^ k:=Nat.pow_pos (by omega)
  have hok:o≤kp:=by rw [e];exact Nat.le_mul_of_pos_right _ hp
  have hb:=bitLen_blen o (by omega) (by omega)
  have hbl:blen o≤53:=by
    by_cases c:kp = 9007199254740992
    · by_cases c1:o = 1
      · rw [c1,blen_uniq 1 0 (by decide) (by decide)];omega
      · have h1:k≠0:=by
          intro h
          rw [h,Nat.pow_zero,Nat.mul_one] at e
          omega
        have h2:2 * o≤kp:=by
          rw [e,Nat.mul_comm 2]
          refine Nat.mul_le_mul_left _ ?_
          have:(2:Nat) ^ 1≤2 ^ k:=Nat.pow_le_pow_right (by omega) (by omega)
          simpa using this
        exact blen_lt o 53 (by rw [show (2:Nat) ^ 53 = 9007199254740992 from by decide];omega)
    · exact blen_lt o 53 (by rw [show (2:Nat) ^ 53 = 9007199254740992 from by decide];omega)
  have hE:(last + (k:Int) + 1074).toNat = k + Lx:=by omega
  have hUo:U = o * 2 ^ (last + (k:Int) + 1074).toNat:=by rw [hU,e,hE,Nat.pow_add,Nat.mul_assoc]
  have hbU:blen U = blen o + (k + Lx):=by rw [hUo,hE,blen_mul _ _ (by omega)]
  have hiff:Fq.jokD o (last + (k:Int)) = true ↔ blen U≤2098:=by
    rw [Fq.jokD_iff,hb,hbU]
    omega
  refine ⟨o,k,ho,e,by rw [← e];omega,hiff,fun h=>⟨?_, ?_⟩⟩
  · rw [jrD_rg o _ (by omega) (by omega) (hiff.2 h),← hUo]
  · intro h9
    unfold rgU at h9
    have hU0:U≠0:=by rw [hUo];exact Nat.ne_of_gt (Nat.mul_pos (by omega) (Nat.pow_pos (by omega)))
    have h1:=(blen_spec U hU0).1
    have h2:U / 2 ^ (blen U - 53) = 0:=(Nat.add_eq_zero_iff.1 h9).2
    have h3:U < 2 ^ (blen U - 53):=by
      by_cases c:U < 2 ^ (blen U - 53)
      · exact c
      · exact absurd h2 (Nat.ne_of_gt (Nat.div_pos (by omega) (Nat.pow_pos (by omega))))
    have h4:(2:Nat) ^ (blen U - 53)≤2 ^ (blen U - 1):=Nat.pow_le_pow_right (by omega) (by omega)
    omega
end Go.Proofs.YtnileplkkmhdgaaGreatDoor
