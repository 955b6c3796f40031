import Derived.Test.YtnileplkkmhdgaaGreatDoorKQM
import Derived.Lib.BitFns
namespace Go.Proofs.YtnileplkkmhdgaaGreatDoor
open Go.RowKit
namespace Fq
open Ieee
theorem vV_of (f:Format) (q k:Nat) (h1:f.binade≤k) (h2:k < 2 * f.binade):vV f (q * f.binade + k) = k * 2 ^ q:=by
  have hB:=binade_pos f
  unfold vV mM eE
  have e1:¬ (q * f.binade + k < f.binade):=by have:=Nat.zero_le (q * f.binade);omega
  have e2:(q * f.binade + k) / f.binade = q + 1:=by
    rw [show q * f.binade + k = (k - f.binade) + (q + 1) * f.binade from by rw [Nat.add_mul];omega,Nat.add_mul_div_right _ _ hB,Nat.div_eq_of_lt (by omega)];omega
  have e3:(q * f.binade + k) % f.binade = k - f.binade:=by
    rw [show q * f.binade + k = (k - f.binade) + (q + 1) * f.binade from by rw [Nat.add_mul];omega,Nat.add_mul_mod_self_right,Nat.mod_eq_of_lt (by omega)]
  rw [if_neg e1,if_neg e1,e2,e3,show f.binade + (k - f.binade) = k from by omega,Nat.add_sub_cancel]

def vlD (m:Nat):Nat:=vV double m
end Fq
namespace Fq
open Ieee
theorem bitLen_bd (o:Nat) (h0:o≠0) (h:o < 18446744073709551616):0 < Lib.bitLen o∧Lib.bitLen o≤64∧2 ^ (Lib.bitLen o - 1)≤o∧o < 2 ^ Lib.bitLen o:=by
  have h64:(2:Nat) ^ 64 = 18446744073709551616:=by decide
  have key:∀ k o:Nat,o≠0→o < 2 ^ 64→o.log2 = k→Lib.bitLen o = k + 1:=by
    intro k
    induction k with
    | zero =>
      intro o h0 h hk
      have h1:o < 2 ^ 1:=(Nat.log2_lt h0).1 (by omega)
      have:o = 1:=by omega
      subst this;decide
    | succ k ih =>
      intro o h0 h hk
      have h2:2 ^ (k + 1)≤o:=by rw [← hk];exact Nat.log2_self_le h0
      have hp:=Nat.two_pow_pos k
      rw [Nat.pow_succ] at h2
      have hd:(o / 2).log2 = k:=by rw [Nat.log2_def] at hk;rw [if_pos (by omega)] at hk;omega
      rw [Lib.bitLen_half o h0 h,ih (o / 2) (by omega) (by omega) hd];omega
  have e:=key o.log2 o h0 (by rw [h64];exact h) rfl
  have l:=(Nat.log2_lt h0 (k:=64)).2 (by rw [h64];exact h)
  rw [e]
  exact ⟨by omega,by omega,by rw [Nat.add_sub_cancel];exact Nat.log2_self_le h0,Nat.lt_log2_self⟩

def jokD (o:Nat) (E:Int):Bool:=decide (Lib.bitLen o≤53) && decide (-1074≤E) && decide (E + Lib.bitLen o≤1024)
def jshD (o:Nat) (E:Int):Nat:=min (53 - Lib.bitLen o) (E + 1074).toNat
def jrD (o:Nat) (E:Int):Nat:=((E + 1074).toNat - jshD o E) * 4503599627370496 + o * 2 ^ jshD o E
theorem jokD_iff (o:Nat) (E:Int):jokD o E = true ↔ Lib.bitLen o≤53∧-1074≤E∧E + Lib.bitLen o≤1024:=by
  unfold jokD;simp only [Bool.and_eq_true,decide_eq_true_eq,and_assoc]
theorem jrD_spec (o:Nat) (h0:o≠0) (h:o < 18446744073709551616) (E:Int) (hj:jokD o E = true) :
    0 < jrD o E∧jrD o E < 9218868437227405312∧vlD (jrD o E) = o * 2 ^ (E + 1074).toNat∧o * 2 ^ jshD o E < 9007199254740992:=by
  obtain ⟨j1,j2,j3⟩:=(jokD_iff o E).1 hj
  obtain ⟨l0,l1,l2,l3⟩:=bitLen_bd o h0 h
  obtain ⟨n,hn⟩:∃ n,n = Lib.bitLen o:=⟨_,rfl⟩
  obtain ⟨X,hX⟩:∃ X:Nat,X = (E + 1074).toNat:=⟨_,rfl⟩
  unfold jrD jshD
  rw [← hn] at j1 j3 l0 l1 l2 l3 ⊢
  rw [← hX]
  have hB:(2:Nat) ^ 52 = 4503599627370496:=by decide
  have hb:=binD
  by_cases c:53 - n≤X
  · rw [Nat.min_eq_left c]
    have k1:4503599627370496≤o * 2 ^ (53 - n):=by
      rw [← hB]
      refine Nat.le_trans (Nat.le_of_eq ?_) (Nat.mul_le_mul_right _ l2)
      rw [← Nat.pow_add];congr 1;omega
    have k2:o * 2 ^ (53 - n) < 9007199254740992:=by
      have h2:(2:Nat) ^ 53 = 9007199254740992:=by decide
      rw [← h2]
      refine Nat.lt_of_lt_of_le (Nat.mul_lt_mul_of_pos_right l3 (Nat.two_pow_pos _)) (Nat.le_of_eq ?_)
      rw [← Nat.pow_add];congr 1;omega
    obtain ⟨M,hM⟩:∃ M,M = o * 2 ^ (53 - n):=⟨_,rfl⟩
    rw [← hM] at k1 k2 ⊢
    obtain ⟨q,hq⟩:∃ q,q = X - (53 - n):=⟨_,rfl⟩
    rw [← hq]
    have hv:=vV_of double q M (by omega) (by omega)
    rw [hb] at hv
    refine ⟨by omega, ?_, ?_,k2⟩
    · have hq2:q≤2045:=by omega
      have:=Nat.mul_le_mul_right 4503599627370496 hq2
      omega
    · show vV double (q * 4503599627370496 + M) = _
      rw [hv,hM,Nat.mul_assoc,← Nat.pow_add];congr 2;omega
  · rw [Nat.min_eq_right (by omega),Nat.sub_self,Nat.zero_mul,Nat.zero_add]
    have k2:o * 2 ^ X < 4503599627370496:=by
      rw [← hB]
      refine Nat.lt_of_lt_of_le (Nat.mul_lt_mul_of_pos_right l3 (Nat.two_pow_pos _)) ?_
      rw [← Nat.pow_add];exact Nat.pow_le_pow_right (by decide) (by omega)
    refine ⟨Nat.mul_pos (by omega) (Nat.two_pow_pos _),by omega, ?_,by omega⟩
    show vV double (o * 2 ^ X) = _
    unfold vV mM eE
    rw [if_pos (by rw [hb];exact k2),if_pos (by rw [hb];exact k2),Nat.pow_zero,Nat.mul_one]

end Fq
namespace Fq
open Ieee
theorem vlsgD (m:Nat) (hm:m < 9218868437227405312):sgD m * 2 ^ (epD m + 1074).toNat = vlD m∧sgD m < 9007199254740992∧(m = 0 ↔ sgD m = 0)∧-1074≤epD m∧epD m≤971:=by
  have hb:=binD
  by_cases c:m < 4503599627370496
  · have e1:sgD m = m:=by unfold sgD sgG;rw [if_pos c]
    have e2:epD m = -1074:=by unfold epD epG;rw [if_pos c]
    rw [e1,e2,show (-1074 + 1074:Int).toNat = 0 from rfl,Nat.pow_zero,Nat.mul_one]
    refine ⟨?_,by omega,Iff.rfl,by omega,by omega⟩
    show m = vV double m
    unfold vV mM eE
    rw [hb,if_pos c,if_pos c,Nat.pow_zero,Nat.mul_one]
  · have e1:sgD m = 4503599627370496 + m % 4503599627370496:=by unfold sgD sgG;rw [if_neg c,if_pos hm]
    have e2:epD m = -1074 + m / 4503599627370496 - 1:=by unfold epD epG;(repeat' split) <;> omega
    rw [e1,e2]
    have hd:=Nat.div_add_mod m 4503599627370496
    have hq:1≤m / 4503599627370496:=by omega
    have hr:=Nat.mod_lt m (by decide:0 < 4503599627370496)
    have hq2:m / 4503599627370496≤2046:=by omega
    refine ⟨?_,by omega,by omega,by omega,by omega⟩
    rw [show (-1074 + (m:Int) / 4503599627370496 - 1 + 1074).toNat = m / 4503599627370496 - 1 from by omega]
    have hv:=vV_of double (m / 4503599627370496 - 1) (4503599627370496 + m % 4503599627370496) (by rw [hb];omega) (by rw [hb];omega)
    rw [← hv]
    show vV double _ = vV double m
    congr 1
    rw [hb]
    have:(m / 4503599627370496 - 1) * 4503599627370496 + 4503599627370496 = m / 4503599627370496 * 4503599627370496:=by rw [Nat.sub_mul,Nat.one_mul,Nat.sub_add_cancel (by omega)]
    omega
end Fq
end Go.Proofs.YtnileplkkmhdgaaGreatDoor
