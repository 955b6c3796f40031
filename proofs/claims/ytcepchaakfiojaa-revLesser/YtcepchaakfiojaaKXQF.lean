import Derived.Test.YtcepchaakfiojaaKQM
import Derived.Lib.BitFns
namespace Go.Proofs.Ytcepchaakfiojaa
open Go.RowKit
namespace Fq
open Ieee
theorem vV_of (f:Format) (q k:Nat) (h1:f.binade≤k) (h2:k < 2 * f.binade):vV f (q * f.binade + k) = k * 2 ^ q:=by
  have hB:=binade_pos f
  unfold vV mM eE
  have e1:¬ (q * f.binade + k < f.binade):=by have:=Nat.zero_le (q * f.binade);omega
  have e2:(q * f.binade + k) / f.binade = q + 1:=by
    rw [show q * f.binade + k = (k - f.binade) + (q + 1) * f.binade from by rw [Nat.add_mul];omega,Nat.add_mul_div_right _ _ hB,Nat.div_eq_of_lt (by omega)];omega
  have e3:(q * f.binade + k) % f.binade = k - f.binade:=by
    rw [show q * f.binade + k = (k - f.binade) + (q + 1) * f.binade from by rw [Nat.add_mul];omega,Nat.add_mul_mod_self_right,Nat.mod_eq_of_lt (by omega)]
  rw [if_neg e1,if_neg e1,e2,e3,show f.binade + (k - f.binade) = k from by omega,Nat.add_sub_cancel]

def vlD (m:Nat):Nat:=vV double m
end Fq
namespace Fq
open Ieee
theorem vlsgD (m:Nat) (hm:m < 9218868437227405312):sgD m * 2 ^ (epD m + 1074).toNat = vlD m∧sgD m < 9007199254740992∧(m = 0 ↔ sgD m = 0)∧-1074≤epD m∧epD m≤971:=by
  have hb:=binD
  by_cases c:m < 4503599627370496
  · have e1:sgD m = m:=by unfold sgD sgG;rw [if_pos c]
    have e2:epD m = -1074:=by unfold epD epG;rw [if_pos c]
    rw [e1,e2,show (-1074 + 1074:Int).toNat = 0 from rfl,Nat.pow_zero,Nat.mul_one]
    refine ⟨?_,by omega,Iff.rfl,by omega,by omega⟩
    show m = vV double m
    unfold vV mM eE
    rw [hb,if_pos c,if_pos c,Nat.pow_zero,Nat.mul_one]
  · have e1:sgD m = 4503599627370496 + m % 4503599627370496:=by unfold sgD sgG;rw [if_neg c,if_pos hm]
    have e2:epD m = -1074 + m / 4503599627370496 - 1:=by unfold epD epG;(repeat' split) <;> omega
    rw [e1,e2]
    have hd:=Nat.div_add_mod m 4503599627370496
    have hq:1≤m / 4503599627370496:=by omega
    have hr:=Nat.mod_lt m (by decide:0 < 4503599627370496)
    have hq2:m / 4503599627370496≤2046:=by omega
    refine ⟨?_,by omega,by omega,by omega,by omega⟩
    rw [show (-1074 + (m:Int) / 4503599627370496 - 1 + 1074).toNat = m / 4503599627370496 - 1 from by omega]
    have hv:=vV_of double (m / 4503599627370496 - 1) (4503599627370496 + m % 4503599627370496) (by rw [hb];omega) (by rw [hb];omega)
    rw [← hv]
    show vV double _ = vV double m
    congr 1
    rw [hb]
    have:(m / 4503599627370496 - 1) * 4503599627370496 + 4503599627370496 = m / 4503599627370496 * 4503599627370496:=by rw [Nat.sub_mul,Nat.one_mul,Nat.sub_add_cancel (by omega)]
    omega
end Fq
end Go.Proofs.Ytcepchaakfiojaa
