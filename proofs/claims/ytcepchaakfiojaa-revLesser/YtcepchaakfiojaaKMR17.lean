import Derived.Test.YtcepchaakfiojaaKMR14
import Derived.Test.YtcepchaakfiojaaKQA
import Derived.Test.YtcepchaakfiojaaKRX
import Derived.Test.YtcepchaakfiojaaKXQF
import Derived.Laws.Cover1
import Derived.Laws.Small
namespace Go.Proofs.Ytcepchaakfiojaa
open Go.RowKit
theorem vV_lt (m:Nat) (hm:m≤9110782046170513408) (K:Nat) (hK:K = 2075):Fq.vV Ieee.double m < 2 ^ K:=by
  unfold Fq.vV Fq.mM Fq.eE
  rw [Fq.binD]
  by_cases c:m < 4503599627370496
  · rw [if_pos c,if_pos c,Nat.pow_zero,Nat.mul_one]
    have h1:2 ^ 53≤2 ^ K:=Nat.pow_le_pow_right (by omega) (by omega)
    rw [show (2:Nat) ^ 53 = 9007199254740992 from by decide] at h1
    omega
  · rw [if_neg c,if_neg c]
    obtain ⟨e,he⟩:∃ e,e = m / 4503599627370496 - 1:=⟨_,rfl⟩
    have he2:e≤2022:=by omega
    rw [← he]
    have h1:2 ^ 53 * 2 ^ e≤2 ^ K:=by rw [← Nat.pow_add];exact Nat.pow_le_pow_right (by omega) (by omega)
    have h2:(4503599627370496 + m % 4503599627370496) * 2 ^ e < 2 ^ 53 * 2 ^ e:=Nat.mul_lt_mul_of_pos_right (by rw [show (2:Nat) ^ 53 = 9007199254740992 from by decide];omega) (Nat.two_pow_pos _)
    exact Nat.lt_of_lt_of_le h2 h1
end Go.Proofs.Ytcepchaakfiojaa
