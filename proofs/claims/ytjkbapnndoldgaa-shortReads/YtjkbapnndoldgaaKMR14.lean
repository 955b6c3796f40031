import Derived.Test.YtjkbapnndoldgaaKMR13
import Derived.Test.YtjkbapnndoldgaaKQM
namespace Go.Proofs.Ytjkbapnndoldgaa
open Go.RowKit
theorem vV_rung (A : Nat) (d : Int) : Fq.vV Ieee.double (rgU 53 (rU d 53 A 1)) = rU d 53 A 1 := by
  obtain ⟨E, hE⟩ : ∃ E, E = rE 53 A 1 := ⟨_, rfl⟩
  obtain ⟨K, hK⟩ : ∃ K, K = rS 53 A 1 + (upw d (rS 53 A 1) (rR 53 A 1) (1 * 2 ^ rE 53 A 1)).toNat := ⟨_, rfl⟩
  obtain ⟨h1, h2, h3, h4, h5, _⟩ := rung_of A d E K hE hK
  rw [h5, h1]
  unfold Fq.vV Fq.mM Fq.eE
  rw [Fq.binD]
  by_cases c0 : E * 4503599627370496 + K < 4503599627370496
  · have : E = 0 := by omega
    rw [if_pos c0, if_pos c0, this]; simp
  · rw [if_neg c0, if_neg c0]
    by_cases c1 : K = 9007199254740992
    · rw [c1, show (E * 4503599627370496 + 9007199254740992) / 4503599627370496 = E + 2 from by omega, show (E * 4503599627370496 + 9007199254740992) % 4503599627370496 = 0 from by omega, show E + 2 - 1 = E + 1 from by omega, Nat.pow_succ]
      omega
    · have hge : 4503599627370496 ≤ K := by omega
      rw [show (E * 4503599627370496 + K) / 4503599627370496 = E + 1 from by omega, show (E * 4503599627370496 + K) % 4503599627370496 = K - 4503599627370496 from by omega, show 4503599627370496 + (K - 4503599627370496) = K from by omega, Nat.add_sub_cancel]
end Go.Proofs.Ytjkbapnndoldgaa
