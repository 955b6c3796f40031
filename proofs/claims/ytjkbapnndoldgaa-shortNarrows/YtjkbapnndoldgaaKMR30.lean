import Derived.Test.YtjkbapnndoldgaaKEN
import Derived.Test.YtjkbapnndoldgaaKMR17
import Derived.Test.YtjkbapnndoldgaaKXG4
namespace Go.Proofs.Ytjkbapnndoldgaa
open Go.RowKit
theorem vV_zero_iff (m : Nat) : Fq.vV Ieee.double m = 0 ↔ m = 0 := by
  have h := Fq.vV_inj Ieee.double m 0
  rw [Fq.vV_zero] at h
  exact h
theorem rU_dvd (d : Int) (A : Nat) (h : A % 2 ^ rE 53 A 1 = 0) : rU d 53 A 1 = A := by
  unfold rU rS rR
  rw [Nat.one_mul, h, upw_none _ _ _ (Nat.two_pow_pos _)]
  simp only [Bool.toNat_false, Nat.add_zero]
  exact Nat.div_mul_cancel (Nat.dvd_of_mod_eq_zero h)
theorem rU_rep (d : Int) (K j : Nat) (h : K ≤ 9007199254740992) : rU d 53 (K * 2 ^ j) 1 = K * 2 ^ j := by
  have key : ∀ K j : Nat, K < 9007199254740992 → rU d 53 (K * 2 ^ j) 1 = K * 2 ^ j := fun K j h => by
    by_cases c : K = 0
    · rw [c, Nat.zero_mul]; exact rU_dvd d 0 (Nat.zero_mod _)
    · apply rU_dvd
      have hb : blen K ≤ 53 := by rw [blen_le_iff, show (2 : Nat) ^ 53 = 9007199254740992 from by decide]; exact h
      have hE : rE 53 (K * 2 ^ j) 1 ≤ j := by unfold rE; rw [Nat.div_one, blen_mul _ _ c]; omega
      obtain ⟨E, hE2⟩ : ∃ E, E = rE 53 (K * 2 ^ j) 1 := ⟨_, rfl⟩
      rw [← hE2] at hE ⊢
      rw [show j = (j - E) + E from by omega, Nat.pow_add, ← Nat.mul_assoc, Nat.mul_mod_left]
  by_cases c : K = 9007199254740992
  · have e : K * 2 ^ j = 4503599627370496 * 2 ^ (j + 1) := by rw [c, Nat.pow_succ]; omega
    rw [e]; exact key _ _ (by decide)
  · exact key K j (by omega)
end Go.Proofs.Ytjkbapnndoldgaa
