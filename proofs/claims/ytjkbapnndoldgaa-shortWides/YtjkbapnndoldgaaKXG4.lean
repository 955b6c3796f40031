import Derived.Test.YtjkbapnndoldgaaKFM
import Derived.Test.YtjkbapnndoldgaaKXG1
import Derived.Deep.DeepCutAuto
namespace Go.Proofs.Ytjkbapnndoldgaa
open Go.RowKit
theorem fb_bits (n : Bool) (m X Q eN fN : Nat) (hm : m < 9218868437227405312) (hX : X = Fb.wD n m) (hQ : Q = X / 4503599627370496) (he : eN = m / 4503599627370496) (hf : fN = m % 4503599627370496) :
    bits BinOp.and IntKind.u64 (Q : Int) 2047 = (eN : Int) ∧ bits BinOp.and IntKind.u64 (X : Int) 4503599627370495 = (fN : Int) ∧ (X : Int) / 9223372036854775808 = (if n = true then 1 else 0) ∧ eN < 2047 ∧ fN < 4503599627370496 ∧ X < 18446744073709551616 := by
  have hX9 : X < 18446744073709551616 := by rw [hX]; unfold Fb.wD; split <;> omega
  have e1 : Q % 2048 = eN := by rw [hQ, he, hX]; unfold Fb.wD; split <;> omega
  have e2 : X % 4503599627370496 = fN := by rw [hf, hX]; unfold Fb.wD; split <;> omega
  refine ⟨?_, ?_, ?_, by omega, by omega, hX9⟩
  · have h := u64_and_nat Q 2047 (by omega) (by decide)
    rw [show (2047 : Nat) = 2 ^ 11 - 1 from by decide, Nat.and_two_pow_sub_one_eq_mod, show (2 : Nat) ^ 11 = 2048 from by decide, e1] at h
    exact h
  · have h := u64_and_nat X 4503599627370495 hX9 (by decide)
    rw [show (4503599627370495 : Nat) = 2 ^ 52 - 1 from by decide, Nat.and_two_pow_sub_one_eq_mod, show (2 : Nat) ^ 52 = 4503599627370496 from by decide, e2] at h
    exact h
  · rw [hX]; unfold Fb.wD; cases n <;> simp <;> omega
end Go.Proofs.Ytjkbapnndoldgaa
