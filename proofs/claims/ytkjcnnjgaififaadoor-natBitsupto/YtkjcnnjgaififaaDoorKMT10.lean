import Derived.Test.YtkjcnnjgaififaaDoorKXM
import Derived.RowKit
namespace Go.Proofs.YtkjcnnjgaififaaDoor
open Go.RowKit
theorem bit_step (A m : Nat) : A % 2 ^ (m + 1) = A % 2 ^ m + 2 ^ m * (A / 2 ^ m % 2) := Nat.mod_pow_succ
theorem blen_top (B m : Nat) (h : B < 2 ^ m) : blen (B + 2 ^ m) = m + 1 := blen_uniq _ m (by omega) (by rw [Nat.pow_succ]; omega)
theorem ctz_top (B m : Nat) (h0 : B ≠ 0) (h : B < 2 ^ m) : ctz (B + 2 ^ m) = ctz B := by
  obtain ⟨o, k, ho, e⟩ := odd_part B h0
  have hk : k < m := by
    by_cases c : k < m
    · exact c
    · exfalso
      have h1 : (2 : Nat) ^ m ≤ 2 ^ k := Nat.pow_le_pow_right (by omega) (by omega)
      have h2 : 1 * 2 ^ k ≤ o * 2 ^ k := Nat.mul_le_mul_right _ (by omega)
      omega
  have e2 : (2 : Nat) ^ m = 2 * 2 ^ (m - k - 1) * 2 ^ k := by
    rw [Nat.mul_comm 2, ← Nat.pow_succ, ← Nat.pow_add]
    exact congrArg _ (by omega)
  rw [e, e2, ← Nat.add_mul, ctz_eq _ _ ho, ctz_eq _ _ (by omega)]
theorem blen_eq_zero (B : Nat) : blen B = 0 ↔ B = 0 := by
  constructor
  · intro h
    by_cases c : B = 0
    · exact c
    · have := (blen_spec B c).2.2
      omega
  · intro h; rw [h, blen_zero]
theorem take_bit (xs : List Int) (h : Wd xs) (n i j : Nat) (hi : i < (xs.take n).length) (hj : j < 32) : (xs.getD i 0).toNat / 2 ^ j % 2 = val (xs.take n) / 2 ^ (32 * i + j) % 2 := by
  rw [← val_bit (xs.take n) (h.take n) i j hj hi]
  rw [List.length_take] at hi
  have : (xs.take n).getD i 0 = xs.getD i 0 := by simp [List.getD, show i < n from by omega]
  rw [this]
end Go.Proofs.YtkjcnnjgaififaaDoor
