import Derived.Test.YtakcpoapokacgabDoorMN
import Derived.Test.YtakcpoapokacgabDoorMV
import Derived.RowKit
namespace Go.Proofs.YtakcpoapokacgabDoor
open Go.RowKit

/-- one word of a sum, where it stands -/
theorem sum_step (zs : List Int) (k C S V : Nat) (X Y : Int) (hk : k < zs.length) (hX : zs.getD k 0 = X) (hS : S = X.toNat + Y.toNat + C) (h : val zs + C * 4294967296 ^ k = V) :
    val (zs.set k ((S % 4294967296 : Nat) : Int)) + S / 4294967296 * 4294967296 ^ (k + 1) = V + Y.toNat * 4294967296 ^ k := by
  have h1 := val_set zs k ((S % 4294967296 : Nat) : Int) hk
  rw [hX, Int.toNat_natCast] at h1
  have e : S % 4294967296 + 4294967296 * (S / 4294967296) = S := Nat.mod_add_div _ _
  obtain ⟨P, hP⟩ : ∃ P, P = 4294967296 ^ k := ⟨_, rfl⟩
  rw [Nat.pow_succ, ← hP]
  rw [← hP] at h h1
  have e2 : S % 4294967296 * P + S / 4294967296 * (P * 4294967296) = S * P := by
    have : S / 4294967296 * (P * 4294967296) = 4294967296 * (S / 4294967296) * P := by
      rw [Nat.mul_comm P, ← Nat.mul_assoc, Nat.mul_comm (S / 4294967296)]
    rw [this, ← Nat.add_mul, e]
  have e3 : S * P = X.toNat * P + Y.toNat * P + C * P := by rw [hS, Nat.add_mul, Nat.add_mul]
  omega
theorem sum_room (xs ys zs : List Int) (k : Nat) (hx : Wd xs) (hy : Wd ys) (hl : ys.length ≤ xs.length) (h : val zs + 1 * 4294967296 ^ k = val xs + val ys) : k ≤ xs.length := by
  by_cases c : k ≤ xs.length
  · exact c
  · exfalso
    have h1 := val_lt xs hx
    have h2 := val_lt ys hy
    have h3 : 4294967296 ^ ys.length ≤ 4294967296 ^ xs.length := Nat.pow_le_pow_right (by decide) hl
    have h4 : 4294967296 ^ (xs.length + 1) ≤ 4294967296 ^ k := Nat.pow_le_pow_right (by decide) (by omega)
    rw [Nat.pow_succ] at h4
    omega
theorem val_zero_end (xs : List Int) : val (xs ++ [0]) = val xs := by rw [val_append]; simp [val]
theorem getD_end (xs : List Int) (j : Nat) : (xs ++ [0]).getD j 0 = if j < xs.length then xs.getD j 0 else 0 := by
  by_cases c : j < xs.length
  · rw [if_pos c]; simp [List.getD, List.getElem?_append, c]
  · rw [if_neg c]
    by_cases d : j = xs.length
    · subst d; simp [List.getD]
    · simp [List.getD, List.getElem?_eq_none (by simp; omega : (xs ++ [0]).length ≤ j)]
end Go.Proofs.YtakcpoapokacgabDoor
