import Derived.Test.YtakcpoapokacgabDoorMN
import Derived.Test.YtakcpoapokacgabDoorMV
import Derived.RowKit
import Derived.Laws.Bits64b
namespace Go.Proofs.YtakcpoapokacgabDoor
open Go.RowKit

theorem and32 (S : Nat) (h : S < 18446744073709551616) : bits BinOp.and IntKind.u64 (S : Int) 4294967295 = ((S % 4294967296 : Nat) : Int) := by
  have := bits_and_u64_nat S 4294967295 h (by decide)
  have e : S &&& 4294967295 = S % 4294967296 := Nat.and_two_pow_sub_one_eq_mod S 32
  rw [e] at this
  exact this
/-- one word of a sum -/
theorem plus_step (L xs ys : List Int) (k C S : Nat) (hl : L.length = k) (hS : S = C + (xs.getD k 0).toNat + (ys.getD k 0).toNat) (h : val L + C * 4294967296 ^ k = val (xs.take k) + val (ys.take k)) :
    val (L ++ [((S % 4294967296 : Nat) : Int)]) + S / 4294967296 * 4294967296 ^ (k + 1) = val (xs.take (k + 1)) + val (ys.take (k + 1)) := by
  rw [val_append, val_take_succ, val_take_succ, hl]
  simp only [val, Int.toNat_natCast, Nat.mul_zero, Nat.add_zero]
  have e : S % 4294967296 + 4294967296 * (S / 4294967296) = S := Nat.mod_add_div _ _
  obtain ⟨P, hP⟩ : ∃ P, P = 4294967296 ^ k := ⟨_, rfl⟩
  rw [Nat.pow_succ, ← hP]
  rw [← hP] at h
  have e2 : P * (S % 4294967296) + S / 4294967296 * (P * 4294967296) = P * S := by
    have : S / 4294967296 * (P * 4294967296) = P * (4294967296 * (S / 4294967296)) := by
      rw [Nat.mul_comm, Nat.mul_assoc]
    rw [this, ← Nat.mul_add, e]
  have e3 : P * S = C * P + (xs.getD k 0).toNat * P + (ys.getD k 0).toNat * P := by
    rw [hS, Nat.mul_comm, Nat.add_mul, Nat.add_mul]
  omega
theorem getD_out (xs : List Int) (k : Nat) (h : ¬ k < xs.length) : xs.getD k 0 = 0 := by
  simp [List.getD, List.getElem?_eq_none (by omega : xs.length ≤ k)]
theorem Wd.one {x : Int} (h : 0 ≤ x ∧ x < 4294967296) : Wd [x] := Wd.mk h Wd.nil
end Go.Proofs.YtakcpoapokacgabDoor
