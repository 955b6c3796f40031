import Derived.Test.YtakcpoapokacgaaDoorMN
import Derived.Test.YtakcpoapokacgaaDoorMV
import Derived.Test.YtakcpoapokacgaaDoorMD
import Derived.Test.YtakcpoapokacgaaDoorMC
import Derived.RowKit
namespace Go.Proofs.YtakcpoapokacgaaDoor
open Go.RowKit

theorem or_low (v x k : Nat) (hv : v < 2 ^ k) : v ||| x * 2 ^ k = v + x * 2 ^ k := by
  have := Nat.shiftLeft_add_eq_or_of_lt hv x
  rw [Nat.shiftLeft_eq] at this
  rw [Nat.or_comm, ← this, Nat.add_comm]
theorem val_drop (xs : List Int) (k : Nat) (h : k < xs.length) : val (xs.drop k) = (xs.getD k 0).toNat + 4294967296 * val (xs.drop (k + 1)) := by
  rw [List.drop_eq_getElem_cons h]
  simp [val, List.getD, h]
theorem val_two (xs : List Int) (h : Wd xs) (hl : xs.length ≤ 2) (k : Nat) : val (xs.take k) < 18446744073709551616 := by
  have h1 := val_lt (xs.take k) (h.take k)
  have h2 : (xs.take k).length ≤ 2 := by rw [List.length_take]; omega
  exact Nat.lt_of_lt_of_le h1 (Nat.le_trans (Nat.pow_le_pow_right (by omega) h2) (by decide))
/-- Word's answer, of numbers -/
def wordN (a : Nat) : Nat × Bool := if 2 < len32 a then (0, false) else (a, true)
end Go.Proofs.YtakcpoapokacgaaDoor
