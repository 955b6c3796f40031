import Derived.RowKit
namespace Go.Proofs.YtakcpoapokacgabDoor
open Go.RowKit

/-- how many words a list has without the noughts at its end -/
def tlAux (xs : List Int) : Nat → Nat
  | 0 => 0
  | n + 1 => if xs.getD n 0 = 0 then tlAux xs n else n + 1
def tl (xs : List Int) : Nat := tlAux xs xs.length
theorem tlAux_zero (xs : List Int) (n : Nat) (h : xs.getD n 0 = 0) : tlAux xs (n + 1) = tlAux xs n := by show (if xs.getD n 0 = 0 then tlAux xs n else n + 1) = _; rw [if_pos h]
theorem tlAux_nz (xs : List Int) (n : Nat) (h : xs.getD n 0 ≠ 0) : tlAux xs (n + 1) = n + 1 := by show (if xs.getD n 0 = 0 then tlAux xs n else n + 1) = _; rw [if_neg h]
theorem tlAux_le (xs : List Int) : ∀ n, tlAux xs n ≤ n
  | 0 => Nat.le_refl _
  | n + 1 => by
    show (if xs.getD n 0 = 0 then tlAux xs n else n + 1) ≤ n + 1
    split
    · exact Nat.le_succ_of_le (tlAux_le xs n)
    · exact Nat.le_refl _
theorem tl_le (xs : List Int) : tl xs ≤ xs.length := tlAux_le xs _
end Go.Proofs.YtakcpoapokacgabDoor
