import Derived.Test.YtakcpoapokacgabDoorMN
import Derived.Test.YtakcpoapokacgabDoorMV
import Derived.RowKit
namespace Go.Proofs.YtakcpoapokacgabDoor
open Go.RowKit

/-- the normal list of a number -/
def dig (n : Nat) : List Int := if h : n = 0 then [] else ((n % 4294967296 : Nat) : Int) :: dig (n / 4294967296)
termination_by n
decreasing_by omega
theorem dig_zero : dig 0 = [] := by rw [dig]; simp
theorem dig_pos (n : Nat) (h : n ≠ 0) : dig n = ((n % 4294967296 : Nat) : Int) :: dig (n / 4294967296) := by rw [dig]; simp [h]
theorem val_dig (n : Nat) : val (dig n) = n := by
  induction n using Nat.strongRecOn with
  | ind n ih =>
    by_cases h : n = 0
    · subst h; rw [dig_zero]; rfl
    · rw [dig_pos n h]
      simp only [val, Int.toNat_natCast, ih (n / 4294967296) (by omega)]
      omega
theorem Wd_dig (n : Nat) : Wd (dig n) := by
  induction n using Nat.strongRecOn with
  | ind n ih =>
    by_cases h : n = 0
    · subst h; rw [dig_zero]; exact Wd.nil
    · rw [dig_pos n h]; exact Wd.mk (by omega) (ih _ (by omega))
theorem last_dig (n : Nat) : dig n = [] ∨ (dig n).getD ((dig n).length - 1) 0 ≠ 0 := by
  induction n using Nat.strongRecOn with
  | ind n ih =>
    by_cases h : n = 0
    · subst h; exact Or.inl dig_zero
    · right
      rw [dig_pos n h]
      by_cases c : n / 4294967296 = 0
      · rw [c, dig_zero]; simp; omega
      · have h2 := ih (n / 4294967296) (by omega)
        have h3 : dig (n / 4294967296) ≠ [] := by rw [dig_pos _ c]; simp
        have h4 := h2.resolve_left h3
        have hl : 0 < (dig (n / 4294967296)).length := List.length_pos_iff.2 h3
        rw [List.length_cons, show (dig (n / 4294967296)).length + 1 - 1 = ((dig (n / 4294967296)).length - 1) + 1 from by omega, List.getD_cons_succ]
        exact h4
theorem nz_dig (L : List Int) (h : Wd L) : nz L = dig (val L) :=
  val_uniq _ _ (h.take _) (Wd_dig _) (nz_last L) (last_dig _) (by rw [val_nz, val_dig])
def len32 (n : Nat) : Nat := (dig n).length
theorem tl_len (L : List Int) (h : Wd L) : tl L = len32 (val L) := by
  rw [← nz_length, nz_dig L h]; rfl
theorem nz_dig_self (n : Nat) : nz (dig n) = dig n := by rw [nz_dig _ (Wd_dig n), val_dig]
theorem tl_dig (n : Nat) : tl (dig n) = len32 n := by rw [tl_len _ (Wd_dig n), val_dig]
/-- Add's answer, of numbers -/
def addN (a b : Nat) : List Int × Int := if 16384 < len32 a ∨ 16384 < len32 b then ([], 2) else if 16384 < len32 (a + b) then ([], 2) else (dig (a + b), 0)
end Go.Proofs.YtakcpoapokacgabDoor
