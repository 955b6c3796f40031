import Derived.Test.YtakcpoapokacgabDoorMN
import Derived.Test.YtakcpoapokacgabDoorMV
import Derived.Test.YtakcpoapokacgabDoorMD
import Derived.Test.YtakcpoapokacgabDoorMC
import Derived.Test.YtakcpoapokacgabDoorMM
import Derived.RowKit
namespace Go.Proofs.YtakcpoapokacgabDoor
open Go.RowKit

theorem or_low (v x k : Nat) (hv : v < 2 ^ k) : v ||| x * 2 ^ k = v + x * 2 ^ k := by
  have := Nat.shiftLeft_add_eq_or_of_lt hv x
  rw [Nat.shiftLeft_eq] at this
  rw [Nat.or_comm, ← this, Nat.add_comm]
theorem val_drop (xs : List Int) (k : Nat) (h : k < xs.length) : val (xs.drop k) = (xs.getD k 0).toNat + 4294967296 * val (xs.drop (k + 1)) := by
  rw [List.drop_eq_getElem_cons h]
  simp [val, List.getD, h]
theorem val_two (xs : List Int) (h : Wd xs) (hl : xs.length ≤ 2) (k : Nat) : val (xs.take k) < 18446744073709551616 := by
  have h1 := val_lt (xs.take k) (h.take k)
  have h2 : (xs.take k).length ≤ 2 := by rw [List.length_take]; omega
  exact Nat.lt_of_lt_of_le h1 (Nat.le_trans (Nat.pow_le_pow_right (by omega) h2) (by decide))
/-- Word's answer, of numbers -/
def wordN (a : Nat) : Nat × Bool := if 2 < len32 a then (0, false) else (a, true)

/-- how many bits 0 a number has at its bottom; of 0: 0 -/
def ctz (n : Nat) : Nat := if h : n = 0 then 0 else if n % 2 = 1 then 0 else ctz (n / 2) + 1
termination_by n
decreasing_by omega
theorem ctz_zero : ctz 0 = 0 := by rw [ctz]; simp
theorem ctz_eq : ∀ (k o : Nat), o % 2 = 1 → ctz (o * 2 ^ k) = k
  | 0, o, h => by
    rw [Nat.pow_zero, Nat.mul_one, ctz]
    by_cases c : o = 0
    · subst c; simp at h
    · rw [dif_neg c, if_pos h]
  | k + 1, o, h => by
    have hp := Nat.two_pow_pos k
    have hne : o * 2 ^ (k + 1) ≠ 0 := by
      have : 0 < o * 2 ^ (k + 1) := Nat.mul_pos (by omega) (Nat.two_pow_pos _)
      omega
    have e1 : o * 2 ^ (k + 1) = 2 * (o * 2 ^ k) := by rw [Nat.pow_succ, ← Nat.mul_assoc, Nat.mul_comm]
    rw [ctz, dif_neg hne, e1, if_neg (by omega), Nat.mul_div_cancel_left _ (by omega), ctz_eq k o h]
theorem odd_part : ∀ (x : Nat), x ≠ 0 → ∃ o k, o % 2 = 1 ∧ x = o * 2 ^ k := by
  intro x
  induction x using Nat.strongRecOn with
  | ind x ih =>
    intro h
    by_cases c : x % 2 = 1
    · exact ⟨x, 0, c, by simp⟩
    · obtain ⟨o, k, h1, h2⟩ := ih (x / 2) (by omega) (by omega)
      refine ⟨o, k + 1, h1, ?_⟩
      rw [Nat.pow_succ, ← Nat.mul_assoc, ← h2]
      omega
theorem val_lowzero (xs : List Int) (i : Nat) (h : ∀ j, j < i → xs.getD j 0 = 0) (hi : i < xs.length) : ∃ r, val xs = ((xs.getD i 0).toNat + 4294967296 * r) * 4294967296 ^ i := by
  have h0 : ∀ n, n ≤ i → val (xs.take n) = 0 := by
    intro n
    induction n with
    | zero => intro _; rfl
    | succ n ih => intro hn; rw [val_take_succ, ih (by omega), h n (by omega)]; simp
  have h1 := val_append (xs.take i) (xs.drop i)
  rw [List.take_append_drop, h0 i (Nat.le_refl _), List.length_take, Nat.min_eq_left (by omega), List.drop_eq_getElem_cons hi] at h1
  refine ⟨val (xs.drop (i + 1)), ?_⟩
  rw [h1]
  simp [val, List.getD, hi]
  rw [Nat.mul_comm]
theorem ctz_val (xs : List Int) (i o k : Nat) (h : ∀ j, j < i → xs.getD j 0 = 0) (hi : i < xs.length) (ho : o % 2 = 1) (hk : k < 32) (hx : (xs.getD i 0).toNat = o * 2 ^ k) : ctz (val xs) = 32 * i + k := by
  obtain ⟨r, hr⟩ := val_lowzero xs i h hi
  have e : (4294967296 : Nat) = 2 ^ (31 - k) * 2 * 2 ^ k := by
    rw [Nat.mul_assoc, ← Nat.pow_succ', ← Nat.pow_add, show 31 - k + (k + 1) = 32 from by omega]
  have e2 : val xs = (o + 2 * (2 ^ (31 - k) * r)) * 2 ^ (32 * i + k) := by
    rw [hr, hx, Nat.pow_add, ← pow32]
    have e3 : o * 2 ^ k + 4294967296 * r = (o + 2 * (2 ^ (31 - k) * r)) * 2 ^ k := by
      rw [Nat.add_mul]
      congr 1
      have : 4294967296 * r = 2 ^ (31 - k) * 2 * 2 ^ k * r := by rw [← e]
      rw [this]
      simp only [Nat.mul_comm, Nat.mul_left_comm]
    rw [e3]
    simp only [Nat.mul_assoc, Nat.mul_comm, Nat.mul_left_comm]
  rw [e2]
  exact ctz_eq _ _ (by omega)
end Go.Proofs.YtakcpoapokacgabDoor
