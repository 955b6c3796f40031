import Derived.Test.YtakcpoapokacgabDoorMN
import Derived.Test.YtakcpoapokacgabDoorMV
import Derived.Test.YtakcpoapokacgabDoorMD
import Derived.Test.YtakcpoapokacgabDoorMC
import Derived.Test.YtakcpoapokacgabDoorMM
import Derived.Test.YtakcpoapokacgabDoorMW
import Derived.RowKit
namespace Go.Proofs.YtakcpoapokacgabDoor
open Go.RowKit

/-- Shl's answer, of numbers -/
def shlN (a : Nat) (n : Int) : List Int × Int := if n < 0 then ([], 1) else if 16384 < len32 a then ([], 2) else if a = 0 then ([], 0) else if 524288 < blen a + n.toNat then ([], 2) else (dig (a * 2 ^ n.toNat), 0)
/-- Shr's answer, of numbers: the list, whether something was cut off, the code -/
def shrN (a : Nat) (n : Int) : List Int × Bool × Int := if n < 0 then ([], false, 1) else if 16384 < len32 a then ([], false, 2) else (dig (a / 2 ^ n.toNat), decide (a % 2 ^ n.toNat ≠ 0), 0)
theorem cast_shl (X s : Nat) : ((X * 2 ^ s % 4294967296 : Nat) : Int) = (X : Int) * 2 ^ s % 4294967296 := by
  rw [Int.natCast_emod, Int.natCast_mul, Int.natCast_pow]; rfl
theorem split32 (s : Nat) (h : s < 32) : (4294967296 : Nat) = 2 ^ s * 2 ^ (32 - s) := by
  rw [← Nat.pow_add, show s + (32 - s) = 32 from by omega]
/-- a word and what is carried into it -/
theorem shl_word (X C s : Nat) (hs : s < 32) (hX : X < 4294967296) (hC : C < 2 ^ s) : X * 2 ^ s % 4294967296 ||| C = X * 2 ^ s % 4294967296 + C ∧ X * 2 ^ s % 4294967296 + C < 4294967296 ∧ X / 2 ^ (32 - s) < 2 ^ s ∧ (X * 2 ^ s % 4294967296 + C) + 4294967296 * (X / 2 ^ (32 - s)) = X * 2 ^ s + C := by
  have e := split32 s hs
  have hp := Nat.two_pow_pos s
  have hp2 := Nat.two_pow_pos (32 - s)
  have e1 : X * 2 ^ s % 4294967296 = (X % 2 ^ (32 - s)) * 2 ^ s := by
    rw [e, Nat.mul_comm (2 ^ s) (2 ^ (32 - s)), Nat.mul_mod_mul_right]
  have e2 : X * 2 ^ s / 4294967296 = X / 2 ^ (32 - s) := by
    rw [e, Nat.mul_comm (2 ^ s) (2 ^ (32 - s)), Nat.mul_div_mul_right _ _ hp]
  have e3 := or_low C (X % 2 ^ (32 - s)) s hC
  have e4 := Nat.mod_add_div (X * 2 ^ s) 4294967296
  have e5 : X / 2 ^ (32 - s) < 2 ^ s := by
    rw [Nat.div_lt_iff_lt_mul hp2, ← e]; exact hX
  refine ⟨by rw [e1, Nat.or_comm, e3, Nat.add_comm], ?_, e5, by rw [← e2]; omega⟩
  rw [e1]
  have m1 : X % 2 ^ (32 - s) < 2 ^ (32 - s) := Nat.mod_lt _ hp2
  have m2 : (X % 2 ^ (32 - s) + 1) * 2 ^ s ≤ 2 ^ (32 - s) * 2 ^ s := Nat.mul_le_mul_right _ (by omega)
  rw [Nat.add_mul, Nat.one_mul, Nat.mul_comm (2 ^ (32 - s)), ← e] at m2
  omega
theorem raise_step (us xs : List Int) (o k C C' Z s X : Nat) (hk : o + k < us.length) (h0 : us.getD (o + k) 0 = 0) (hX : (xs.getD k 0).toNat = X) (hZ : Z + 4294967296 * C' = X * 2 ^ s + C) (h : val us + C * 4294967296 ^ (o + k) = val (xs.take k) * 2 ^ s * 4294967296 ^ o) :
    val (us.set (o + k) (Z : Int)) + C' * 4294967296 ^ (o + (k + 1)) = val (xs.take (k + 1)) * 2 ^ s * 4294967296 ^ o := by
  have h1 := val_set us (o + k) (Z : Int) hk
  rw [h0, Int.toNat_natCast] at h1
  have hg := mul_grow xs (2 ^ s) o k
  rw [hX] at hg
  rw [hg, ← h, ← Nat.add_assoc o k 1, Nat.pow_succ]
  generalize 4294967296 ^ (o + k) = P at h1 h ⊢
  have e := congrArg (· * P) hZ
  simp only [Nat.add_mul] at e
  have e3 : C' * (P * 4294967296) = 4294967296 * C' * P := by
    simp only [Nat.mul_comm, Nat.mul_left_comm]
  simp at h1
  omega
theorem digits_eq (us : List Int) (q : Nat) (h : ∀ j, j < us.length → us.getD j 0 = ((q / 4294967296 ^ j % 4294967296 : Nat) : Int)) : ∀ n, n ≤ us.length → val (us.take n) = q % 4294967296 ^ n := by
  intro n
  induction n with
  | zero => intro _; simp [val, Nat.mod_one]
  | succ n ih =>
    intro hn
    rw [val_take_succ, ih (by omega), h n (by omega), Int.toNat_natCast, Nat.pow_succ, Nat.mod_mul, Nat.mul_comm (4294967296 ^ n)]
/-- a word of a quotient by a power of 2 -/
theorem shr_word (D X Y r s : Nat) (hs : s < 32) (hX : X < 4294967296) (hD : D = X + 4294967296 * (Y + 4294967296 * r)) : D / 2 ^ s % 4294967296 = X / 2 ^ s ||| Y * 2 ^ (32 - s) % 4294967296 := by
  have e := split32 s hs
  have hp := Nat.two_pow_pos s
  have hp2 := Nat.two_pow_pos (32 - s)
  have e1 : D / 2 ^ s = X / 2 ^ s + 2 ^ (32 - s) * (Y + 4294967296 * r) := by
    have : D = X + 2 ^ s * (2 ^ (32 - s) * (Y + 4294967296 * r)) := by rw [hD, ← Nat.mul_assoc, ← e]
    rw [this, Nat.add_mul_div_left _ _ hp]
  have hlt : X / 2 ^ s < 2 ^ (32 - s) := by
    rw [Nat.div_lt_iff_lt_mul hp, Nat.mul_comm, ← e]; exact hX
  have e2 : Y * 2 ^ (32 - s) % 4294967296 = (Y % 2 ^ s) * 2 ^ (32 - s) := by
    rw [e, Nat.mul_mod_mul_right]
  have e3 : X / 2 ^ s + 2 ^ (32 - s) * (Y + 4294967296 * r) = (X / 2 ^ s + (Y % 2 ^ s) * 2 ^ (32 - s)) + 4294967296 * (Y / 2 ^ s + 2 ^ (32 - s) * r) := by
    have d := Nat.mod_add_div Y (2 ^ s)
    have : 2 ^ (32 - s) * (Y + 4294967296 * r) = (Y % 2 ^ s) * 2 ^ (32 - s) + 4294967296 * (Y / 2 ^ s + 2 ^ (32 - s) * r) := by
      rw [Nat.mul_add, Nat.mul_add]
      have a1 : 2 ^ (32 - s) * Y = (Y % 2 ^ s) * 2 ^ (32 - s) + 4294967296 * (Y / 2 ^ s) := by
        have := congrArg (2 ^ (32 - s) * ·) d
        simp only [Nat.mul_add] at this
        rw [← this, Nat.mul_comm (2 ^ (32 - s)) (Y % 2 ^ s), ← Nat.mul_assoc, Nat.mul_comm (2 ^ (32 - s)) (2 ^ s), ← e]
      rw [a1]
      have a2 : 2 ^ (32 - s) * (4294967296 * r) = 4294967296 * (2 ^ (32 - s) * r) := Nat.mul_left_comm _ _ _
      rw [a2]
      omega
    omega
  have hb : X / 2 ^ s + (Y % 2 ^ s) * 2 ^ (32 - s) < 4294967296 := by
    have m1 : Y % 2 ^ s < 2 ^ s := Nat.mod_lt _ hp
    have m2 : (Y % 2 ^ s + 1) * 2 ^ (32 - s) ≤ 2 ^ s * 2 ^ (32 - s) := Nat.mul_le_mul_right _ (by omega)
    rw [Nat.add_mul, Nat.one_mul, ← e] at m2
    omega
  rw [e1, e3, Nat.add_mul_mod_self_left, Nat.mod_eq_of_lt hb, e2, or_low _ _ _ hlt]

theorem val_div (xs : List Int) (h : Wd xs) (o : Nat) (ho : o ≤ xs.length) : val xs / 4294967296 ^ o = val (xs.drop o) ∧ val xs % 4294967296 ^ o = val (xs.take o) := by
  have h1 := val_append (xs.take o) (xs.drop o)
  rw [List.take_append_drop, List.length_take, Nat.min_eq_left ho] at h1
  have h2 := val_take_lt xs h o
  have hp : 0 < 4294967296 ^ o := Nat.pow_pos (by decide)
  constructor
  · rw [h1, Nat.add_mul_div_left _ _ hp, Nat.div_eq_of_lt h2, Nat.zero_add]
  · rw [h1, Nat.add_mul_mod_self_left, Nat.mod_eq_of_lt h2]
theorem Wd.drop {xs : List Int} (h : Wd xs) (o : Nat) : Wd (xs.drop o) := fun j => by
  have := h (o + j)
  simpa [List.getD, List.getElem?_drop] using this
theorem pow_div (a m : Nat) : a / 2 ^ m = a / 4294967296 ^ (m / 32) / 2 ^ (m % 32) := by
  rw [Nat.div_div_eq_div_mul, pow32, ← Nat.pow_add, show 32 * (m / 32) + m % 32 = m from by omega]
/-- word k of a list's number by 2^s -/
theorem low_word (ys : List Int) (h : Wd ys) (k s X Y : Nat) (hs : s < 32) (hk : k + 1 < ys.length) (hX : ys.getD k 0 = (X : Int)) (hY : ys.getD (k + 1) 0 = (Y : Int)) : val ys / 2 ^ s / 4294967296 ^ k % 4294967296 = X / 2 ^ s ||| Y * 2 ^ (32 - s) % 4294967296 := by
  have hX32 := h k
  rw [hX] at hX32
  have e1 := (val_div ys h k (by omega)).1
  have e2 := val_drop ys k (by omega)
  have e3 := val_drop ys (k + 1) hk
  rw [hX, Int.toNat_natCast] at e2
  rw [hY, Int.toNat_natCast] at e3
  rw [Nat.div_div_eq_div_mul, Nat.mul_comm, ← Nat.div_div_eq_div_mul, e1]
  exact shr_word _ X Y (val (ys.drop (k + 1 + 1))) s hs (by omega) (by rw [e2, e3])
theorem low_last (ys : List Int) (h : Wd ys) (k s X : Nat) (hk : k + 1 = ys.length) (hX : ys.getD k 0 = (X : Int)) : val ys / 2 ^ s / 4294967296 ^ k % 4294967296 = X / 2 ^ s := by
  have hX32 := h k
  rw [hX] at hX32
  have e1 := (val_div ys h k (by omega)).1
  have e2 := val_drop ys k (by omega)
  have e3 : ys.drop (k + 1) = [] := List.drop_of_length_le (by omega)
  rw [hX, Int.toNat_natCast, e3] at e2
  rw [Nat.div_div_eq_div_mul, Nat.mul_comm, ← Nat.div_div_eq_div_mul, e1, e2]
  simp only [val, Nat.mul_zero, Nat.add_zero]
  apply Nat.mod_eq_of_lt
  exact Nat.lt_of_le_of_lt (Nat.div_le_self _ _) (by omega)
theorem low_all (us ys : List Int) (h : Wd ys) (s : Nat) (hl : us.length = ys.length) (hd : ∀ j, j < us.length → us.getD j 0 = ((val ys / 2 ^ s / 4294967296 ^ j % 4294967296 : Nat) : Int)) : val us = val ys / 2 ^ s := by
  have := digits_eq us (val ys / 2 ^ s) hd us.length (Nat.le_refl _)
  rw [List.take_length] at this
  rw [this]
  apply Nat.mod_eq_of_lt
  have h1 := val_lt ys h
  rw [hl]
  exact Nat.lt_of_le_of_lt (Nat.div_le_self _ _) h1

theorem mod_ctz (a m : Nat) : a % 2 ^ m ≠ 0 ↔ a ≠ 0 ∧ ctz a < m := by
  by_cases h0 : a = 0
  · subst h0; simp
  · obtain ⟨o, k, ho, rfl⟩ := odd_part a h0
    rw [ctz_eq k o ho]
    constructor
    · intro h
      refine ⟨h0, ?_⟩
      by_cases c : k < m
      · exact c
      · exfalso
        apply h
        rw [show k = m + (k - m) from by omega, Nat.pow_add, ← Nat.mul_assoc, Nat.mul_comm o, Nat.mul_assoc]
        exact Nat.mul_mod_right _ _
    · rintro ⟨_, c⟩ h
      rw [show m = (m - k - 1) + 1 + k from by omega, Nat.pow_add, Nat.mul_mod_mul_right, Nat.mul_eq_zero] at h
      rcases h with h | h
      · rw [Nat.pow_succ] at h
        have h2 : o % 2 = 0 := by
          have := Nat.mod_mul_left_mod o (2 ^ (m - k - 1)) 2
          rw [h] at this
          simpa using this.symm
        omega
      · have := Nat.two_pow_pos k; omega
theorem lost_mod (xs : List Int) (h : Wd xs) (o s X : Nat) (hs : s < 32) (ho : o < xs.length) (hX : xs.getD o 0 = (X : Int)) : val xs % (4294967296 ^ o * 2 ^ s) ≠ 0 ↔ X % 2 ^ s ≠ 0 ∨ val (xs.take o) ≠ 0 := by
  obtain ⟨e1, e2⟩ := val_div xs h o (by omega)
  have e3 := val_drop xs o ho
  rw [hX, Int.toNat_natCast] at e3
  have e := split32 s hs
  have hp : 0 < 4294967296 ^ o := Nat.pow_pos (by decide)
  have e4 : val (xs.drop o) % 2 ^ s = X % 2 ^ s := by
    have : (4294967296 : Nat) * val (xs.drop (o + 1)) = 2 ^ s * (2 ^ (32 - s) * val (xs.drop (o + 1))) := by rw [← Nat.mul_assoc, ← e]
    rw [e3, this, Nat.add_mul_mod_self_left]
  rw [Nat.mod_mul, e1, e2, e4]
  constructor
  · intro h1
    by_cases c : X % 2 ^ s = 0
    · right; rw [c] at h1; simpa using h1
    · exact Or.inl c
  · rintro (h1 | h1) h2
    · have : 0 < 4294967296 ^ o * (X % 2 ^ s) := Nat.mul_pos hp (by omega)
      omega
    · omega
theorem lost_word (X s : Nat) (hs : s < 32) : X * 2 ^ (31 - s) % 4294967296 * 2 % 4294967296 = X % 2 ^ s * 2 ^ (32 - s) := by
  have e := split32 s hs
  rw [Nat.mod_mul_mod, Nat.mul_assoc, ← Nat.pow_succ, show (31 - s).succ = 32 - s from by omega, e, Nat.mul_mod_mul_right]
theorem right_word (ys : List Int) (h : Wd ys) (k s X Y : Nat) (hs : s < 32) (hk : k < ys.length) (hX : ys.getD k 0 = (X : Int)) (hY : ys.getD (k + 1) 0 = (Y : Int)) : val ys / 2 ^ s / 4294967296 ^ k % 4294967296 = (X + Y * 4294967296) / 2 ^ s % 4294967296 := by
  have hX32 := h k
  rw [hX] at hX32
  by_cases c : k + 1 < ys.length
  · rw [low_word ys h k s X Y hs c hX hY]
    exact (shr_word (X + Y * 4294967296) X Y 0 s hs (by omega) (by omega)).symm
  · have hY0 : Y = 0 := by
      have : ys.getD (k + 1) 0 = 0 := by simp [List.getD, List.getElem?_eq_none (by omega : ys.length ≤ k + 1)]
      omega
    rw [low_last ys h k s X (by omega) hX, hY0, Nat.zero_mul, Nat.add_zero]
    exact (Nat.mod_eq_of_lt (Nat.lt_of_le_of_lt (Nat.div_le_self _ _) (by omega))).symm
end Go.Proofs.YtakcpoapokacgabDoor
