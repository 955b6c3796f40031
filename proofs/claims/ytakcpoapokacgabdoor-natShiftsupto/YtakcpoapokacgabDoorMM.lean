import Derived.Test.YtakcpoapokacgabDoorMN
import Derived.Test.YtakcpoapokacgabDoorMV
import Derived.Test.YtakcpoapokacgabDoorMD
import Derived.Test.YtakcpoapokacgabDoorMC
import Derived.RowKit
namespace Go.Proofs.YtakcpoapokacgabDoor
open Go.RowKit

/-- how many bits a number has -/
def blen (n : Nat) : Nat := if n = 0 then 0 else n.log2 + 1
theorem blen_zero : blen 0 = 0 := by simp [blen]
theorem blen_spec (n : Nat) (h : n ≠ 0) : 2 ^ (blen n - 1) ≤ n ∧ n < 2 ^ blen n ∧ 1 ≤ blen n := by
  have := (Nat.log2_eq_iff h (k := n.log2)).1 rfl
  unfold blen
  rw [if_neg h]
  simp only [Nat.add_sub_cancel]
  exact ⟨this.1, this.2, by omega⟩
theorem blen_uniq (n k : Nat) (h1 : 2 ^ k ≤ n) (h2 : n < 2 ^ (k + 1)) : blen n = k + 1 := by
  have hp := Nat.two_pow_pos k
  have h : n ≠ 0 := by omega
  have := (Nat.log2_eq_iff h (k := k)).2 ⟨h1, h2⟩
  unfold blen
  rw [if_neg h, this]
theorem blen_half (n : Nat) (h : n ≠ 0) : blen n = blen (n / 2) + 1 := by
  by_cases c : n = 1
  · subst c; simp [blen_zero]; exact blen_uniq 1 0 (by simp) (by simp)
  · have h2 : n / 2 ≠ 0 := by omega
    obtain ⟨a, b, d⟩ := blen_spec (n / 2) h2
    obtain ⟨k, hk⟩ : ∃ k, blen (n / 2) = k + 1 := ⟨blen (n / 2) - 1, by omega⟩
    rw [hk] at a b ⊢
    simp only [Nat.add_sub_cancel] at a
    apply blen_uniq
    · rw [Nat.pow_succ]; omega
    · rw [Nat.pow_succ]; omega
theorem blen_lt (n k : Nat) (h : n < 2 ^ k) : blen n ≤ k := by
  by_cases c : n = 0
  · subst c; rw [blen_zero]; omega
  · obtain ⟨a, _, d⟩ := blen_spec n c
    have := Nat.lt_of_le_of_lt a h
    have := (Nat.pow_lt_pow_iff_right (by omega : 1 < 2)).1 this
    omega
theorem pow32 (k : Nat) : 4294967296 ^ k = 2 ^ (32 * k) := by
  rw [Nat.pow_mul]
theorem blen_val (xs : List Int) (h : Wd xs) (t : Nat) (ht : tl xs = t + 1) : blen (val xs) = 32 * t + blen (xs.getD t 0).toNat := by
  have hX : xs.getD t 0 ≠ 0 := by
    rcases (tl_spec xs xs.length).2 with e | e
    · exfalso; have : tl xs = 0 := e; omega
    · have e' : xs.getD (tl xs - 1) 0 ≠ 0 := e
      rw [ht, Nat.add_sub_cancel] at e'
      exact e'
  have hw := h t
  have h1 := val_take_lt xs h t
  have h2 := val_tl xs
  rw [ht, val_take_succ] at h2
  obtain ⟨X, hXX⟩ : ∃ X, X = (xs.getD t 0).toNat := ⟨_, rfl⟩
  rw [← hXX] at h2 ⊢
  have hX0 : X ≠ 0 := by omega
  rw [pow32] at h1 h2
  obtain ⟨P, hP⟩ : ∃ P, P = 2 ^ (32 * t) := ⟨_, rfl⟩
  obtain ⟨a, b, d⟩ := blen_spec X hX0
  obtain ⟨k, hk⟩ : ∃ k, blen X = k + 1 := ⟨blen X - 1, by omega⟩
  rw [hk] at a b ⊢
  simp only [Nat.add_sub_cancel] at a
  have e1 : 2 ^ (32 * t + k) = P * 2 ^ k := by rw [Nat.pow_add, hP]
  have e2 : 2 ^ (32 * t + k + 1) = P * (2 ^ k * 2) := by rw [show 32 * t + k + 1 = 32 * t + (k + 1) from by omega, Nat.pow_add, hP, Nat.pow_succ]
  rw [← hP] at h1 h2
  rw [show 32 * t + (k + 1) = (32 * t + k) + 1 from by omega]
  have m1 : P * 2 ^ k ≤ P * X := Nat.mul_le_mul_left P a
  have m2 : P * (X + 1) ≤ P * (2 ^ k * 2) := Nat.mul_le_mul_left P (by rw [Nat.pow_succ] at b; omega)
  rw [Nat.mul_add, Nat.mul_one] at m2
  rw [Nat.mul_comm X P] at h2
  exact blen_uniq _ _ (by rw [e1]; omega) (by rw [e2]; omega)
theorem len32_gt (n k : Nat) (h : 4294967296 ^ k ≤ n) : k < len32 n := by
  have h1 := val_lt (dig n) (Wd_dig n)
  rw [val_dig] at h1
  by_cases c : k < len32 n
  · exact c
  · exfalso
    have h2 : 4294967296 ^ (dig n).length ≤ 4294967296 ^ k := Nat.pow_le_pow_right (by omega) (by have : len32 n = (dig n).length := rfl; omega)
    omega
theorem len32_lt (n k : Nat) (h : k < len32 n) : 4294967296 ^ k ≤ n := by
  have := val_ge_tl (dig n) (Wd_dig n) k (by rw [tl_dig]; exact h)
  rw [val_dig] at this
  exact this
/-- Mul's answer, of numbers -/
def mulN (a b : Nat) : List Int × Int := if 16384 < len32 a ∨ 16384 < len32 b then ([], 2) else if 16384 < len32 (a * b) then ([], 2) else (dig (a * b), 0)
theorem mul_words (a b K : Nat) (ha : len32 a ≤ K) (hb : len32 b ≤ K) (h : K < len32 a + len32 b - 1) : K < len32 (a * b) := by
  have h1 := len32_lt a (len32 a - 1) (by omega)
  have h2 := len32_lt b (len32 b - 1) (by omega)
  have h3 := Nat.mul_le_mul h1 h2
  rw [← Nat.pow_add] at h3
  have := len32_gt _ _ h3
  omega
theorem blen_len (a K : Nat) (h : len32 a ≤ K) : blen a ≤ 32 * K := by
  apply blen_lt
  rw [← pow32]
  by_cases c : a < 4294967296 ^ K
  · exact c
  · have := len32_gt a K (by omega); omega
theorem mul_bits (a b K : Nat) (ha : len32 a ≤ K) (hb : len32 b ≤ K) (h : 32 * K + 1 < blen a + blen b) : K < len32 (a * b) := by
  have b1 := blen_len a K ha
  have b2 := blen_len b K hb
  have na : a ≠ 0 := fun e => by subst e; rw [blen_zero] at h; omega
  have nb : b ≠ 0 := fun e => by subst e; rw [blen_zero] at h; omega
  have h1 := (blen_spec a na).1
  have h2 := (blen_spec b nb).1
  have h3 := Nat.mul_le_mul h1 h2
  rw [← Nat.pow_add] at h3
  apply len32_gt
  rw [pow32]
  exact Nat.le_trans (Nat.pow_le_pow_right (by omega) (by omega)) h3
theorem len32_up (a K : Nat) (h : len32 a ≤ K) : a < 4294967296 ^ K := by
  by_cases c : a < 4294967296 ^ K
  · exact c
  · have := len32_gt a K (by omega); omega
theorem mul_len (a b K : Nat) (ha : len32 a ≤ K) (hb : len32 b ≤ K) : len32 (a * b) ≤ K + K := by
  by_cases c : len32 (a * b) ≤ K + K
  · exact c
  · exfalso
    have g1 := len32_lt (a * b) (K + K) (by omega)
    have g4 := Nat.mul_lt_mul'' (len32_up a K ha) (len32_up b K hb)
    rw [← Nat.pow_add] at g4
    omega
theorem mul_grow (ys : List Int) (X i k : Nat) : val (ys.take (k + 1)) * X * 4294967296 ^ i = val (ys.take k) * X * 4294967296 ^ i + (ys.getD k 0).toNat * X * 4294967296 ^ (i + k) := by
  rw [val_take_succ, Nat.add_mul, Nat.add_mul, Nat.pow_add]
  congr 1
  generalize 4294967296 ^ i = P
  generalize 4294967296 ^ k = Q
  simp only [Nat.mul_assoc, Nat.mul_comm, Nat.mul_left_comm]
theorem mul_word (A Y C Z : Nat) (hA : A < 4294967296) (hY : Y < 4294967296) (hC : C < 4294967296) (hZ : Z < 4294967296) : C + (A * Y + Z) < 18446744073709551616 ∧ A * Y ≤ 18446744065119617025 := by
  have : A * Y ≤ 4294967295 * 4294967295 := Nat.mul_le_mul (by omega) (by omega)
  omega
theorem row_prod (xs : List Int) (i V : Nat) : val (xs.take i) * V + V * (xs.getD i 0).toNat * 4294967296 ^ i = val (xs.take (i + 1)) * V := by
  rw [val_take_succ, Nat.add_mul, Nat.mul_assoc V, Nat.mul_comm V]
end Go.Proofs.YtakcpoapokacgabDoor
