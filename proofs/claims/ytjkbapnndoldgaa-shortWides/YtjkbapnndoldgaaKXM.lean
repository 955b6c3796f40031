import Derived.Laws.Bits64b
import Derived.RowKit
namespace Go.Proofs.Ytjkbapnndoldgaa
open Go.RowKit

def val : List Int → Nat
  | [] => 0
  | x :: xs => x.toNat + 4294967296 * val xs
def Wd (xs : List Int) : Prop := ∀ j, 0 ≤ xs.getD j 0 ∧ xs.getD j 0 < 4294967296
theorem Wd.cons {x : Int} {xs : List Int} (h : Wd (x :: xs)) : (0 ≤ x ∧ x < 4294967296) ∧ Wd xs := by
  refine ⟨by simpa using h 0, fun j => ?_⟩
  have := h (j + 1)
  simpa using this
theorem Wd.mk {x : Int} {xs : List Int} (h0 : 0 ≤ x ∧ x < 4294967296) (h : Wd xs) : Wd (x :: xs) := by
  intro j
  cases j with
  | zero => simpa using h0
  | succ j => simpa using h j
theorem Wd.nil : Wd [] := fun j => by simp
theorem Wd.take {xs : List Int} (h : Wd xs) (k : Nat) : Wd (xs.take k) := by
  intro j
  by_cases c : j < k
  · have := h j; simpa [List.getD, List.getElem?_take, c] using this
  · simp [List.getD, List.getElem?_take, c]
def cmpz (x y : Int) : Int := if x < y then -1 else if y < x then 1 else 0

def blen (n : Nat) : Nat := if n = 0 then 0 else n.log2 + 1
theorem blen_zero : blen 0 = 0 := by simp [blen]
theorem blen_spec (n : Nat) (h : n ≠ 0) : 2 ^ (blen n - 1) ≤ n ∧ n < 2 ^ blen n ∧ 1 ≤ blen n := by
  have := (Nat.log2_eq_iff h (k := n.log2)).1 rfl
  unfold blen
  rw [if_neg h]
  simp only [Nat.add_sub_cancel]
  exact ⟨this.1, this.2, by omega⟩
theorem blen_uniq (n k : Nat) (h1 : 2 ^ k ≤ n) (h2 : n < 2 ^ (k + 1)) : blen n = k + 1 := by
  have hp := Nat.two_pow_pos k
  have h : n ≠ 0 := by omega
  have := (Nat.log2_eq_iff h (k := k)).2 ⟨h1, h2⟩
  unfold blen
  rw [if_neg h, this]
theorem blen_lt (n k : Nat) (h : n < 2 ^ k) : blen n ≤ k := by
  by_cases c : n = 0
  · subst c; rw [blen_zero]; omega
  · obtain ⟨a, _, d⟩ := blen_spec n c
    have := Nat.lt_of_le_of_lt a h
    have := (Nat.pow_lt_pow_iff_right (by omega : 1 < 2)).1 this
    omega

theorem or_low (v x k : Nat) (hv : v < 2 ^ k) : v ||| x * 2 ^ k = v + x * 2 ^ k := by
  have := Nat.shiftLeft_add_eq_or_of_lt hv x
  rw [Nat.shiftLeft_eq] at this
  rw [Nat.or_comm, ← this, Nat.add_comm]
theorem Wd.one {x : Int} (h : 0 ≤ x ∧ x < 4294967296) : Wd [x] := Wd.mk h Wd.nil
theorem Wd.drop {xs : List Int} (h : Wd xs) (o : Nat) : Wd (xs.drop o) := fun j => by
  have := h (o + j)
  simpa [List.getD, List.getElem?_drop] using this
def IsRt (a s : Nat) : Prop := s * s ≤ a ∧ a < (s + 1) * (s + 1)
theorem IsRt.uniq {a s t : Nat} (h : IsRt a s) (k : IsRt a t) : s = t := by
  obtain ⟨h1, h2⟩ := h
  obtain ⟨k1, k2⟩ := k
  by_cases c : s < t
  · have := Nat.mul_le_mul (show s + 1 ≤ t from c) (show s + 1 ≤ t from c)
    omega
  · by_cases d : t < s
    · have := Nat.mul_le_mul (show t + 1 ≤ s from d) (show t + 1 ≤ s from d)
      omega
    · omega
def rtN (a : Nat) : Nat := if h : a = 0 then 0 else if (2 * rtN (a / 4) + 1) * (2 * rtN (a / 4) + 1) ≤ a then 2 * rtN (a / 4) + 1 else 2 * rtN (a / 4)
  termination_by a
  decreasing_by all_goals omega
theorem rtN_is (a : Nat) : IsRt a (rtN a) := by
  induction a using Nat.strongRecOn with
  | ind a ih =>
    by_cases h : a = 0
    · subst h
      rw [rtN]
      simp [IsRt]
    · obtain ⟨h1, h2⟩ := ih (a / 4) (by omega)
      rw [rtN, dif_neg h]
      obtain ⟨t, ht⟩ : ∃ t, t = rtN (a / 4) := ⟨_, rfl⟩
      rw [← ht] at h1 h2 ⊢
      have e1 : 2 * t * (2 * t) = 4 * (t * t) := by rw [Nat.mul_mul_mul_comm]
      have e2 : (t + 1) * (t + 1) = t * t + 2 * t + 1 := by rw [Nat.add_mul, Nat.mul_add, Nat.one_mul]; omega
      have e3 : (2 * t + 1) * (2 * t + 1) = 4 * (t * t) + 4 * t + 1 := by rw [Nat.add_mul, Nat.mul_add, Nat.one_mul, e1]; omega
      have e4 : (2 * t + 1 + 1) * (2 * t + 1 + 1) = 4 * (t * t) + 8 * t + 4 := by
        rw [show 2 * t + 1 + 1 = 2 * (t + 1) from by omega, Nat.mul_mul_mul_comm, e2]; omega
      by_cases c : (2 * t + 1) * (2 * t + 1) ≤ a
      · rw [if_pos c]
        refine ⟨c, ?_⟩
        rw [e4]
        omega
      · rw [if_neg c]
        refine ⟨?_, by omega⟩
        rw [e1]
        omega
theorem IsRt.eq {a s : Nat} (h : IsRt a s) : s = rtN a := h.uniq (rtN_is a)
def RI (v r e : Nat) : Prop := (∃ x, r = x * 2 ^ e) ∧ r + 2 ^ e ≤ 4294967296 ∧ r * r ≤ v ∧ v < (r + 2 ^ e) * (r + 2 ^ e)
theorem RI.up {v r e : Nat} (h : RI v r (e + 1)) (hle : (r + 2 ^ e) * (r + 2 ^ e) ≤ v) : RI v (r + 2 ^ e) e := by
  obtain ⟨⟨x, hx⟩, h2, h3, h4⟩ := h
  have e1 : r + 2 ^ e + 2 ^ e = r + 2 ^ (e + 1) := by rw [Nat.pow_succ]; omega
  exact ⟨⟨2 * x + 1, by rw [hx, Nat.pow_succ, Nat.add_mul, Nat.one_mul, Nat.mul_comm 2 x, Nat.mul_assoc, Nat.mul_comm 2]⟩, by rw [e1]; exact h2, hle, by rw [e1]; exact h4⟩
theorem RI.done {v r : Nat} (h : RI v r 0) : IsRt v r ∧ r < 4294967296 := by
  obtain ⟨⟨x, hx⟩, h2, h3, h4⟩ := h
  rw [Nat.pow_zero] at h2 h4
  exact ⟨⟨h3, h4⟩, by omega⟩
end Go.Proofs.Ytjkbapnndoldgaa
