import Derived.Test.YtjkbapnndoldgaaKXM
namespace Go.Proofs.Ytjkbapnndoldgaa
open Go.RowKit
def upw (d : Int) (S r w : Nat) : Bool := if d = 1 then decide (0 < r) else if d = -1 then false else decide (w < 2 * r) || (decide (w = 2 * r) && decide (S % 2 = 1))
def rE (p A B : Nat) : Nat := blen (A / B) - p
def rS (p A B : Nat) : Nat := A / (B * 2 ^ rE p A B)
def rR (p A B : Nat) : Nat := A % (B * 2 ^ rE p A B)
def rU (d : Int) (p A B : Nat) : Nat := (rS p A B + (upw d (rS p A B) (rR p A B) (B * 2 ^ rE p A B)).toNat) * 2 ^ rE p A B
theorem upw_none (d : Int) (S w : Nat) (hw : 0 < w) : upw d S 0 w = false := by
  unfold upw
  split
  · simp
  · split
    · rfl
    · simp; omega
theorem blen_le_iff (x k : Nat) : blen x ≤ k ↔ x < 2 ^ k := by
  constructor
  · intro h
    by_cases c : x = 0
    · subst c; exact Nat.pow_pos (by omega)
    · exact Nat.lt_of_lt_of_le (blen_spec x c).2.1 (Nat.pow_le_pow_right (by omega) h)
  · exact blen_lt x k
theorem rE_spec (p A B : Nat) (hB : 0 < B) (hp : 0 < p) : A < B * 2 ^ (rE p A B + p) ∧ (rE p A B = 0 ∨ B * 2 ^ (rE p A B + p - 1) ≤ A) := by
  have h1 : blen (A / B) ≤ rE p A B + p := by unfold rE; omega
  rw [blen_le_iff, Nat.div_lt_iff_lt_mul hB, Nat.mul_comm] at h1
  refine ⟨h1, ?_⟩
  by_cases c : rE p A B = 0
  · exact Or.inl c
  · right
    have h2 : ¬ blen (A / B) ≤ rE p A B + p - 1 := by unfold rE at c ⊢; omega
    rw [blen_le_iff, Nat.div_lt_iff_lt_mul hB, Nat.mul_comm] at h2
    omega
theorem blen_mul (x n : Nat) (h : x ≠ 0) : blen (x * 2 ^ n) = blen x + n := by
  obtain ⟨h1, h2, h3⟩ := blen_spec x h
  have e : blen x + n = (blen x - 1 + n) + 1 := by omega
  rw [e]
  refine blen_uniq _ _ ?_ ?_
  · rw [Nat.pow_add]; exact Nat.mul_le_mul_right _ h1
  · rw [show blen x - 1 + n + 1 = blen x + n from by omega, Nat.pow_add]; exact Nat.mul_lt_mul_of_pos_right h2 (Nat.pow_pos (by omega))
def rgU (p U : Nat) : Nat := (blen U - p) * 2 ^ (p - 1) + U / 2 ^ (blen U - p)
theorem rgU_mul (p o x s : Nat) (ho : o ≠ 0) (hs : s = min (p - blen o) x) (hb : blen o ≤ p) : rgU p (o * 2 ^ x) = (x - s) * 2 ^ (p - 1) + o * 2 ^ s := by
  unfold rgU
  rw [blen_mul _ _ ho]
  have e1 : blen o + x - p = x - s := by omega
  rw [e1]
  have e2 : (2 : Nat) ^ x = 2 ^ s * 2 ^ (x - s) := by rw [← Nat.pow_add]; exact congrArg _ (by omega)
  rw [e2, ← Nat.mul_assoc, Nat.mul_div_cancel _ (Nat.pow_pos (by omega))]
theorem rgU_zero (p : Nat) : rgU p 0 = 0 := by unfold rgU; rw [blen_zero]; simp
def mdW (neg : Bool) (m : Nat) : Nat := if m = 0 then 0 else if neg then 9223372036854775808 + m else m
def MdI (U s : Nat) (x : Int) : Prop := s ≠ 0 ∧ s ≤ 9007199254740992 ∧ -1074 ≤ x ∧ x ≤ 5000 ∧ s * 2 ^ (x + 1074).toNat = U
theorem MdI.half {U s : Nat} {x : Int} (h : MdI U s x) (hx : x < 5000) (hs : 9007199254740992 ≤ s) : MdI U (s / 2) (x + 1) ∧ s / 2 < 9007199254740992 := by
  obtain ⟨h1, h2, h3, h4, h5⟩ := h
  have e : s = 9007199254740992 := by omega
  subst e
  refine ⟨⟨by omega, by omega, by omega, by omega, ?_⟩, by omega⟩
  rw [← h5, show (x + 1 + 1074).toNat = (x + 1074).toNat + 1 from by omega, Nat.pow_succ]
  generalize 2 ^ (x + 1074).toNat = y
  omega
theorem MdI.dbl {U s : Nat} {x : Int} (h : MdI U s x) (hs : s < 4503599627370496) (hx : -1074 < x) : MdI U (2 * s) (x - 1) := by
  obtain ⟨h1, h2, h3, h4, h5⟩ := h
  refine ⟨by omega, by omega, by omega, by omega, ?_⟩
  rw [← h5, show (x + 1074).toNat = (x - 1 + 1074).toNat + 1 from by omega, Nat.pow_succ]
  generalize 2 ^ (x - 1 + 1074).toNat = y
  rw [Nat.mul_comm 2 s, Nat.mul_assoc, Nat.mul_comm 2 y]
theorem MdI.top {U s : Nat} {x : Int} (h : MdI U s x) (h1 : 4503599627370496 ≤ s) (h2 : s < 9007199254740992) (hb : blen U ≤ 2098) : x ≤ 971 ∧ rgU 53 U = (s - 4503599627370496) + (x + 1075).toNat * 4503599627370496 ∧ rgU 53 U < 9218868437227405312 ∧ rgU 53 U ≠ 0 := by
  obtain ⟨a1, _, a3, a4, a5⟩ := h
  have hbl : blen s = 53 := blen_uniq s 52 (by rw [show (2 : Nat) ^ 52 = 4503599627370496 from by decide]; exact h1) (by rw [show (2 : Nat) ^ (52 + 1) = 9007199254740992 from by decide]; exact h2)
  have hU : blen U = 53 + (x + 1074).toNat := by rw [← a5, blen_mul _ _ a1, hbl]
  have hr := rgU_mul 53 s (x + 1074).toNat 0 a1 (by rw [hbl]; omega) (by omega)
  rw [a5, Nat.sub_zero, Nat.pow_zero, Nat.mul_one, show (2 : Nat) ^ (53 - 1) = 4503599627370496 from by decide] at hr
  have hx : x ≤ 971 := by omega
  rw [hr]
  omega
theorem MdI.low {U s : Nat} {x : Int} (h : MdI U s x) (h1 : s < 4503599627370496) (hx : x = -1074) : rgU 53 U = s ∧ rgU 53 U ≠ 0 := by
  obtain ⟨a1, _, a3, a4, a5⟩ := h
  subst hx
  have hbl : blen s ≤ 53 := blen_lt s 53 (by rw [show (2 : Nat) ^ 53 = 9007199254740992 from by decide]; omega)
  have hr := rgU_mul 53 s 0 0 a1 (by omega) hbl
  rw [show (-1074 + 1074 : Int).toNat = 0 from rfl, Nat.pow_zero, Nat.mul_one] at a5
  rw [Nat.pow_zero, Nat.mul_one, Nat.sub_zero, Nat.zero_mul, Nat.zero_add] at hr
  rw [← a5, hr]
  exact ⟨rfl, a1⟩
theorem thin_math (U b X q K9 : Nat) (hK : K9 = 925) (hU0 : U ≠ 0) (hb : b = blen U) (hT : b ≤ 277) (hX : X = rgU 53 (U * 2 ^ K9)) (hq : q = U * 2 ^ 24 / 2 ^ b) :
    X / 4503599627370496 = b + 873 ∧ X % 4503599627370496 / 536870912 = q - 8388608 ∧ 8388608 ≤ q ∧ q < 16777216 ∧ X < 9218868437227405312 ∧ 1 ≤ b ∧ (24 ≤ b → rgU 24 U = (b - 24) * 8388608 + q) ∧ (b < 24 → rgU 24 U = U ∧ q / 2 ^ (24 - b) = U) := by
  obtain ⟨h1, h2, h3⟩ := blen_spec U hU0
  rw [← hb] at h1 h2 h3
  have hp : ∀ k, 0 < (2 : Nat) ^ k := fun k => Nat.pow_pos (by omega)
  have e1 : rgU 53 (U * 2 ^ K9) = (b + 872) * 4503599627370496 + U * 2 ^ K9 / 2 ^ (b + 872) := by
    unfold rgU
    rw [blen_mul _ _ hU0, ← hb, show b + K9 - 53 = b + 872 from by omega, show (2 : Nat) ^ (53 - 1) = 4503599627370496 from by decide]
  obtain ⟨s, hs⟩ : ∃ s, s = U * 2 ^ K9 / 2 ^ (b + 872) := ⟨_, rfl⟩
  have e2 : s = U * 2 ^ 53 / 2 ^ b := by
    obtain ⟨j, hj⟩ : ∃ j, j = 872 := ⟨_, rfl⟩
    rw [hs, show K9 = 53 + j from by omega, show b + 872 = b + j from by omega, Nat.pow_add 2 53, Nat.pow_add 2 b, ← Nat.mul_assoc, Nat.mul_div_mul_right _ _ (hp j)]
  have e3 : s / 536870912 = q := by
    rw [e2, hq, show (536870912 : Nat) = 2 ^ 29 from by decide, Nat.div_div_eq_div_mul, show (53 : Nat) = 24 + 29 from rfl, Nat.pow_add 2 24, ← Nat.mul_assoc, Nat.mul_div_mul_right _ _ (hp 29)]
  have e4 : (2 : Nat) ^ b = 2 * 2 ^ (b - 1) := by rw [← Nat.pow_succ', show (b - 1).succ = b from by omega]
  have q1 : 8388608 ≤ q := by
    rw [hq, Nat.le_div_iff_mul_le (hp b), show (2 : Nat) ^ 24 = 16777216 from by decide, e4]; omega
  have q2 : q < 16777216 := by
    rw [hq, Nat.div_lt_iff_lt_mul (hp b), show (2 : Nat) ^ 24 = 16777216 from by decide]; omega
  have s1 : 4503599627370496 ≤ s := by
    rw [e2, Nat.le_div_iff_mul_le (hp b), show (2 : Nat) ^ 53 = 9007199254740992 from by decide, e4]; omega
  have s2 : s < 9007199254740992 := by
    rw [e2, Nat.div_lt_iff_lt_mul (hp b), show (2 : Nat) ^ 53 = 9007199254740992 from by decide]; omega
  rw [← hs] at e1
  rw [hX, e1]
  refine ⟨by omega, ?_, q1, q2, by omega, h3, ?_, ?_⟩
  · have : ((b + 872) * 4503599627370496 + s) % 4503599627370496 = s - 4503599627370496 := by omega
    rw [this]
    omega
  · intro hg
    unfold rgU
    rw [← hb, show (2 : Nat) ^ (24 - 1) = 8388608 from by decide]
    have : q = U / 2 ^ (b - 24) := by
      have e5 : (2 : Nat) ^ b = 2 ^ (b - 24) * 2 ^ 24 := by rw [← Nat.pow_add]; exact congrArg _ (by omega)
      rw [hq, e5, Nat.mul_div_mul_right _ _ (hp 24)]
    rw [this]
  · intro hg
    have e5 : (2 : Nat) ^ 24 = 2 ^ (24 - b) * 2 ^ b := by rw [← Nat.pow_add]; exact congrArg _ (by omega)
    have e6 : q = U * 2 ^ (24 - b) := by rw [hq, e5, ← Nat.mul_assoc, Nat.mul_div_cancel _ (hp b)]
    refine ⟨?_, by rw [e6, Nat.mul_div_cancel _ (hp _)]⟩
    unfold rgU
    rw [← hb, show b - 24 = 0 from by omega]
    simp
theorem or_parts (s e q : Nat) (hs : s = 0 ∨ s = 2147483648) (he : e * 8388608 < 2147483648) (hq : q < 8388608) : s ||| e * 8388608 = s + e * 8388608 ∧ (s + e * 8388608) ||| q = s + e * 8388608 + q := by
  have h2 : q ||| (s + e * 8388608) = q + (s + e * 8388608) := by
    have h := or_low q (s / 8388608 + e) 23 (by rw [show (2 : Nat) ^ 23 = 8388608 from by decide]; exact hq)
    rw [show (2 : Nat) ^ 23 = 8388608 from by decide] at h
    rw [show s + e * 8388608 = (s / 8388608 + e) * 8388608 from by rw [Nat.add_mul]; rcases hs with h | h <;> rw [h] <;> simp]
    exact h
  have h1 : e * 8388608 ||| s = e * 8388608 + s := by
    have h := or_low (e * 8388608) (s / 2147483648) 31 (by rw [show (2 : Nat) ^ 31 = 2147483648 from by decide]; exact he)
    rw [show (2 : Nat) ^ 31 = 2147483648 from by decide] at h
    rw [show s = s / 2147483648 * 2147483648 from by rcases hs with h | h <;> rw [h]] 
    exact h
  exact ⟨by rw [Nat.or_comm, h1, Nat.add_comm], by rw [Nat.or_comm, h2, Nat.add_comm]⟩
end Go.Proofs.Ytjkbapnndoldgaa
