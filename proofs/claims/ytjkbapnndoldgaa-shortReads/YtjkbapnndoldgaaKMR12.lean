import Derived.RowKit
namespace Go.Proofs.Ytjkbapnndoldgaa
open Go.RowKit
def FL (v : Int) : Prop := ∃ k : Nat, (2 ^ k : Int) ∣ v ∧ v.natAbs ≤ 9007199254740992 * 2 ^ k
structure Nr (v s : Int) (T : Nat) : Prop where
  pos : 0 < T
  dvd : (T : Int) ∣ s
  near : 2 * (v - s).natAbs ≤ T
  lt : v.natAbs < 9007199254740992 * T
  low : T = 1 ∨ 4503599627370496 * T ≤ v.natAbs
  two : ∃ E : Nat, T = 2 ^ E
theorem dvd_small {T x : Int} (_hT : 0 < T) (h : T ∣ x) (hx : x.natAbs < T.natAbs) : x = 0 := by
  obtain ⟨q, rfl⟩ := h
  by_cases c : q = 0
  · rw [c, Int.mul_zero]
  · exfalso
    rw [Int.natAbs_mul] at hx
    have : 1 ≤ q.natAbs := by omega
    have := Nat.mul_le_mul_left T.natAbs this
    omega
theorem pow_dvd_int {j k : Nat} (h : j ≤ k) : (2 ^ j : Int) ∣ 2 ^ k := ⟨2 ^ (k - j), by rw [← Int.pow_add]; congr 1; omega⟩
theorem castpow (k : Nat) : ((2 ^ k : Nat) : Int) = (2 : Int) ^ k := by rw [Int.natCast_pow]; rfl
theorem Nr.nearest {v s : Int} {T : Nat} (h : Nr v s T) {B : Int} (hB : FL B) : (v - s).natAbs ≤ (v - B).natAbs := by
  obtain ⟨k, hk, hb⟩ := hB
  obtain ⟨E, hE⟩ := h.two
  -- a multiple of the unit is no nearer
  have hmul : ∀ C : Int, (T : Int) ∣ C → (v - s).natAbs ≤ (v - C).natAbs := fun C hC => by
    by_cases c : s = C
    · rw [c]; exact Nat.le_refl _
    · have hd : (T : Int) ∣ (C - s) := Int.dvd_sub hC h.dvd
      have h1 : ¬ (C - s).natAbs < (T : Int).natAbs := fun hx => by
        have := dvd_small (by have := h.pos; omega) hd hx
        omega
      have h2 : (T : Int).natAbs = T := by simp
      rw [h2] at h1
      have := h.near
      omega
  by_cases c : E ≤ k
  · exact hmul B (by rw [hE, castpow]; exact Int.dvd_trans (pow_dvd_int c) hk)
  · have hp : 2 ^ k * 2 ≤ T := by
      rw [hE, ← Nat.pow_succ]
      exact Nat.pow_le_pow_right (by omega) (by omega)
    have hT1 : ¬ T = 1 := by have := Nat.two_pow_pos k; omega
    have hlow := h.low.resolve_left hT1
    rcases Int.lt_or_le v 0 with hv | hv
    · have := hmul (-(4503599627370496 * (T : Int))) (Int.dvd_neg.2 (Int.dvd_mul_left _ _))
      omega
    · have := hmul (4503599627370496 * (T : Int)) (Int.dvd_mul_left _ _)
      omega
theorem FL.neg {v : Int} (h : FL v) : FL (-v) := by
  obtain ⟨k, h1, h2⟩ := h
  exact ⟨k, Int.dvd_neg.2 h1, by rw [Int.natAbs_neg]; exact h2⟩
theorem FL.zero : FL 0 := ⟨0, Int.dvd_zero _, by simp⟩
theorem Nr.neg {v s : Int} {T : Nat} (h : Nr v s T) : Nr (-v) (-s) T := by
  obtain ⟨h1, h2, h3, h4, h5, h6⟩ := h
  exact ⟨h1, Int.dvd_neg.2 h2, by omega, by omega, by omega, h6⟩
theorem FL.unit {x : Int} (hx : FL x) (E : Nat) (h : 9007199254740992 * 2 ^ E < x.natAbs) : (2 ^ (E + 1) : Int) ∣ x := by
  obtain ⟨k, h1, h2⟩ := hx
  by_cases c : E + 1 ≤ k
  · exact Int.dvd_trans (pow_dvd_int c) h1
  · exfalso
    have : 2 ^ k ≤ 2 ^ E := Nat.pow_le_pow_right (by omega) (by omega)
    omega
end Go.Proofs.Ytjkbapnndoldgaa
