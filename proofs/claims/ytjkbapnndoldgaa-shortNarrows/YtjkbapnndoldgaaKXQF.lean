import Derived.Test.YtjkbapnndoldgaaKQM
import Derived.Test.YtjkbapnndoldgaaKXY
import Derived.Lib.BitFns
namespace Go.Proofs.Ytjkbapnndoldgaa
open Go.RowKit
namespace Fq
open Ieee
theorem vV_of (f : Format) (q k : Nat) (h1 : f.binade ≤ k) (h2 : k < 2 * f.binade) : vV f (q * f.binade + k) = k * 2 ^ q := by
  have hB := binade_pos f
  unfold vV mM eE
  have e1 : ¬ (q * f.binade + k < f.binade) := by have := Nat.zero_le (q * f.binade); omega
  have e2 : (q * f.binade + k) / f.binade = q + 1 := by
    rw [show q * f.binade + k = (k - f.binade) + (q + 1) * f.binade from by rw [Nat.add_mul]; omega, Nat.add_mul_div_right _ _ hB, Nat.div_eq_of_lt (by omega)]; omega
  have e3 : (q * f.binade + k) % f.binade = k - f.binade := by
    rw [show q * f.binade + k = (k - f.binade) + (q + 1) * f.binade from by rw [Nat.add_mul]; omega, Nat.add_mul_mod_self_right, Nat.mod_eq_of_lt (by omega)]
  rw [if_neg e1, if_neg e1, e2, e3, show f.binade + (k - f.binade) = k from by omega, Nat.add_sub_cancel]

def vlD (m : Nat) : Nat := vV double m
end Fq
namespace Fq
open Ieee
theorem vlsgD (m : Nat) (hm : m < 9218868437227405312) : sgD m * 2 ^ (epD m + 1074).toNat = vlD m ∧ sgD m < 9007199254740992 ∧ (m = 0 ↔ sgD m = 0) ∧ -1074 ≤ epD m ∧ epD m ≤ 971 := by
  have hb := binD
  by_cases c : m < 4503599627370496
  · have e1 : sgD m = m := by unfold sgD sgG; rw [if_pos c]
    have e2 : epD m = -1074 := by unfold epD epG; rw [if_pos c]
    rw [e1, e2, show (-1074 + 1074 : Int).toNat = 0 from rfl, Nat.pow_zero, Nat.mul_one]
    refine ⟨?_, by omega, Iff.rfl, by omega, by omega⟩
    show m = vV double m
    unfold vV mM eE
    rw [hb, if_pos c, if_pos c, Nat.pow_zero, Nat.mul_one]
  · have e1 : sgD m = 4503599627370496 + m % 4503599627370496 := by unfold sgD sgG; rw [if_neg c, if_pos hm]
    have e2 : epD m = -1074 + m / 4503599627370496 - 1 := by unfold epD epG; (repeat' split) <;> omega
    rw [e1, e2]
    have hd := Nat.div_add_mod m 4503599627370496
    have hq : 1 ≤ m / 4503599627370496 := by omega
    have hr := Nat.mod_lt m (by decide : 0 < 4503599627370496)
    have hq2 : m / 4503599627370496 ≤ 2046 := by omega
    refine ⟨?_, by omega, by omega, by omega, by omega⟩
    rw [show (-1074 + (m : Int) / 4503599627370496 - 1 + 1074).toNat = m / 4503599627370496 - 1 from by omega]
    have hv := vV_of double (m / 4503599627370496 - 1) (4503599627370496 + m % 4503599627370496) (by rw [hb]; omega) (by rw [hb]; omega)
    rw [← hv]
    show vV double _ = vV double m
    congr 1
    rw [hb]
    have : (m / 4503599627370496 - 1) * 4503599627370496 + 4503599627370496 = m / 4503599627370496 * 4503599627370496 := by rw [Nat.sub_mul, Nat.one_mul, Nat.sub_add_cancel (by omega)]
    omega
end Fq
def pW (s : Nat) (neg : Bool) (m : Nat) : Nat := if m = 0 then 0 else if neg then s + m else m
def FL (v : Int) : Prop := ∃ k : Nat, (2 ^ k : Int) ∣ v ∧ v.natAbs ≤ 9007199254740992 * 2 ^ k
structure Nr (v s : Int) (T : Nat) : Prop where
  pos : 0 < T
  dvd : (T : Int) ∣ s
  near : 2 * (v - s).natAbs ≤ T
  lt : v.natAbs < 9007199254740992 * T
  low : T = 1 ∨ 4503599627370496 * T ≤ v.natAbs
  two : ∃ E : Nat, T = 2 ^ E
theorem dvd_small {T x : Int} (_hT : 0 < T) (h : T ∣ x) (hx : x.natAbs < T.natAbs) : x = 0 := by
  obtain ⟨q, rfl⟩ := h
  by_cases c : q = 0
  · rw [c, Int.mul_zero]
  · exfalso
    rw [Int.natAbs_mul] at hx
    have : 1 ≤ q.natAbs := by omega
    have := Nat.mul_le_mul_left T.natAbs this
    omega
theorem pow_dvd_int {j k : Nat} (h : j ≤ k) : (2 ^ j : Int) ∣ 2 ^ k := ⟨2 ^ (k - j), by rw [← Int.pow_add]; congr 1; omega⟩
theorem castpow (k : Nat) : ((2 ^ k : Nat) : Int) = (2 : Int) ^ k := by rw [Int.natCast_pow]; rfl
theorem Nr.nearest {v s : Int} {T : Nat} (h : Nr v s T) {B : Int} (hB : FL B) : (v - s).natAbs ≤ (v - B).natAbs := by
  obtain ⟨k, hk, hb⟩ := hB
  obtain ⟨E, hE⟩ := h.two
  -- a multiple of the unit is no nearer
  have hmul : ∀ C : Int, (T : Int) ∣ C → (v - s).natAbs ≤ (v - C).natAbs := fun C hC => by
    by_cases c : s = C
    · rw [c]; exact Nat.le_refl _
    · have hd : (T : Int) ∣ (C - s) := Int.dvd_sub hC h.dvd
      have h1 : ¬ (C - s).natAbs < (T : Int).natAbs := fun hx => by
        have := dvd_small (by have := h.pos; omega) hd hx
        omega
      have h2 : (T : Int).natAbs = T := by simp
      rw [h2] at h1
      have := h.near
      omega
  by_cases c : E ≤ k
  · exact hmul B (by rw [hE, castpow]; exact Int.dvd_trans (pow_dvd_int c) hk)
  · have hp : 2 ^ k * 2 ≤ T := by
      rw [hE, ← Nat.pow_succ]
      exact Nat.pow_le_pow_right (by omega) (by omega)
    have hT1 : ¬ T = 1 := by have := Nat.two_pow_pos k; omega
    have hlow := h.low.resolve_left hT1
    rcases Int.lt_or_le v 0 with hv | hv
    · have := hmul (-(4503599627370496 * (T : Int))) (Int.dvd_neg.2 (Int.dvd_mul_left _ _))
      omega
    · have := hmul (4503599627370496 * (T : Int)) (Int.dvd_mul_left _ _)
      omega
theorem FL.neg {v : Int} (h : FL v) : FL (-v) := by
  obtain ⟨k, h1, h2⟩ := h
  exact ⟨k, Int.dvd_neg.2 h1, by rw [Int.natAbs_neg]; exact h2⟩
theorem FL.zero : FL 0 := ⟨0, Int.dvd_zero _, by simp⟩
theorem Nr.neg {v s : Int} {T : Nat} (h : Nr v s T) : Nr (-v) (-s) T := by
  obtain ⟨h1, h2, h3, h4, h5, h6⟩ := h
  exact ⟨h1, Int.dvd_neg.2 h2, by omega, by omega, by omega, h6⟩
theorem FL.unit {x : Int} (hx : FL x) (E : Nat) (h : 9007199254740992 * 2 ^ E < x.natAbs) : (2 ^ (E + 1) : Int) ∣ x := by
  obtain ⟨k, h1, h2⟩ := hx
  by_cases c : E + 1 ≤ k
  · exact Int.dvd_trans (pow_dvd_int c) h1
  · exfalso
    have : 2 ^ k ≤ 2 ^ E := Nat.pow_le_pow_right (by omega) (by omega)
    omega
end Go.Proofs.Ytjkbapnndoldgaa
