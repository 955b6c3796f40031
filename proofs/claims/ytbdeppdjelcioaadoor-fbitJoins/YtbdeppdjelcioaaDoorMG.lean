import Derived.Test.YtbdeppdjelcioaaDoorM
import Derived.Test.YtbdeppdjelcioaaDoorM5
import Derived.Test.YtbdeppdjelcioaaDoorMJ
import Derived.Laws.FloatArith
import Derived.Lib.BitFns
namespace Go.Proofs.YtbdeppdjelcioaaDoor
open Go.RowKit
open Ieee
theorem odd_pow : ∀ s : Nat, s ≠ 0 → ∃ o k : Nat, o % 2 = 1 ∧ s = o * 2 ^ k := by
  intro s
  induction s using Nat.strongRecOn with
  | ind s ih =>
    intro h
    by_cases c : s % 2 = 1
    · exact ⟨s, 0, c, by rw [Nat.pow_zero, Nat.mul_one]⟩
    · obtain ⟨o, k, h1, h2⟩ := ih (s / 2) (by omega) (by omega)
      refine ⟨o, k + 1, h1, ?_⟩
      rw [Nat.pow_succ, ← Nat.mul_assoc, ← h2]; omega

theorem uniqD (r : Nat) (hr : r < 9218868437227405312) (s : Nat) (e : Int) (h0 : 0 < s) (h1 : s < 9007199254740992) (h2 : -1074 ≤ e) (hc : 4503599627370496 ≤ s ∨ e = -1074) (hv : s * 2 ^ (e + 1074).toNat = vlD r) : sgD r = s ∧ epD r = e := by
  by_cases c : s < 4503599627370496
  · have he : e = -1074 := by omega
    have e1 : vlD s = s * 2 ^ (e + 1074).toNat := by
      rw [he, show (-1074 + 1074 : Int).toNat = 0 from rfl, Nat.pow_zero, Nat.mul_one]
      show vV double s = s
      unfold vV mM eE
      rw [binD, if_pos (by omega), if_pos (by omega), Nat.pow_zero, Nat.mul_one]
    have e2 : s = r := (vV_inj double _ _).1 (e1.trans hv)
    refine ⟨?_, ?_⟩
    · rw [← e2]; unfold sgD sgG; rw [if_pos (by omega)]
    · rw [← e2]; unfold epD epG; rw [if_pos (by omega)]; exact he.symm
  · have e1 := vV_of double (e + 1074).toNat s (by rw [binD]; omega) (by rw [binD]; omega)
    have e2 : (e + 1074).toNat * double.binade + s = r := (vV_inj double _ _).1 (e1.trans hv)
    rw [binD] at e2
    refine ⟨?_, ?_⟩
    · rw [← e2]; unfold sgD sgG; (repeat' split) <;> omega
    · rw [← e2]; unfold epD epG; (repeat' split) <;> omega
theorem vlsgD (m : Nat) (hm : m < 9218868437227405312) : sgD m * 2 ^ (epD m + 1074).toNat = vlD m ∧ sgD m < 9007199254740992 ∧ (m = 0 ↔ sgD m = 0) ∧ -1074 ≤ epD m ∧ epD m ≤ 971 := by
  have hb := binD
  by_cases c : m < 4503599627370496
  · have e1 : sgD m = m := by unfold sgD sgG; rw [if_pos c]
    have e2 : epD m = -1074 := by unfold epD epG; rw [if_pos c]
    rw [e1, e2, show (-1074 + 1074 : Int).toNat = 0 from rfl, Nat.pow_zero, Nat.mul_one]
    refine ⟨?_, by omega, Iff.rfl, by omega, by omega⟩
    show m = vV double m
    unfold vV mM eE
    rw [hb, if_pos c, if_pos c, Nat.pow_zero, Nat.mul_one]
  · have e1 : sgD m = 4503599627370496 + m % 4503599627370496 := by unfold sgD sgG; rw [if_neg c, if_pos hm]
    have e2 : epD m = -1074 + m / 4503599627370496 - 1 := by unfold epD epG; (repeat' split) <;> omega
    rw [e1, e2]
    have hd := Nat.div_add_mod m 4503599627370496
    have hq : 1 ≤ m / 4503599627370496 := by omega
    have hr := Nat.mod_lt m (by decide : 0 < 4503599627370496)
    have hq2 : m / 4503599627370496 ≤ 2046 := by omega
    refine ⟨?_, by omega, by omega, by omega, by omega⟩
    rw [show (-1074 + (m : Int) / 4503599627370496 - 1 + 1074).toNat = m / 4503599627370496 - 1 from by omega]
    have hv := vV_of double (m / 4503599627370496 - 1) (4503599627370496 + m % 4503599627370496) (by rw [hb]; omega) (by rw [hb]; omega)
    rw [← hv]
    show vV double _ = vV double m
    congr 1
    rw [hb]
    have : (m / 4503599627370496 - 1) * 4503599627370496 + 4503599627370496 = m / 4503599627370496 * 4503599627370496 := by rw [Nat.sub_mul, Nat.one_mul, Nat.sub_add_cancel (by omega)]
    omega
theorem jok_ofD (m : Nat) (hm : m < 9218868437227405312) (o k : Nat) (ho : o % 2 = 1) (hs : sgD m = o * 2 ^ k) : jokD o (epD m + k) = true ∧ jrD o (epD m + k) = m ∧ k ≤ 53 := by
  obtain ⟨v1, v2, v3, v4, v5⟩ := vlsgD m hm
  rw [hs] at v1 v2
  have hp := Nat.two_pow_pos k
  have ho64 : o < 18446744073709551616 := by
    have := Nat.le_mul_of_pos_right o hp
    omega
  obtain ⟨l0, l1, l2, l3⟩ := bitLen_bd o (by omega) ho64
  have hlen : Lib.bitLen o - 1 + k < 53 := by
    have h2 : 2 ^ (Lib.bitLen o - 1 + k) ≤ o * 2 ^ k := by rw [Nat.pow_add]; exact Nat.mul_le_mul_right _ l2
    have h3 : (2 : Nat) ^ 53 = 9007199254740992 := by decide
    exact (Nat.pow_lt_pow_iff_right (by decide : 1 < 2)).1 (Nat.lt_of_le_of_lt h2 (by rw [h3]; exact v2))
  have hj : jokD o (epD m + k) = true := (jokD_iff _ _).2 ⟨by omega, by omega, by omega⟩
  obtain ⟨r1, r2, r3, r4⟩ := jrD_spec o (by omega) ho64 (epD m + k) hj
  refine ⟨hj, (vV_inj double _ _).1 (r3.trans ?_), by omega⟩
  refine Eq.trans ?_ v1
  rw [Nat.mul_assoc, ← Nat.pow_add]; congr 2; omega

theorem uniqS (r : Nat) (hr : r < 2139095040) (s : Nat) (e : Int) (h0 : 0 < s) (h1 : s < 16777216) (h2 : -149 ≤ e) (hc : 8388608 ≤ s ∨ e = -149) (hv : s * 2 ^ (e + 149).toNat = vlS r) : sgS r = s ∧ epS r = e := by
  by_cases c : s < 8388608
  · have he : e = -149 := by omega
    have e1 : vlS s = s * 2 ^ (e + 149).toNat := by
      rw [he, show (-149 + 149 : Int).toNat = 0 from rfl, Nat.pow_zero, Nat.mul_one]
      show vV single s = s
      unfold vV mM eE
      rw [binS, if_pos (by omega), if_pos (by omega), Nat.pow_zero, Nat.mul_one]
    have e2 : s = r := (vV_inj single _ _).1 (e1.trans hv)
    refine ⟨?_, ?_⟩
    · rw [← e2]; unfold sgS sgG; rw [if_pos (by omega)]
    · rw [← e2]; unfold epS epG; rw [if_pos (by omega)]; exact he.symm
  · have e1 := vV_of single (e + 149).toNat s (by rw [binS]; omega) (by rw [binS]; omega)
    have e2 : (e + 149).toNat * single.binade + s = r := (vV_inj single _ _).1 (e1.trans hv)
    rw [binS] at e2
    refine ⟨?_, ?_⟩
    · rw [← e2]; unfold sgS sgG; (repeat' split) <;> omega
    · rw [← e2]; unfold epS epG; (repeat' split) <;> omega
theorem vlsgS (m : Nat) (hm : m < 2139095040) : sgS m * 2 ^ (epS m + 149).toNat = vlS m ∧ sgS m < 16777216 ∧ (m = 0 ↔ sgS m = 0) ∧ -149 ≤ epS m ∧ epS m ≤ 104 := by
  have hb := binS
  by_cases c : m < 8388608
  · have e1 : sgS m = m := by unfold sgS sgG; rw [if_pos c]
    have e2 : epS m = -149 := by unfold epS epG; rw [if_pos c]
    rw [e1, e2, show (-149 + 149 : Int).toNat = 0 from rfl, Nat.pow_zero, Nat.mul_one]
    refine ⟨?_, by omega, Iff.rfl, by omega, by omega⟩
    show m = vV single m
    unfold vV mM eE
    rw [hb, if_pos c, if_pos c, Nat.pow_zero, Nat.mul_one]
  · have e1 : sgS m = 8388608 + m % 8388608 := by unfold sgS sgG; rw [if_neg c, if_pos hm]
    have e2 : epS m = -149 + m / 8388608 - 1 := by unfold epS epG; (repeat' split) <;> omega
    rw [e1, e2]
    have hd := Nat.div_add_mod m 8388608
    have hq : 1 ≤ m / 8388608 := by omega
    have hr := Nat.mod_lt m (by decide : 0 < 8388608)
    have hq2 : m / 8388608 ≤ 254 := by omega
    refine ⟨?_, by omega, by omega, by omega, by omega⟩
    rw [show (-149 + (m : Int) / 8388608 - 1 + 149).toNat = m / 8388608 - 1 from by omega]
    have hv := vV_of single (m / 8388608 - 1) (8388608 + m % 8388608) (by rw [hb]; omega) (by rw [hb]; omega)
    rw [← hv]
    show vV single _ = vV single m
    congr 1
    rw [hb]
    have : (m / 8388608 - 1) * 8388608 + 8388608 = m / 8388608 * 8388608 := by rw [Nat.sub_mul, Nat.one_mul, Nat.sub_add_cancel (by omega)]
    omega
theorem jok_ofS (m : Nat) (hm : m < 2139095040) (o k : Nat) (ho : o % 2 = 1) (hs : sgS m = o * 2 ^ k) : jokS o (epS m + k) = true ∧ jrS o (epS m + k) = m ∧ k ≤ 24 := by
  obtain ⟨v1, v2, v3, v4, v5⟩ := vlsgS m hm
  rw [hs] at v1 v2
  have hp := Nat.two_pow_pos k
  have ho64 : o < 18446744073709551616 := by
    have := Nat.le_mul_of_pos_right o hp
    omega
  obtain ⟨l0, l1, l2, l3⟩ := bitLen_bd o (by omega) ho64
  have hlen : Lib.bitLen o - 1 + k < 24 := by
    have h2 : 2 ^ (Lib.bitLen o - 1 + k) ≤ o * 2 ^ k := by rw [Nat.pow_add]; exact Nat.mul_le_mul_right _ l2
    have h3 : (2 : Nat) ^ 24 = 16777216 := by decide
    exact (Nat.pow_lt_pow_iff_right (by decide : 1 < 2)).1 (Nat.lt_of_le_of_lt h2 (by rw [h3]; exact v2))
  have hj : jokS o (epS m + k) = true := (jokS_iff _ _).2 ⟨by omega, by omega, by omega⟩
  obtain ⟨r1, r2, r3, r4⟩ := jrS_spec o (by omega) ho64 (epS m + k) hj
  refine ⟨hj, (vV_inj single _ _).1 (r3.trans ?_), by omega⟩
  refine Eq.trans ?_ v1
  rw [Nat.mul_assoc, ← Nat.pow_add]; congr 2; omega
end Go.Proofs.YtbdeppdjelcioaaDoor
