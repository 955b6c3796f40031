import Derived.Test.YtbdeppdjelcioaaDoorM
import Derived.Test.YtbdeppdjelcioaaDoorM5
import Derived.Test.YtbdeppdjelcioaaDoorMJ
import Derived.Test.YtbdeppdjelcioaaDoorMG
import Derived.Laws.FloatArith
import Derived.Lib.BitFns
namespace Go.Proofs.YtbdeppdjelcioaaDoor
open Go.RowKit
open Ieee
def A1 (o k : Nat) (e s x i : Int) : Prop := 0 ≤ i ∧ i ≤ k ∧ x = e + i ∧ x < 9223372036854775808 ∧ s = ((o * 2 ^ (k - i.toNat) : Nat) : Int)
theorem A1_odd (o k : Nat) (e s x i : Int) (h : A1 o k e s x i) (h2 : ¬ s % 2 = 0) : s = (o : Int) ∧ x = e + k := by
  obtain ⟨a1, a2, a3, a4, a5⟩ := h
  by_cases c : k - i.toNat = 0
  · rw [c, Nat.pow_zero, Nat.mul_one] at a5
    exact ⟨a5, by omega⟩
  · exfalso
    rw [show k - i.toNat = (k - i.toNat - 1) + 1 from by omega, Nat.pow_succ, ← Nat.mul_assoc] at a5
    omega
theorem A1_step (o k : Nat) (ho : o % 2 = 1) (e s x i : Int) (h : A1 o k e s x i) (h2 : s % 2 = 0) (h3 : x < 9223372036854775807) : A1 o k e (s / 2) (x + 1) (i + 1) ∧ i < k := by
  obtain ⟨a1, a2, a3, a4, a5⟩ := h
  have hk : i < k := by
    by_cases c : k - i.toNat = 0
    · rw [c, Nat.pow_zero, Nat.mul_one] at a5
      omega
    · omega
  refine ⟨⟨by omega, by omega, by omega, by omega, ?_⟩, hk⟩
  rw [show k - i.toNat = (k - (i + 1).toNat) + 1 from by omega, Nat.pow_succ, ← Nat.mul_assoc] at a5
  omega
theorem A1_bd (o k : Nat) (hx : o * 2 ^ k < 18446744073709551616) (e s x i : Int) (h : A1 o k e s x i) : 0 ≤ s ∧ s < 18446744073709551616 := by
  obtain ⟨a1, a2, a3, a4, a5⟩ := h
  have h1 : o * 2 ^ (k - i.toNat) ≤ o * 2 ^ k := Nat.mul_le_mul_left _ (Nat.pow_le_pow_right (by decide) (by omega))
  omega

def A2D (o : Nat) (E s x : Int) : Prop := ∃ j : Nat, s = ((o * 2 ^ j : Nat) : Int) ∧ x = E - j ∧ s < 9007199254740992 ∧ -1074 ≤ x
theorem A2D_step (o : Nat) (E s x : Int) (h : A2D o E s x) (h1 : s < 4503599627370496) (h2 : -1074 < x) : A2D o E (s * 2) (x - 1) := by
  obtain ⟨j, a1, a2, a3, a4⟩ := h
  refine ⟨j + 1, ?_, by omega, by omega, by omega⟩
  rw [Nat.pow_succ, ← Nat.mul_assoc, a1]; omega
theorem A2D_end (o : Nat) (ho : o % 2 = 1) (h64 : o < 18446744073709551616) (E s x : Int) (h : A2D o E s x) (hc : ¬ s < 4503599627370496 ∨ ¬ -1074 < x) (hj : jokD o E = true) :
    s = ((sgD (jrD o E) : Nat) : Int) ∧ x = epD (jrD o E) ∧ kdD (jrD o E) = 0 ∧ x ≤ 971 := by
  obtain ⟨j, a1, a2, a3, a4⟩ := h
  obtain ⟨r1, r2, r3, r4⟩ := jrD_spec o (by omega) h64 E hj
  clear r1 r4
  obtain ⟨J, hJ⟩ : ∃ J, J = jrD o E := ⟨_, rfl⟩
  rw [← hJ] at r2 r3 ⊢
  have hpos : 0 < o * 2 ^ j := Nat.mul_pos (by omega) (Nat.two_pow_pos j)
  have hvv : o * 2 ^ j * 2 ^ (x + 1074).toNat = vlD J := by
    rw [r3, Nat.mul_assoc, ← Nat.pow_add, show j + (x + 1074).toNat = (E + 1074).toNat from by clear r3; omega]
  clear r3 hJ
  obtain ⟨M, hM⟩ : ∃ M : Nat, M = o * 2 ^ j := ⟨_, rfl⟩
  rw [← hM] at hvv hpos a1
  clear hM
  have hcc : 4503599627370496 ≤ M ∨ x = -1074 := by clear hvv; omega
  have hM2 : M < 9007199254740992 := by clear hvv; omega
  obtain ⟨u1, u2⟩ := uniqD J r2 M x hpos hM2 a4 hcc hvv
  have v5 := (vlsgD J r2).2.2.2.2
  have hkd : kdD J = 0 := by unfold kdD kdG; rw [if_pos r2]
  clear hvv
  exact ⟨by rw [u1]; exact a1, u2.symm, hkd, by rw [u2] at v5; exact v5⟩
theorem A2D_endx (o : Nat) (ho : o % 2 = 1) (h64 : o < 18446744073709551616) (E s x : Int) (h : A2D o E s x) (hj : jokD o E = false) (h2 : o < 9007199254740992) (h3 : -1074 ≤ E) : 971 < x := by
  obtain ⟨j, a1, a2, a3, a4⟩ := h
  obtain ⟨l0, l1, l2, l3⟩ := bitLen_bd o (by omega) h64
  have hP : (2 : Nat) ^ 53 = 9007199254740992 := by decide
  have hP1 : (2 : Nat) ^ 52 = 4503599627370496 := by decide
  have hlen : Lib.bitLen o ≤ 53 := by
    have : Lib.bitLen o - 1 < 53 := (Nat.pow_lt_pow_iff_right (by decide : 1 < 2)).1 (Nat.lt_of_le_of_lt l2 (by rw [hP]; exact h2))
    omega
  have hn : ¬ (E + Lib.bitLen o ≤ 1024) := fun hh => by
    have := (jokD_iff o E).2 ⟨hlen, h3, hh⟩
    rw [this] at hj; cases hj
  have hjl : Lib.bitLen o + j ≤ 53 := by
    have h4 : 2 ^ (Lib.bitLen o - 1 + j) ≤ o * 2 ^ j := by rw [Nat.pow_add]; exact Nat.mul_le_mul_right _ l2
    have : Lib.bitLen o - 1 + j < 53 := (Nat.pow_lt_pow_iff_right (by decide : 1 < 2)).1 (Nat.lt_of_le_of_lt h4 (by rw [hP]; omega))
    omega
  omega
theorem jlenD (o : Nat) (ho : o % 2 = 1) (h64 : o < 18446744073709551616) (E : Int) (h : 9007199254740992 ≤ o ∨ E < -1074 ∨ 1035 < E) : jokD o E = false := by
  obtain ⟨l0, l1, l2, l3⟩ := bitLen_bd o (by omega) h64
  have hP : (2 : Nat) ^ 53 = 9007199254740992 := by decide
  cases hj : jokD o E
  · rfl
  · obtain ⟨j1, j2, j3⟩ := (jokD_iff o E).1 hj
    have : o < 9007199254740992 := by rw [← hP]; exact Nat.lt_of_lt_of_le l3 (Nat.pow_le_pow_right (by decide) j1)
    omega

def A2S (o : Nat) (E s x : Int) : Prop := ∃ j : Nat, s = ((o * 2 ^ j : Nat) : Int) ∧ x = E - j ∧ s < 16777216 ∧ -149 ≤ x
theorem A2S_step (o : Nat) (E s x : Int) (h : A2S o E s x) (h1 : s < 8388608) (h2 : -149 < x) : A2S o E (s * 2) (x - 1) := by
  obtain ⟨j, a1, a2, a3, a4⟩ := h
  refine ⟨j + 1, ?_, by omega, by omega, by omega⟩
  rw [Nat.pow_succ, ← Nat.mul_assoc, a1]; omega
theorem A2S_end (o : Nat) (ho : o % 2 = 1) (h64 : o < 18446744073709551616) (E s x : Int) (h : A2S o E s x) (hc : ¬ s < 8388608 ∨ ¬ -149 < x) (hj : jokS o E = true) :
    s = ((sgS (jrS o E) : Nat) : Int) ∧ x = epS (jrS o E) ∧ kdS (jrS o E) = 0 ∧ x ≤ 104 := by
  obtain ⟨j, a1, a2, a3, a4⟩ := h
  obtain ⟨r1, r2, r3, r4⟩ := jrS_spec o (by omega) h64 E hj
  clear r1 r4
  obtain ⟨J, hJ⟩ : ∃ J, J = jrS o E := ⟨_, rfl⟩
  rw [← hJ] at r2 r3 ⊢
  have hpos : 0 < o * 2 ^ j := Nat.mul_pos (by omega) (Nat.two_pow_pos j)
  have hvv : o * 2 ^ j * 2 ^ (x + 149).toNat = vlS J := by
    rw [r3, Nat.mul_assoc, ← Nat.pow_add, show j + (x + 149).toNat = (E + 149).toNat from by clear r3; omega]
  clear r3 hJ
  obtain ⟨M, hM⟩ : ∃ M : Nat, M = o * 2 ^ j := ⟨_, rfl⟩
  rw [← hM] at hvv hpos a1
  clear hM
  have hcc : 8388608 ≤ M ∨ x = -149 := by clear hvv; omega
  have hM2 : M < 16777216 := by clear hvv; omega
  obtain ⟨u1, u2⟩ := uniqS J r2 M x hpos hM2 a4 hcc hvv
  have v5 := (vlsgS J r2).2.2.2.2
  have hkd : kdS J = 0 := by unfold kdS kdG; rw [if_pos r2]
  clear hvv
  exact ⟨by rw [u1]; exact a1, u2.symm, hkd, by rw [u2] at v5; exact v5⟩
theorem A2S_endx (o : Nat) (ho : o % 2 = 1) (h64 : o < 18446744073709551616) (E s x : Int) (h : A2S o E s x) (hj : jokS o E = false) (h2 : o < 16777216) (h3 : -149 ≤ E) : 104 < x := by
  obtain ⟨j, a1, a2, a3, a4⟩ := h
  obtain ⟨l0, l1, l2, l3⟩ := bitLen_bd o (by omega) h64
  have hP : (2 : Nat) ^ 24 = 16777216 := by decide
  have hP1 : (2 : Nat) ^ 23 = 8388608 := by decide
  have hlen : Lib.bitLen o ≤ 24 := by
    have : Lib.bitLen o - 1 < 24 := (Nat.pow_lt_pow_iff_right (by decide : 1 < 2)).1 (Nat.lt_of_le_of_lt l2 (by rw [hP]; exact h2))
    omega
  have hn : ¬ (E + Lib.bitLen o ≤ 128) := fun hh => by
    have := (jokS_iff o E).2 ⟨hlen, h3, hh⟩
    rw [this] at hj; cases hj
  have hjl : Lib.bitLen o + j ≤ 24 := by
    have h4 : 2 ^ (Lib.bitLen o - 1 + j) ≤ o * 2 ^ j := by rw [Nat.pow_add]; exact Nat.mul_le_mul_right _ l2
    have : Lib.bitLen o - 1 + j < 24 := (Nat.pow_lt_pow_iff_right (by decide : 1 < 2)).1 (Nat.lt_of_le_of_lt h4 (by rw [hP]; omega))
    omega
  omega
theorem jlenS (o : Nat) (ho : o % 2 = 1) (h64 : o < 18446744073709551616) (E : Int) (h : 16777216 ≤ o ∨ E < -149 ∨ 168 < E) : jokS o E = false := by
  obtain ⟨l0, l1, l2, l3⟩ := bitLen_bd o (by omega) h64
  have hP : (2 : Nat) ^ 24 = 16777216 := by decide
  cases hj : jokS o E
  · rfl
  · obtain ⟨j1, j2, j3⟩ := (jokS_iff o E).1 hj
    have : o < 16777216 := by rw [← hP]; exact Nat.lt_of_lt_of_le l3 (Nat.pow_le_pow_right (by decide) j1)
    omega
end Go.Proofs.YtbdeppdjelcioaaDoor
