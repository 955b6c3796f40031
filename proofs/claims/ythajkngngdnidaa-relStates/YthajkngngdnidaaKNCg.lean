import Derived.Test.YthajkngngdnidaaProg
import Derived.Test.YthajkngngdnidaaKXA0
import Derived.Test.YthajkngngdnidaaKQM
import Derived.Test.YthajkngngdnidaaKQA
import Derived.Test.YthajkngngdnidaaKXQU
import Derived.Test.YthajkngngdnidaaKEM
import Derived.Test.YthajkngngdnidaaKEN
import Derived.Test.YthajkngngdnidaaKEA
import Derived.Test.YthajkngngdnidaaKEB
import Derived.Test.YthajkngngdnidaaKEH
import Derived.Test.YthajkngngdnidaaKEK
import Derived.Test.YthajkngngdnidaaKEO
import Derived.Test.YthajkngngdnidaaKER
import Derived.Test.YthajkngngdnidaaKES
import Derived.Test.YthajkngngdnidaaKNRv
import Derived.Test.YthajkngngdnidaaKNRm
import Derived.Test.YthajkngngdnidaaKNRa
import Derived.Test.YthajkngngdnidaaKNRj
import Derived.Test.YthajkngngdnidaaKNCo
import Derived.Test.YthajkngngdnidaaKNCm
import Derived.Test.YthajkngngdnidaaKNCb
import Derived.Test.YthajkngngdnidaaKNCc
import Derived.WalkKit
import Derived.ProofKit
import Derived.RowKit3
import Derived.WalkSpells
import Derived.StillTactics
import Derived.Deep.QuietTactic
import Derived.BigQuiet
import Derived.Below
import Derived.Deep.OwnRows
import Derived.OwnWalk
import Derived.Laws.BitsAllLaws
import Derived.Laws.Slices
import Derived.Laws.Bits64b
import Derived.Laws.FloatArith
import Derived.Deep.RegionHeld3
namespace Go.Proofs.Ythajkngngdnidaa
open Go.RowKit

set_option linter.unusedVariables false
theorem hsB_iff (N : Bool) (P Q p : Nat) : hsB N P Q p = true ↔ (N = false ∧ P ≤ p ∧ p ≤ Q) := by
  unfold hsB; cases N <;> simp
theorem es0 (n P1 Q1 P2 Q2 : Nat) (N1 N2 : Bool) (m0 : n % 4 = 0) (m1 : P1 % 4 = 0) (m2 : Q1 % 4 = 0) (m3 : P2 % 4 = 0) (m4 : Q2 % 4 = 0) (n4 : 4 ≤ n) (b1 : P1 ≤ n) (b2 : Q1 ≤ n) (b3 : P2 ≤ n) (b4 : Q2 ≤ n) (v1 : N1 = false → P1 ≤ Q1 ∧ P1 < n ∧ 0 < Q1) (v2 : N2 = false → P2 ≤ Q2 ∧ P2 < n ∧ 0 < Q2) : (∀ p, 1 ≤ p → p < n → p % 2 = 0 → hsB N1 P1 Q1 p = true → ∃ t, 1 ≤ t ∧ t < n ∧ hsB N2 P2 Q2 t = true ∧ decide (p = t) = true) ↔ (N1 = true ∨ (N2 = false ∧ (P2 ≤ P1 ∧ Q1 ≤ Q2))) := by
  constructor
  · intro h
    rcases c1 : N1 with _ | _
    · right
      have v1 := v1 c1
      have pt0 : ∃ p, p = (if P1 = 0 then 2 else P1) := ⟨_, rfl⟩
      obtain ⟨p0, e0⟩ := pt0
      have hp0 : 1 ≤ p0 ∧ p0 < n ∧ p0 % 2 = 0 ∧ P1 ≤ p0 ∧ p0 ≤ Q1 := by rw [e0]; split <;> omega
      obtain ⟨t0, x0, y0, z0, r0⟩ := h p0 hp0.1 hp0.2.1 hp0.2.2.1 ((hsB_iff _ _ _ _).2 ⟨c1, hp0.2.2.2⟩)
      have z0 := (hsB_iff _ _ _ _).1 z0
      have r0 := of_decide_eq_true r0
      have pt1 : ∃ p, p = (if Q1 = n then n - 2 else Q1) := ⟨_, rfl⟩
      obtain ⟨p1, e1⟩ := pt1
      have hp1 : 1 ≤ p1 ∧ p1 < n ∧ p1 % 2 = 0 ∧ P1 ≤ p1 ∧ p1 ≤ Q1 := by rw [e1]; split <;> omega
      obtain ⟨t1, x1, y1, z1, r1⟩ := h p1 hp1.1 hp1.2.1 hp1.2.2.1 ((hsB_iff _ _ _ _).2 ⟨c1, hp1.2.2.2⟩)
      have z1 := (hsB_iff _ _ _ _).1 z1
      have r1 := of_decide_eq_true r1
      have d0 : (P1 = 0 → p0 = 2) ∧ (¬ P1 = 0 → p0 = P1) := by rw [e0]; constructor <;> intro h9 <;> simp [h9]
      have d1 : (Q1 = n → p1 = n - 2) ∧ (¬ Q1 = n → p1 = Q1) := by rw [e1]; constructor <;> intro h9 <;> simp [h9]
      exact ⟨z0.1, by omega⟩
    · exact Or.inl rfl
  · intro h p hp1 hp2 hp3 hp4
    have hp4 := (hsB_iff _ _ _ _).1 hp4
    rcases h with h | ⟨h1, h2⟩
    · rw [h] at hp4; cases hp4.1
    · have v2 := v2 h1
      have v1 := v1 hp4.1
      obtain ⟨t, et⟩ : ∃ t, t = p := ⟨_, rfl⟩
      have ht : 1 ≤ t ∧ t < n ∧ P2 ≤ t ∧ t ≤ Q2 ∧ (p = t) := by rw [et]; omega
      exact ⟨t, ht.1, ht.2.1, (hsB_iff _ _ _ _).2 ⟨h1, ht.2.2.1, ht.2.2.2.1⟩, decide_eq_true ht.2.2.2.2⟩
theorem es1 (n P1 Q1 P2 Q2 : Nat) (N1 N2 : Bool) (m0 : n % 4 = 0) (m1 : P1 % 4 = 0) (m2 : Q1 % 4 = 0) (m3 : P2 % 4 = 0) (m4 : Q2 % 4 = 0) (n4 : 4 ≤ n) (b1 : P1 ≤ n) (b2 : Q1 ≤ n) (b3 : P2 ≤ n) (b4 : Q2 ≤ n) (v1 : N1 = false → P1 ≤ Q1 ∧ P1 < n ∧ 0 < Q1) (v2 : N2 = false → P2 ≤ Q2 ∧ P2 < n ∧ 0 < Q2) : (∀ p, 1 ≤ p → p < n → p % 2 = 0 → hsB N1 P1 Q1 p = true → ∃ t, 1 ≤ t ∧ t < n ∧ hsB N2 P2 Q2 t = true ∧ decide (p ≤ t) = true) ↔ (N1 = true ∨ (N2 = false ∧ (Q1 ≤ Q2))) := by
  constructor
  · intro h
    rcases c1 : N1 with _ | _
    · right
      have v1 := v1 c1
      have pt0 : ∃ p, p = (if Q1 = n then n - 2 else Q1) := ⟨_, rfl⟩
      obtain ⟨p0, e0⟩ := pt0
      have hp0 : 1 ≤ p0 ∧ p0 < n ∧ p0 % 2 = 0 ∧ P1 ≤ p0 ∧ p0 ≤ Q1 := by rw [e0]; split <;> omega
      obtain ⟨t0, x0, y0, z0, r0⟩ := h p0 hp0.1 hp0.2.1 hp0.2.2.1 ((hsB_iff _ _ _ _).2 ⟨c1, hp0.2.2.2⟩)
      have z0 := (hsB_iff _ _ _ _).1 z0
      have r0 := of_decide_eq_true r0
      have d0 : (Q1 = n → p0 = n - 2) ∧ (¬ Q1 = n → p0 = Q1) := by rw [e0]; constructor <;> intro h9 <;> simp [h9]
      exact ⟨z0.1, by omega⟩
    · exact Or.inl rfl
  · intro h p hp1 hp2 hp3 hp4
    have hp4 := (hsB_iff _ _ _ _).1 hp4
    rcases h with h | ⟨h1, h2⟩
    · rw [h] at hp4; cases hp4.1
    · have v2 := v2 h1
      have v1 := v1 hp4.1
      obtain ⟨t, et⟩ : ∃ t, t = (if Q2 = n then n - 1 else Q2) := ⟨_, rfl⟩
      have ht : 1 ≤ t ∧ t < n ∧ P2 ≤ t ∧ t ≤ Q2 ∧ (p ≤ t) := by rw [et]; split <;> omega
      exact ⟨t, ht.1, ht.2.1, (hsB_iff _ _ _ _).2 ⟨h1, ht.2.2.1, ht.2.2.2.1⟩, decide_eq_true ht.2.2.2.2⟩
theorem es2 (n P1 Q1 P2 Q2 : Nat) (N1 N2 : Bool) (m0 : n % 4 = 0) (m1 : P1 % 4 = 0) (m2 : Q1 % 4 = 0) (m3 : P2 % 4 = 0) (m4 : Q2 % 4 = 0) (n4 : 4 ≤ n) (b1 : P1 ≤ n) (b2 : Q1 ≤ n) (b3 : P2 ≤ n) (b4 : Q2 ≤ n) (v1 : N1 = false → P1 ≤ Q1 ∧ P1 < n ∧ 0 < Q1) (v2 : N2 = false → P2 ≤ Q2 ∧ P2 < n ∧ 0 < Q2) : (∀ p, 1 ≤ p → p < n → p % 2 = 0 → hsB N1 P1 Q1 p = true → ∃ t, 1 ≤ t ∧ t < n ∧ hsB N2 P2 Q2 t = true ∧ decide (p < t) = true) ↔ (N1 = true ∨ (N2 = false ∧ (Q1 < Q2 ∨ Q2 = n))) := by
  constructor
  · intro h
    rcases c1 : N1 with _ | _
    · right
      have v1 := v1 c1
      have pt0 : ∃ p, p = (if Q1 = n then n - 2 else Q1) := ⟨_, rfl⟩
      obtain ⟨p0, e0⟩ := pt0
      have hp0 : 1 ≤ p0 ∧ p0 < n ∧ p0 % 2 = 0 ∧ P1 ≤ p0 ∧ p0 ≤ Q1 := by rw [e0]; split <;> omega
      obtain ⟨t0, x0, y0, z0, r0⟩ := h p0 hp0.1 hp0.2.1 hp0.2.2.1 ((hsB_iff _ _ _ _).2 ⟨c1, hp0.2.2.2⟩)
      have z0 := (hsB_iff _ _ _ _).1 z0
      have r0 := of_decide_eq_true r0
      have d0 : (Q1 = n → p0 = n - 2) ∧ (¬ Q1 = n → p0 = Q1) := by rw [e0]; constructor <;> intro h9 <;> simp [h9]
      exact ⟨z0.1, by omega⟩
    · exact Or.inl rfl
  · intro h p hp1 hp2 hp3 hp4
    have hp4 := (hsB_iff _ _ _ _).1 hp4
    rcases h with h | ⟨h1, h2⟩
    · rw [h] at hp4; cases hp4.1
    · have v2 := v2 h1
      have v1 := v1 hp4.1
      obtain ⟨t, et⟩ : ∃ t, t = (if Q2 = n then n - 1 else Q2) := ⟨_, rfl⟩
      have ht : 1 ≤ t ∧ t < n ∧ P2 ≤ t ∧ t ≤ Q2 ∧ (p < t) := by rw [et]; split <;> omega
      exact ⟨t, ht.1, ht.2.1, (hsB_iff _ _ _ _).2 ⟨h1, ht.2.2.1, ht.2.2.2.1⟩, decide_eq_true ht.2.2.2.2⟩
theorem es3 (n P1 Q1 P2 Q2 : Nat) (N1 N2 : Bool) (m0 : n % 4 = 0) (m1 : P1 % 4 = 0) (m2 : Q1 % 4 = 0) (m3 : P2 % 4 = 0) (m4 : Q2 % 4 = 0) (n4 : 4 ≤ n) (b1 : P1 ≤ n) (b2 : Q1 ≤ n) (b3 : P2 ≤ n) (b4 : Q2 ≤ n) (v1 : N1 = false → P1 ≤ Q1 ∧ P1 < n ∧ 0 < Q1) (v2 : N2 = false → P2 ≤ Q2 ∧ P2 < n ∧ 0 < Q2) : (∀ p, 1 ≤ p → p < n → p % 2 = 0 → hsB N1 P1 Q1 p = true → ∃ t, 1 ≤ t ∧ t < n ∧ hsB N2 P2 Q2 t = true ∧ decide (t < p) = true) ↔ (N1 = true ∨ (N2 = false ∧ (P2 < P1 ∨ P2 = 0))) := by
  constructor
  · intro h
    rcases c1 : N1 with _ | _
    · right
      have v1 := v1 c1
      have pt0 : ∃ p, p = (if P1 = 0 then 2 else P1) := ⟨_, rfl⟩
      obtain ⟨p0, e0⟩ := pt0
      have hp0 : 1 ≤ p0 ∧ p0 < n ∧ p0 % 2 = 0 ∧ P1 ≤ p0 ∧ p0 ≤ Q1 := by rw [e0]; split <;> omega
      obtain ⟨t0, x0, y0, z0, r0⟩ := h p0 hp0.1 hp0.2.1 hp0.2.2.1 ((hsB_iff _ _ _ _).2 ⟨c1, hp0.2.2.2⟩)
      have z0 := (hsB_iff _ _ _ _).1 z0
      have r0 := of_decide_eq_true r0
      have d0 : (P1 = 0 → p0 = 2) ∧ (¬ P1 = 0 → p0 = P1) := by rw [e0]; constructor <;> intro h9 <;> simp [h9]
      exact ⟨z0.1, by omega⟩
    · exact Or.inl rfl
  · intro h p hp1 hp2 hp3 hp4
    have hp4 := (hsB_iff _ _ _ _).1 hp4
    rcases h with h | ⟨h1, h2⟩
    · rw [h] at hp4; cases hp4.1
    · have v2 := v2 h1
      have v1 := v1 hp4.1
      obtain ⟨t, et⟩ : ∃ t, t = (if P2 = 0 then 1 else P2) := ⟨_, rfl⟩
      have ht : 1 ≤ t ∧ t < n ∧ P2 ≤ t ∧ t ≤ Q2 ∧ (t < p) := by rw [et]; split <;> omega
      exact ⟨t, ht.1, ht.2.1, (hsB_iff _ _ _ _).2 ⟨h1, ht.2.2.1, ht.2.2.2.1⟩, decide_eq_true ht.2.2.2.2⟩
theorem es4 (n P1 Q1 P2 Q2 : Nat) (N1 N2 : Bool) (m0 : n % 4 = 0) (m1 : P1 % 4 = 0) (m2 : Q1 % 4 = 0) (m3 : P2 % 4 = 0) (m4 : Q2 % 4 = 0) (n4 : 4 ≤ n) (b1 : P1 ≤ n) (b2 : Q1 ≤ n) (b3 : P2 ≤ n) (b4 : Q2 ≤ n) (v1 : N1 = false → P1 ≤ Q1 ∧ P1 < n ∧ 0 < Q1) (v2 : N2 = false → P2 ≤ Q2 ∧ P2 < n ∧ 0 < Q2) : (∀ p, 1 ≤ p → p < n → p % 2 = 0 → hsB N1 P1 Q1 p = true → ∃ t, 1 ≤ t ∧ t < n ∧ hsB N2 P2 Q2 t = true ∧ decide (t ≤ p) = true) ↔ (N1 = true ∨ (N2 = false ∧ (P2 ≤ P1))) := by
  constructor
  · intro h
    rcases c1 : N1 with _ | _
    · right
      have v1 := v1 c1
      have pt0 : ∃ p, p = (if P1 = 0 then 2 else P1) := ⟨_, rfl⟩
      obtain ⟨p0, e0⟩ := pt0
      have hp0 : 1 ≤ p0 ∧ p0 < n ∧ p0 % 2 = 0 ∧ P1 ≤ p0 ∧ p0 ≤ Q1 := by rw [e0]; split <;> omega
      obtain ⟨t0, x0, y0, z0, r0⟩ := h p0 hp0.1 hp0.2.1 hp0.2.2.1 ((hsB_iff _ _ _ _).2 ⟨c1, hp0.2.2.2⟩)
      have z0 := (hsB_iff _ _ _ _).1 z0
      have r0 := of_decide_eq_true r0
      have d0 : (P1 = 0 → p0 = 2) ∧ (¬ P1 = 0 → p0 = P1) := by rw [e0]; constructor <;> intro h9 <;> simp [h9]
      exact ⟨z0.1, by omega⟩
    · exact Or.inl rfl
  · intro h p hp1 hp2 hp3 hp4
    have hp4 := (hsB_iff _ _ _ _).1 hp4
    rcases h with h | ⟨h1, h2⟩
    · rw [h] at hp4; cases hp4.1
    · have v2 := v2 h1
      have v1 := v1 hp4.1
      obtain ⟨t, et⟩ : ∃ t, t = (if P2 = 0 then 1 else P2) := ⟨_, rfl⟩
      have ht : 1 ≤ t ∧ t < n ∧ P2 ≤ t ∧ t ≤ Q2 ∧ (t ≤ p) := by rw [et]; split <;> omega
      exact ⟨t, ht.1, ht.2.1, (hsB_iff _ _ _ _).2 ⟨h1, ht.2.2.1, ht.2.2.2.1⟩, decide_eq_true ht.2.2.2.2⟩
theorem ee1 (n P1 Q1 P2 Q2 : Nat) (N1 N2 : Bool) (m0 : n % 4 = 0) (m1 : P1 % 4 = 0) (m2 : Q1 % 4 = 0) (m3 : P2 % 4 = 0) (m4 : Q2 % 4 = 0) (n4 : 4 ≤ n) (b1 : P1 ≤ n) (b2 : Q1 ≤ n) (b3 : P2 ≤ n) (b4 : Q2 ≤ n) (v1 : N1 = false → P1 ≤ Q1 ∧ P1 < n ∧ 0 < Q1) (v2 : N2 = false → P2 ≤ Q2 ∧ P2 < n ∧ 0 < Q2) : (∀ p t, 1 ≤ p → p < n → 1 ≤ t → t < n → p % 2 = 0 → hsB N1 P1 Q1 p = true → hsB N2 P2 Q2 t = true → decide (p ≤ t) = true) ↔ (N1 = true ∨ N2 = true ∨ (Q1 ≤ P2)) := by
  constructor
  · intro h
    rcases c1 : N1 with _ | _
    · right
      rcases c2 : N2 with _ | _
      · right
        have v1 := v1 c1
        have v2 := v2 c2
        obtain ⟨p, ep⟩ : ∃ p, p = if Q1 = n then n - 2 else Q1 := ⟨_, rfl⟩
        obtain ⟨t, et⟩ : ∃ t, t = if P2 = 0 then 1 else P2 := ⟨_, rfl⟩
        have hp : 1 ≤ p ∧ p < n ∧ p % 2 = 0 ∧ P1 ≤ p ∧ p ≤ Q1 ∧ n - 2 ≤ p + (n - Q1) ∧ (Q1 = n → p = n - 2) ∧ (Q1 ≠ n → p = Q1) := by rw [ep]; split <;> omega
        have ht : 1 ≤ t ∧ t < n ∧ P2 ≤ t ∧ t ≤ Q2 ∧ (P2 = 0 → t = 1) ∧ (P2 ≠ 0 → t = P2) := by rw [et]; split <;> omega
        have r := of_decide_eq_true (h p t hp.1 hp.2.1 ht.1 ht.2.1 hp.2.2.1 ((hsB_iff _ _ _ _).2 ⟨c1, hp.2.2.2.1, hp.2.2.2.2.1⟩) ((hsB_iff _ _ _ _).2 ⟨c2, ht.2.2.1, ht.2.2.2.1⟩))
        clear h
        omega
      · exact Or.inl rfl
    · exact Or.inl rfl
  · intro h p t hp1 hp2 ht1 ht2 hp3 hp4 ht4
    have hp4 := (hsB_iff _ _ _ _).1 hp4
    have ht4 := (hsB_iff _ _ _ _).1 ht4
    rcases h with h | h | h
    · rw [h] at hp4; cases hp4.1
    · rw [h] at ht4; cases ht4.1
    · exact decide_eq_true (by omega)
theorem ee2 (n P1 Q1 P2 Q2 : Nat) (N1 N2 : Bool) (m0 : n % 4 = 0) (m1 : P1 % 4 = 0) (m2 : Q1 % 4 = 0) (m3 : P2 % 4 = 0) (m4 : Q2 % 4 = 0) (n4 : 4 ≤ n) (b1 : P1 ≤ n) (b2 : Q1 ≤ n) (b3 : P2 ≤ n) (b4 : Q2 ≤ n) (v1 : N1 = false → P1 ≤ Q1 ∧ P1 < n ∧ 0 < Q1) (v2 : N2 = false → P2 ≤ Q2 ∧ P2 < n ∧ 0 < Q2) : (∀ p t, 1 ≤ p → p < n → 1 ≤ t → t < n → p % 2 = 0 → hsB N1 P1 Q1 p = true → hsB N2 P2 Q2 t = true → decide (p < t) = true) ↔ (N1 = true ∨ N2 = true ∨ (Q1 < P2)) := by
  constructor
  · intro h
    rcases c1 : N1 with _ | _
    · right
      rcases c2 : N2 with _ | _
      · right
        have v1 := v1 c1
        have v2 := v2 c2
        obtain ⟨p, ep⟩ : ∃ p, p = if Q1 = n then n - 2 else Q1 := ⟨_, rfl⟩
        obtain ⟨t, et⟩ : ∃ t, t = if P2 = 0 then 1 else P2 := ⟨_, rfl⟩
        have hp : 1 ≤ p ∧ p < n ∧ p % 2 = 0 ∧ P1 ≤ p ∧ p ≤ Q1 ∧ n - 2 ≤ p + (n - Q1) ∧ (Q1 = n → p = n - 2) ∧ (Q1 ≠ n → p = Q1) := by rw [ep]; split <;> omega
        have ht : 1 ≤ t ∧ t < n ∧ P2 ≤ t ∧ t ≤ Q2 ∧ (P2 = 0 → t = 1) ∧ (P2 ≠ 0 → t = P2) := by rw [et]; split <;> omega
        have r := of_decide_eq_true (h p t hp.1 hp.2.1 ht.1 ht.2.1 hp.2.2.1 ((hsB_iff _ _ _ _).2 ⟨c1, hp.2.2.2.1, hp.2.2.2.2.1⟩) ((hsB_iff _ _ _ _).2 ⟨c2, ht.2.2.1, ht.2.2.2.1⟩))
        clear h
        omega
      · exact Or.inl rfl
    · exact Or.inl rfl
  · intro h p t hp1 hp2 ht1 ht2 hp3 hp4 ht4
    have hp4 := (hsB_iff _ _ _ _).1 hp4
    have ht4 := (hsB_iff _ _ _ _).1 ht4
    rcases h with h | h | h
    · rw [h] at hp4; cases hp4.1
    · rw [h] at ht4; cases ht4.1
    · exact decide_eq_true (by omega)
theorem ee5 (n P1 Q1 P2 Q2 : Nat) (N1 N2 : Bool) (m0 : n % 4 = 0) (m1 : P1 % 4 = 0) (m2 : Q1 % 4 = 0) (m3 : P2 % 4 = 0) (m4 : Q2 % 4 = 0) (n4 : 4 ≤ n) (b1 : P1 ≤ n) (b2 : Q1 ≤ n) (b3 : P2 ≤ n) (b4 : Q2 ≤ n) (v1 : N1 = false → P1 ≤ Q1 ∧ P1 < n ∧ 0 < Q1) (v2 : N2 = false → P2 ≤ Q2 ∧ P2 < n ∧ 0 < Q2) : (∀ p t, 1 ≤ p → p < n → 1 ≤ t → t < n → p % 2 = 0 → hsB N1 P1 Q1 p = true → hsB N2 P2 Q2 t = true → decide (p ≠ t) = true) ↔ (N1 = true ∨ N2 = true ∨ (Q1 < P2 ∨ Q2 < P1)) := by
  constructor
  · intro h
    rcases c1 : N1 with _ | _
    · right
      rcases c2 : N2 with _ | _
      · right
        have v1 := v1 c1
        have v2 := v2 c2
        by_cases c3 : Q1 < P2 ∨ Q2 < P1
        · exact c3
        · exfalso
          obtain ⟨p, ep⟩ : ∃ p, p = if P1 ≤ P2 then (if P2 = 0 then 2 else P2) else P1 := ⟨_, rfl⟩
          have hp : 1 ≤ p ∧ p < n ∧ p % 2 = 0 ∧ P1 ≤ p ∧ p ≤ Q1 ∧ P2 ≤ p ∧ p ≤ Q2 := by
            rw [ep]; repeat' split
            all_goals omega
          have r := of_decide_eq_true (h p p hp.1 hp.2.1 hp.1 hp.2.1 hp.2.2.1 ((hsB_iff _ _ _ _).2 ⟨c1, hp.2.2.2.1, hp.2.2.2.2.1⟩) ((hsB_iff _ _ _ _).2 ⟨c2, hp.2.2.2.2.2⟩))
          exact r rfl
      · exact Or.inl rfl
    · exact Or.inl rfl
  · intro h p t hp1 hp2 ht1 ht2 hp3 hp4 ht4
    have hp4 := (hsB_iff _ _ _ _).1 hp4
    have ht4 := (hsB_iff _ _ _ _).1 ht4
    rcases h with h | h | h
    · rw [h] at hp4; cases hp4.1
    · rw [h] at ht4; cases ht4.1
    · exact decide_eq_true (by omega)

theorem pl_val {z : Nat → Int} {cs : List Int} (h : Cut z cs) {j : Nat} (hj : j < 4) : (z j = -9218868437227405312 ∧ plN cs (z j) = 0) ∨ (z j = 9218868437227405312 ∧ plN cs (z j) = 4 * (cs.length + 1)) ∨ (Fin9 (z j) ∧ ∃ i, i < cs.length ∧ cs.getD i 0 = z j ∧ plN cs (z j) = 4 * (i + 1)) := by
  by_cases c1 : z j = -9218868437227405312
  · exact Or.inl ⟨c1, by unfold plN; rw [if_pos c1]⟩
  by_cases c2 : z j = 9218868437227405312
  · refine Or.inr (Or.inl ⟨c2, ?_⟩)
    unfold plN
    rw [if_neg c1, ix_none]
    intro i hi e
    obtain ⟨k, _, e1, e2⟩ := h.2.2.1 i hi
    unfold Fin9 at e2
    omega
  · refine Or.inr (Or.inr ⟨⟨c2, c1⟩, ?_⟩)
    obtain ⟨i, hi, e⟩ := h.2.2.2 j hj ⟨c2, c1⟩
    refine ⟨i, hi, e, ?_⟩
    unfold plN
    rw [if_neg c1, ix_hit cs (z j) i hi (fun k hk e2 => by have := h.2.1 k i hk hi; omega) e]
theorem pl_lt {z : Nat → Int} {cs : List Int} (h : Cut z cs) (hz : ∀ j, j < 4 → BdZ (z j)) {j k : Nat} (hj : j < 4) (hk : k < 4) : z j < z k ↔ plN cs (z j) < plN cs (z k) := by
  have b1 := hz j hj
  have b2 := hz k hk
  unfold BdZ at b1 b2
  rcases pl_val h hj with ⟨a1, a2⟩ | ⟨a1, a2⟩ | ⟨a1, i, a2, a3, a4⟩ <;> rcases pl_val h hk with ⟨d1, d2⟩ | ⟨d1, d2⟩ | ⟨d1, i', d2, d3, d4⟩
  all_goals (try unfold Fin9 at a1)
  all_goals (try unfold Fin9 at d1)
  all_goals (try omega)
  rcases Nat.lt_trichotomy i i' with g | g | g
  · have := h.2.1 i i' g d2; omega
  · subst g; omega
  · have := h.2.1 i' i g a2; omega
theorem pl_facts {z : Nat → Int} {cs : List Int} (h : Cut z cs) (hz : ∀ j, j < 4 → BdZ (z j)) {j : Nat} (hj : j < 4) : plN cs (z j) % 4 = 0 ∧ plN cs (z j) ≤ 4 * (cs.length + 1) ∧ (z j = -9218868437227405312 ↔ plN cs (z j) = 0) ∧ (z j = 9218868437227405312 ↔ plN cs (z j) = 4 * (cs.length + 1)) := by
  rcases pl_val h hj with ⟨a1, a2⟩ | ⟨a1, a2⟩ | ⟨a1, i, a2, a3, a4⟩
  · omega
  · omega
  · unfold Fin9 at a1; omega
/-- two rows that stand for two intervals -/
def RowOk (L1 H1 L2 H2 : Int) (P1 Q1 P2 Q2 n : Nat) : Prop := n % 4 = 0 ∧ 4 ≤ n ∧ n ≤ 20 ∧ (P1 % 4 = 0 ∧ P1 ≤ n ∧ (L1 = -9218868437227405312 ↔ P1 = 0) ∧ (L1 = 9218868437227405312 ↔ P1 = n)) ∧ (Q1 % 4 = 0 ∧ Q1 ≤ n ∧ (H1 = -9218868437227405312 ↔ Q1 = 0) ∧ (H1 = 9218868437227405312 ↔ Q1 = n)) ∧ (P2 % 4 = 0 ∧ P2 ≤ n ∧ (L2 = -9218868437227405312 ↔ P2 = 0) ∧ (L2 = 9218868437227405312 ↔ P2 = n)) ∧ (Q2 % 4 = 0 ∧ Q2 ≤ n ∧ (H2 = -9218868437227405312 ↔ Q2 = 0) ∧ (H2 = 9218868437227405312 ↔ Q2 = n)) ∧ (L1 < H1 ↔ P1 < Q1) ∧ (H1 < L1 ↔ Q1 < P1) ∧ (L2 < H2 ↔ P2 < Q2) ∧ (H2 < L2 ↔ Q2 < P2) ∧ (L1 < L2 ↔ P1 < P2) ∧ (L2 < L1 ↔ P2 < P1) ∧ (H1 < H2 ↔ Q1 < Q2) ∧ (H2 < H1 ↔ Q2 < Q1) ∧ (L1 < H2 ↔ P1 < Q2) ∧ (H2 < L1 ↔ Q2 < P1) ∧ (L2 < H1 ↔ P2 < Q1) ∧ (H1 < L2 ↔ Q1 < P2)
theorem row_ok (z : Nat → Int) (cs : List Int) (h : Cut z cs) (hz : ∀ j, j < 4 → BdZ (z j)) : RowOk (z 0) (z 1) (z 2) (z 3) (plN cs (z 0)) (plN cs (z 1)) (plN cs (z 2)) (plN cs (z 3)) (4 * (cs.length + 1)) := by
  have hl := h.1
  refine ⟨by omega, by omega, by omega, pl_facts h hz (by omega), pl_facts h hz (by omega), pl_facts h hz (by omega), pl_facts h hz (by omega), pl_lt h hz (by omega) (by omega), pl_lt h hz (by omega) (by omega), pl_lt h hz (by omega) (by omega), pl_lt h hz (by omega) (by omega), pl_lt h hz (by omega) (by omega), pl_lt h hz (by omega) (by omega), pl_lt h hz (by omega) (by omega), pl_lt h hz (by omega) (by omega), pl_lt h hz (by omega) (by omega), pl_lt h hz (by omega) (by omega), pl_lt h hz (by omega) (by omega), pl_lt h hz (by omega) (by omega)⟩
theorem RowOk.swap {L1 H1 L2 H2 : Int} {P1 Q1 P2 Q2 n : Nat} (h : RowOk L1 H1 L2 H2 P1 Q1 P2 Q2 n) : RowOk L2 H2 L1 H1 P2 Q2 P1 Q1 n := by
  obtain ⟨a1, a2, a3, a4, a5, a6, a7, b1, b2, b3, b4, b5, b6, b7, b8, c1, c2, c3, c4⟩ := h
  exact ⟨a1, a2, a3, a6, a7, a4, a5, b3, b4, b1, b2, b6, b5, b8, b7, c3, c4, c1, c2⟩
end Go.Proofs.Ythajkngngdnidaa
