import Derived.Test.YthajkngngdnidaaProg
import Derived.Test.YthajkngngdnidaaKXA0
import Derived.Test.YthajkngngdnidaaKQM
import Derived.Test.YthajkngngdnidaaKQA
import Derived.Test.YthajkngngdnidaaKXQU
import Derived.Test.YthajkngngdnidaaKEM
import Derived.Test.YthajkngngdnidaaKEN
import Derived.Test.YthajkngngdnidaaKEA
import Derived.Test.YthajkngngdnidaaKEB
import Derived.Test.YthajkngngdnidaaKEH
import Derived.Test.YthajkngngdnidaaKEK
import Derived.Test.YthajkngngdnidaaKEO
import Derived.Test.YthajkngngdnidaaKER
import Derived.Test.YthajkngngdnidaaKES
import Derived.Test.YthajkngngdnidaaKNRv
import Derived.Test.YthajkngngdnidaaKNRm
import Derived.Test.YthajkngngdnidaaKNRa
import Derived.WalkKit
import Derived.ProofKit
import Derived.RowKit3
import Derived.WalkSpells
import Derived.StillTactics
import Derived.Deep.QuietTactic
import Derived.BigQuiet
import Derived.Below
import Derived.Deep.OwnRows
import Derived.OwnWalk
import Derived.Laws.BitsAllLaws
import Derived.Laws.Slices
import Derived.Laws.Bits64b
import Derived.Laws.FloatArith
import Derived.Deep.RegionHeld3
namespace Go.Proofs.Ythajkngngdnidaa
open Go.RowKit

def Fin9 (x : Int) : Prop := x ≠ 9218868437227405312 ∧ x ≠ -9218868437227405312
/-- some of the ends that are numbers, rising, the least ones -/
def Cst (z : Nat → Int) (cs : List Int) : Prop := cs.length ≤ 4 ∧ (∀ i j, i < j → j < cs.length → cs.getD i 0 < cs.getD j 0) ∧ (∀ i, i < cs.length → ∃ j, j < 4 ∧ cs.getD i 0 = z j ∧ Fin9 (z j)) ∧ (∀ j, j < 4 → Fin9 (z j) → (∃ i, i < cs.length ∧ cs.getD i 0 = z j) ∨ (∀ i, i < cs.length → cs.getD i 0 < z j))
/-- all of them -/
def Cut (z : Nat → Int) (cs : List Int) : Prop := cs.length ≤ 4 ∧ (∀ i j, i < j → j < cs.length → cs.getD i 0 < cs.getD j 0) ∧ (∀ i, i < cs.length → ∃ j, j < 4 ∧ cs.getD i 0 = z j ∧ Fin9 (z j)) ∧ (∀ j, j < 4 → Fin9 (z j) → ∃ i, i < cs.length ∧ cs.getD i 0 = z j)
/-- an end that may come next -/
def Cand (z : Nat → Int) (cs : List Int) (j : Nat) : Prop := Fin9 (z j) ∧ (cs.length = 0 ∨ cs.getD (cs.length - 1) 0 < z j)
theorem Cst.nil (z : Nat → Int) : Cst z [] := ⟨by simp, by simp, by simp, fun j _ _ => Or.inr (by simp)⟩
theorem cand_all {z : Nat → Int} {cs : List Int} (h : Cst z cs) {j : Nat} : Cand z cs j ↔ (Fin9 (z j) ∧ ∀ i, i < cs.length → cs.getD i 0 < z j) := by
  constructor
  · rintro ⟨h1, h2⟩
    refine ⟨h1, fun i hi => ?_⟩
    rcases h2 with h2 | h2
    · omega
    · by_cases c : i = cs.length - 1
      · rw [c]; exact h2
      · have := h.2.1 i (cs.length - 1) (by omega) (by omega)
        omega
  · rintro ⟨h1, h2⟩
    refine ⟨h1, ?_⟩
    by_cases c : cs.length = 0
    · exact Or.inl c
    · exact Or.inr (h2 _ (by omega))
theorem getD_push_lt (cs : List Int) (x : Int) (i : Nat) (h : i < cs.length) : (cs ++ [x]).getD i 0 = cs.getD i 0 := by
  simp [List.getD, List.getElem?_append_left h]
theorem getD_push_eq (cs : List Int) (x : Int) : (cs ++ [x]).getD cs.length 0 = x := by
  simp [List.getD]
theorem Cst.step {z : Nat → Int} {cs : List Int} (h : Cst z cs) (hl : cs.length < 4) {b : Nat} (hb : b < 4) (hc : Cand z cs b) (hm : ∀ j, j < 4 → Cand z cs j → z b ≤ z j) : Cst z (cs ++ [z b]) := by
  have hc' := (cand_all h).1 hc
  have hlen : (cs ++ [z b]).length = cs.length + 1 := by simp
  refine ⟨by omega, ?_, ?_, ?_⟩
  · intro i j hij hj
    rw [hlen] at hj
    rw [getD_push_lt cs _ i (by omega)]
    by_cases c : j = cs.length
    · rw [c, getD_push_eq]; exact hc'.2 i (by omega)
    · rw [getD_push_lt cs _ j (by omega)]; exact h.2.1 i j hij (by omega)
  · intro i hi
    rw [hlen] at hi
    by_cases c : i = cs.length
    · rw [c, getD_push_eq]; exact ⟨b, hb, rfl, hc.1⟩
    · rw [getD_push_lt cs _ i (by omega)]; exact h.2.2.1 i (by omega)
  · intro j hj hf
    rw [hlen]
    rcases h.2.2.2 j hj hf with ⟨i, h1, h2⟩ | h1
    · exact Or.inl ⟨i, by omega, by rw [getD_push_lt cs _ i h1]; exact h2⟩
    · have hcj : Cand z cs j := (cand_all h).2 ⟨hf, h1⟩
      have hle := hm j hj hcj
      by_cases e : z b = z j
      · exact Or.inl ⟨cs.length, by omega, by rw [getD_push_eq]; exact e⟩
      · refine Or.inr (fun i hi => ?_)
        by_cases c : i = cs.length
        · rw [c, getD_push_eq]; omega
        · rw [getD_push_lt cs _ i (by omega)]; exact h1 i (by omega)
theorem Cst.done {z : Nat → Int} {cs : List Int} (h : Cst z cs) (hn : ∀ j, j < 4 → ¬ Cand z cs j) : Cut z cs := by
  refine ⟨h.1, h.2.1, h.2.2.1, fun j hj hf => ?_⟩
  rcases h.2.2.2 j hj hf with h1 | h1
  · exact h1
  · exact absurd ((cand_all h).2 ⟨hf, h1⟩) (hn j hj)
theorem Cst.four {z : Nat → Int} {cs : List Int} (h : Cst z cs) (hl : ¬ cs.length < 4) : Cut z cs := by
  refine h.done (fun j hj hc => ?_)
  have h4 : cs.length = 4 := by have := h.1; omega
  have hc' := ((cand_all h).1 hc).2
  obtain ⟨j0, a0, e0, _⟩ := h.2.2.1 0 (by omega)
  obtain ⟨j1, a1, e1, _⟩ := h.2.2.1 1 (by omega)
  obtain ⟨j2, a2, e2, _⟩ := h.2.2.1 2 (by omega)
  obtain ⟨j3, a3, e3, _⟩ := h.2.2.1 3 (by omega)
  have s01 := h.2.1 0 1 (by omega) (by omega)
  have s12 := h.2.1 1 2 (by omega) (by omega)
  have s23 := h.2.1 2 3 (by omega) (by omega)
  have s3 := hc' 3 (by omega)
  rw [e0, e1] at s01
  rw [e1, e2] at s12
  rw [e2, e3] at s23
  rw [e3] at s3
  have n01 : j0 ≠ j1 := by intro e; rw [e] at s01; omega
  have n12 : j1 ≠ j2 := by intro e; rw [e] at s12; omega
  have n23 : j2 ≠ j3 := by intro e; rw [e] at s23; omega
  have n3 : j3 ≠ j := by intro e; rw [e] at s3; omega
  have n02 : j0 ≠ j2 := by intro e; rw [e] at s01; omega
  have n13 : j1 ≠ j3 := by intro e; rw [e] at s12; omega
  have n03 : j0 ≠ j3 := by intro e; rw [e] at s01; omega
  have n2 : j2 ≠ j := by intro e; rw [e] at s23; omega
  have n1 : j1 ≠ j := by intro e; rw [e] at s12; omega
  have n0 : j0 ≠ j := by intro e; rw [e] at s01; omega
  omega
end Go.Proofs.Ythajkngngdnidaa
