import Derived.Test.YtipedmnipolmeaaKXQa
namespace Go.Proofs.Ytipedmnipolmeaa
open Go.RowKit
open Go
namespace X7
set_option linter.unusedVariables false
def R5 (t : I5) : Prop := (-9223372036854775808 ≤ t.1 ∧ t.1 < 9223372036854775808) ∧ (-9223372036854775808 ≤ t.2.1 ∧ t.2.1 < 9223372036854775808) ∧ (-9223372036854775808 ≤ t.2.2.1 ∧ t.2.2.1 < 9223372036854775808) ∧ (-9223372036854775808 ≤ t.2.2.2.1 ∧ t.2.2.2.1 < 9223372036854775808) ∧ (-9223372036854775808 ≤ t.2.2.2.2 ∧ t.2.2.2.2 < 9223372036854775808)
def W5 (L : List I5) : Prop := ∀ j, j < L.length → R5 (L.getD j D5)
def Wq (ps : List (Nat × Nat)) : Prop := ∀ j, (ps.getD j (0, 0)).1 < 18446744073709551616 ∧ (ps.getD j (0, 0)).2 < 18446744073709551616
def allV (ps : List (Nat × Nat)) : Bool := ps.all (fun q => Fq.vld q.1 q.2)
theorem allV_true {ps : List (Nat × Nat)} (h : ∀ k, k < ps.length → Fq.vld (ps.getD k (0, 0)).1 (ps.getD k (0, 0)).2 = true) : allV ps = true := by
  unfold allV
  rw [List.all_eq_true]
  intro q hq
  obtain ⟨k, hk, rfl⟩ := List.getElem_of_mem hq
  have := h k hk
  simpa [List.getD, hk] using this
theorem allV_false {ps : List (Nat × Nat)} {k : Nat} (hk : k < ps.length) (h : Fq.vld (ps.getD k (0, 0)).1 (ps.getD k (0, 0)).2 = false) : allV ps = false := by
  unfold allV
  rw [List.all_eq_false]
  refine ⟨ps[k], List.getElem_mem hk, ?_⟩
  have e : ps.getD k (0, 0) = ps[k] := by simp [List.getD, hk]
  rw [e] at h
  simp [h]
def scan (f : Nat → Int) : Nat → Int × Int
  | 0 => (0, 0)
  | k + 1 => if (scan f k).2 = 0 then (if f k = 0 then (0, 0) else ((k : Int), f k)) else scan f k
theorem scan_ok {f : Nat → Int} : ∀ k, (∀ j, j < k → f j = 0) → scan f k = (0, 0)
  | 0, _ => rfl
  | k + 1, h => by
    have e := scan_ok k (fun j hj => h j (by omega))
    unfold scan
    rw [e, if_pos rfl, if_pos (h k (by omega))]
theorem scan_bad {f : Nat → Int} {i : Nat} (hi : ∀ j, j < i → f j = 0) (hb : f i ≠ 0) : ∀ k, i < k → scan f k = ((i : Int), f i)
  | 0, h => by omega
  | k + 1, h => by
    by_cases c : k = i
    · subst c
      unfold scan
      rw [scan_ok k hi, if_pos rfl, if_neg hb]
    · have e := scan_bad hi hb k (by omega)
      unfold scan
      rw [e, if_neg hb]
def lnAt (V : Int) (c : Nat) (L : List I5) (i : Nat) : Int := lnE (V + i - 1) c (L.getD i D5).1 (L.getD i D5).2.1 (L.getD i D5).2.2.1 (L.getD i D5).2.2.2.1 (L.getD i D5).2.2.2.2
def chk (V : Int) (ps : List (Nat × Nat)) (L : List I5) : Int × Int :=
  if ¬ (0 ≤ V ∧ V ≤ 32) then (0, 160) else if ¬ (ps.length ≤ 256 ∧ allV ps = true) then (0, 161) else if ¬ (1 ≤ L.length ∧ L.length ≤ 1024) then (0, 162) else scan (lnAt V ps.length L) L.length
theorem chk_v {V : Int} {ps : List (Nat × Nat)} {L : List I5} (h : ¬ (0 ≤ V ∧ V ≤ 32)) : chk V ps L = (0, 160) := by unfold chk; rw [if_pos h]
theorem chk_c {V : Int} {ps : List (Nat × Nat)} {L : List I5} (h : 0 ≤ V ∧ V ≤ 32) (h2 : ¬ (ps.length ≤ 256 ∧ allV ps = true)) : chk V ps L = (0, 161) := by unfold chk; rw [if_neg (not_not_intro h), if_pos h2]
theorem chk_k {V : Int} {ps : List (Nat × Nat)} {L : List I5} (h : 0 ≤ V ∧ V ≤ 32) (h2 : ps.length ≤ 256 ∧ allV ps = true) (h3 : ¬ (1 ≤ L.length ∧ L.length ≤ 1024)) : chk V ps L = (0, 162) := by unfold chk; rw [if_neg (not_not_intro h), if_neg (not_not_intro h2), if_pos h3]
theorem chk_l {V : Int} {ps : List (Nat × Nat)} {L : List I5} (h : 0 ≤ V ∧ V ≤ 32) (h2 : ps.length ≤ 256 ∧ allV ps = true) (h3 : 1 ≤ L.length ∧ L.length ≤ 1024) : chk V ps L = scan (lnAt V ps.length L) L.length := by unfold chk; rw [if_neg (not_not_intro h), if_neg (not_not_intro h2), if_neg (not_not_intro h3)]
end X7
end Go.Proofs.Ytipedmnipolmeaa
