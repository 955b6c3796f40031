import Derived.Test.YtgkdncjdekjkpaaDoorProg
import Derived.Test.YtgkdncjdekjkpaaDoorKA
import Derived.Test.YtgkdncjdekjkpaaDoorKA2
import Derived.Test.YtgkdncjdekjkpaaDoorKXM
import Derived.WalkKit
import Derived.ProofKit
import Derived.RowKit3
import Derived.WalkSpells
import Derived.StillTactics
import Derived.Deep.QuietTactic
import Derived.BigQuiet
import Derived.Below
import Derived.Deep.OwnRows
namespace Go.Proofs.YtgkdncjdekjkpaaDoor
open Go.RowKit

def gds : List Int := List.replicate 80 2882343476
theorem gds_len : gds.length = 80 := List.length_replicate
theorem rep_getD (n : Nat) (x : Int) (j : Nat) : (List.replicate n x).getD j 0 = if j < n then x else 0 := by
  by_cases c : j < n
  · simp [List.getD, c]
  · simp [List.getD, c]
theorem Wd_rep (n : Nat) (x : Int) (h : 0 ≤ x ∧ x < 4294967296) : Wd (List.replicate n x) := by
  intro j
  rw [rep_getD]
  split
  · exact h
  · omega
theorem Wd_gds : Wd gds := Wd_rep 80 2882343476 (by omega)
theorem gds_getD (j : Nat) (h : j < 80) : gds.getD j 0 = 2882343476 := by
  have := rep_getD 80 2882343476 j
  rw [if_pos h] at this
  exact this
/-- all blocks but g are as they were -/
def Kb (g : Nat) (w w' : World) : Prop := w'.os = w.os ∧ w'.tape = w.tape ∧ w'.output = w.output ∧ w.heap.size ≤ w'.heap.size ∧ ∀ k, k < w.heap.size → k ≠ g → w'.heap[k]? = w.heap[k]?
theorem Kb.refl (g : Nat) (w : World) : Kb g w w := ⟨rfl, rfl, rfl, Nat.le_refl _, fun _ _ _ => rfl⟩
theorem Kb.setCell {g : Nat} {w w' : World} (h : Kb g w w') (j : Nat) (v : Value) : Kb g w (w'.setCell ⟨g, j, none⟩ v) := by
  obtain ⟨h1, h2, h3, h4, h5⟩ := h
  refine ⟨h1, h2, h3, by simpa [World.setCell] using h4, fun k hk hne => ?_⟩
  rw [← h5 k hk hne]
  simp only [World.setCell, Array.getElem?_modify]
  rw [if_neg (by omega)]
theorem Kb.kp {g : Nat} {a w w' : World} (h : Kb g w w') (k : Kp a w) (hg : a.heap.size ≤ g) : Kp a w' :=
  ⟨h.1.trans k.os, h.2.1.trans k.tape, h.2.2.1.trans k.output, Nat.le_trans k.size h.2.2.2.1, fun i hi => (h.2.2.2.2 i (Nat.lt_of_lt_of_le hi k.size) (by omega)).trans (Below.block k i hi)⟩
theorem Kb.arr {g : Nat} {w w' : World} (h : Kb g w w') {b off : Nat} {v : Value} (hne : b ≠ g) (hc : w.cell? ⟨b, off, none⟩ = some v) : w'.cell? ⟨b, off, none⟩ = some v := by
  have e := h.2.2.2.2 b (cell_lt hc) hne
  rw [World.cell?_of_block (w := w) (a := ⟨b, off, none⟩) e]; exact hc
end Go.Proofs.YtgkdncjdekjkpaaDoor
