import Derived.Test.YtjkbapnndoldgaaKXM
import Derived.Test.YtjkbapnndoldgaaProg
import Derived.Below
import Derived.BigQuiet
import Derived.Deep.OwnRows
import Derived.Deep.QuietTactic
import Derived.OwnWalk
import Derived.ProofKit
import Derived.RowKit3
import Derived.StillTactics
import Derived.WalkKit
import Derived.WalkSpells
namespace Go.Proofs.Ytjkbapnndoldgaa
open Go.RowKit

def Kp (w w' : World) : Prop := Below w.heap.size w w'
theorem Kp.refl (w : World) : Kp w w := Below.refl _ _
theorem Kp.trans {a b c : World} (h : Kp a b) (k : Kp b c) : Kp a c := Below.trans h (Below.mono k h.size)
theorem Kp.drew {a b : World} (h : Kp a b) : Kp a b.drew := Below.drew h
theorem Kp.drewN {a b : World} (n : Nat) (h : Kp a b) : Kp a (b.drewN n) := by
  induction n with
  | zero => exact h
  | succ n ih => exact Below.drew ih
theorem Kp.alloc {a b : World} (h : Kp a b) (o : Obj) : Kp a (b.alloc o) := Below.alloc h h.size o
theorem Kp.setCell {a b : World} (h : Kp a b) {p : Addr} (hp : a.heap.size ≤ p.block) (u : Value) : Kp a (b.setCell p u) := Below.setCell h hp u
theorem cell_lt {w : World} {b o : Nat} {v : Value} (h : w.cell? ⟨b, o, none⟩ = some v) : b < w.heap.size := by
  unfold World.cell? at h
  by_cases c : b < w.heap.size
  · exact c
  · rw [Array.getElem?_eq_none (by simpa using c)] at h; simp at h
def Arr (w : World) (p : Option Addr) (xs : List Int) : Prop := xs = [] ∨ ∃ b off, p = some ⟨b, off, none⟩ ∧ ∀ j, j < xs.length → w.cell? ⟨b, off + j, none⟩ = some (.int .u32 (xs.getD j 0))
theorem Arr.at {w : World} {p : Option Addr} {xs : List Int} (h : Arr w p xs) {k : Nat} (hk : k < xs.length) : ∃ b off, p = some ⟨b, off, none⟩ ∧ ∀ j, j < xs.length → w.cell? ⟨b, off + j, none⟩ = some (.int .u32 (xs.getD j 0)) := by
  rcases h with h | h
  · subst h; simp at hk
  · exact h
open Go
def Rw (w : World) (g n : Nat) (xs : List Int) : Prop := w.rowIs g 22 n (fun j => .int .u32 (xs.getD j 0))

def Own (w : World) (base : Nat) (v : Value) (xs : List Int) : Prop := w.ownsRow base 22 1 v xs.length (xs.map (Value.int .u32))
theorem Own.nil (w : World) (base : Nat) : Own w base (.slice none 0 0) [] := World.ownsRow_nil _ _ _ _
theorem Own.mono {w : World} {base base' : Nat} {v : Value} {xs : List Int} (h : Own w base v xs) (hb : base' ≤ base) : Own w base' v xs := by
  refine ⟨h.1, ?_⟩
  rcases h.2 with h' | ⟨g, cap, cur, h1, h2, h3⟩
  · exact Or.inl h'
  · exact Or.inr ⟨g, cap, cur, h1, Nat.le_trans hb h2, h3⟩
def Kb (g : Nat) (w w' : World) : Prop := w'.os = w.os ∧ w'.tape = w.tape ∧ w'.output = w.output ∧ w.heap.size ≤ w'.heap.size ∧ ∀ k, k < w.heap.size → k ≠ g → w'.heap[k]? = w.heap[k]?
theorem Kb.refl (g : Nat) (w : World) : Kb g w w := ⟨rfl, rfl, rfl, Nat.le_refl _, fun _ _ _ => rfl⟩
theorem Kb.setCell {g : Nat} {w w' : World} (h : Kb g w w') (j : Nat) (v : Value) : Kb g w (w'.setCell ⟨g, j, none⟩ v) := by
  obtain ⟨h1, h2, h3, h4, h5⟩ := h
  refine ⟨h1, h2, h3, by simpa [World.setCell] using h4, fun k hk hne => ?_⟩
  rw [← h5 k hk hne]
  simp only [World.setCell, Array.getElem?_modify]
  rw [if_neg (by omega)]
end Go.Proofs.Ytjkbapnndoldgaa
