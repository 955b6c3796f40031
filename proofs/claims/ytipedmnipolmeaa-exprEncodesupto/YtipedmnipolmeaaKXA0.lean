import Derived.Test.YtipedmnipolmeaaProg
import Derived.Below
import Derived.BigQuiet
import Derived.Deep.QuietTactic
import Derived.ProofKit
import Derived.RowKit3
import Derived.StillTactics
import Derived.WalkKit
import Derived.WalkSpells
namespace Go.Proofs.Ytipedmnipolmeaa
open Go.RowKit

def Kp (w w' : World) : Prop := Below w.heap.size w w'
theorem Kp.refl (w : World) : Kp w w := Below.refl _ _
theorem Kp.trans {a b c : World} (h : Kp a b) (k : Kp b c) : Kp a c := Below.trans h (Below.mono k h.size)
theorem Kp.drew {a b : World} (h : Kp a b) : Kp a b.drew := Below.drew h
theorem Kp.drewN {a b : World} (n : Nat) (h : Kp a b) : Kp a (b.drewN n) := by
  induction n with
  | zero => exact h
  | succ n ih => exact Below.drew ih
theorem Kp.alloc {a b : World} (h : Kp a b) (o : Obj) : Kp a (b.alloc o) := Below.alloc h h.size o
theorem Kp.setCell {a b : World} (h : Kp a b) {p : Addr} (hp : a.heap.size ≤ p.block) (u : Value) : Kp a (b.setCell p u) := Below.setCell h hp u
theorem Kp.grown {a w w' : World} {row : Option Nat} (h : Kp a w) (hg : w.grownBy w' row) (hr : ∀ k, row = some k → a.heap.size ≤ k) : Kp a w' := Below.grown h hg h.size hr
theorem cell_lt {w : World} {b o : Nat} {v : Value} (h : w.cell? ⟨b, o, none⟩ = some v) : b < w.heap.size := by
  unfold World.cell? at h
  by_cases c : b < w.heap.size
  · exact c
  · rw [Array.getElem?_eq_none (by simpa using c)] at h; simp at h
theorem kkeep {W w : World} {b o : Nat} {v : Value} (g : Kp W w) (h : W.cell? ⟨b, o, none⟩ = some v) : w.cell? ⟨b, o, none⟩ = some v := by
  rw [Below.cell g (cell_lt h)]; exact h
def Arr (w : World) (p : Option Addr) (xs : List Int) : Prop := xs = [] ∨ ∃ b off, p = some ⟨b, off, none⟩ ∧ ∀ j, j < xs.length → w.cell? ⟨b, off + j, none⟩ = some (.int .u32 (xs.getD j 0))
theorem Arr.grown {w w' : World} {p : Option Addr} {xs : List Int} (h : Arr w p xs) (g : Kp w w') : Arr w' p xs := by
  rcases h with h | ⟨b, off, h1, h2⟩
  · exact Or.inl h
  · exact Or.inr ⟨b, off, h1, fun j hj => kkeep g (h2 j hj)⟩
theorem Arr.at {w : World} {p : Option Addr} {xs : List Int} (h : Arr w p xs) {k : Nat} (hk : k < xs.length) : ∃ b off, p = some ⟨b, off, none⟩ ∧ ∀ j, j < xs.length → w.cell? ⟨b, off + j, none⟩ = some (.int .u32 (xs.getD j 0)) := by
  rcases h with h | h
  · subst h; simp at hk
  · exact h
end Go.Proofs.Ytipedmnipolmeaa
