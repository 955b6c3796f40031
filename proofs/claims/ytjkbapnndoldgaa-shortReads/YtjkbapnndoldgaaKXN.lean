import Derived.Test.YtjkbapnndoldgaaKXA0
import Derived.Laws.IdiomCopy
namespace Go.Proofs.Ytjkbapnndoldgaa
open Go.RowKit
theorem Arr.take {w : World} {p : Option Addr} {xs : List Int} (h : Arr w p xs) (k : Nat) : Arr w p (xs.take k) := by
  rcases h with h | ⟨b, off, h1, h2⟩
  · subst h; exact Or.inl (by simp)
  · refine Or.inr ⟨b, off, h1, fun j hj => ?_⟩
    have hj2 : j < k ∧ j < xs.length := by simp at hj; omega
    rw [h2 j hj2.2]; simp [List.getD, hj2.1]
end Go.Proofs.Ytjkbapnndoldgaa
