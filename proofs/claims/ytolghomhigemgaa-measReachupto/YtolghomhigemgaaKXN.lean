import Derived.Test.YtolghomhigemgaaProg
import Derived.Test.YtolghomhigemgaaKXA0
import Derived.Test.YtolghomhigemgaaKXM
import Derived.Test.YtolghomhigemgaaKXT
import Derived.WalkKit
import Derived.ProofKit
import Derived.RowKit3
import Derived.WalkSpells
import Derived.StillTactics
import Derived.Deep.QuietTactic
import Derived.BigQuiet
import Derived.Below
import Derived.Deep.OwnRows
import Derived.OwnWalk
namespace Go.Proofs.Ytolghomhigemgaa
open Go.RowKit
theorem Arr.take {w : World} {p : Option Addr} {xs : List Int} (h : Arr w p xs) (k : Nat) : Arr w p (xs.take k) := by
  rcases h with h | ⟨b, off, h1, h2⟩
  · subst h; exact Or.inl (by simp)
  · refine Or.inr ⟨b, off, h1, fun j hj => ?_⟩
    have hj2 : j < k ∧ j < xs.length := by simp at hj; omega
    rw [h2 j hj2.2]; simp [List.getD, hj2.1]
end Go.Proofs.Ytolghomhigemgaa
