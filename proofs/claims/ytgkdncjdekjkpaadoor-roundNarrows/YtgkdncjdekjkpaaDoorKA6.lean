import Derived.Test.YtgkdncjdekjkpaaDoorProg
import Derived.Test.YtgkdncjdekjkpaaDoorKA
import Derived.Test.YtgkdncjdekjkpaaDoorKA2
import Derived.Test.YtgkdncjdekjkpaaDoorKA3
import Derived.WalkKit
import Derived.ProofKit
import Derived.RowKit3
import Derived.WalkSpells
import Derived.StillTactics
import Derived.Deep.QuietTactic
import Derived.BigQuiet
import Derived.Below
import Derived.Deep.OwnRows
import Derived.OwnWalk
namespace Go.Proofs.YtgkdncjdekjkpaaDoor
open Go.RowKit

theorem Own.setOther {w : World} {base : Nat} {v : Value} {xs : List Int} (h : Own w base v xs) {a : Addr} (ha : a.block < base) (u : Value) : Own (w.setCell a u) base v xs := by
  refine ⟨h.1, ?_⟩
  rcases h.2 with h' | ⟨g, cap, cur, h1, h2, h3, h4⟩
  · exact Or.inl h'
  · refine Or.inr ⟨g, cap, cur, h1, h2, ?_, h4⟩
    rw [← h3]
    simp only [World.setCell, Array.getElem?_modify]
    rw [if_neg (by omega)]
end Go.Proofs.YtgkdncjdekjkpaaDoor
