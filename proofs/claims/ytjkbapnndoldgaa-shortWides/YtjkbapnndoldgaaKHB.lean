import Derived.Test.YtjkbapnndoldgaaKXA0
namespace Go.Proofs.Ytjkbapnndoldgaa
open Go.RowKit
theorem Rw.all {w : World} {g n : Nat} {xs : List Int} (h : Rw w g n xs) (hn : xs.length = n) : Arr w (some ⟨g, 0, none⟩) xs := by
  refine Or.inr ⟨g, 0, rfl, fun j hj => ?_⟩
  rw [Nat.zero_add]
  exact World.rowIs.cell h (by omega)
end Go.Proofs.Ytjkbapnndoldgaa
