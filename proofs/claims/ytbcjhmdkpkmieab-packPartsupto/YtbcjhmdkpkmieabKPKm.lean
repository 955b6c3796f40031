import Derived.Test.YtbcjhmdkpkmieabKPKl
namespace Go.Proofs.Ytbcjhmdkpkmieab
open Go.RowKit
open Go
namespace B8
theorem arr_all {w : World} {g n : Nat} {xs : List Int} (h : Rw w g n xs) (hl : xs.length = n) : Arr w (some ⟨g, 0, none⟩) xs := by
  have := h.arr n (Nat.le_refl _) (by omega)
  rwa [List.take_of_length_le (by omega)] at this
end B8
end Go.Proofs.Ytbcjhmdkpkmieab
