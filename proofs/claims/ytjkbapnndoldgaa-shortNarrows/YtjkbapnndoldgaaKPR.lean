import Derived.Test.YtjkbapnndoldgaaKLN
import Derived.Deep.RegionHeld3
import Derived.Laws.Slices
namespace Go.Proofs.Ytjkbapnndoldgaa
open Go.RowKit
theorem val_zeros (zs : List Int) (h : ∀ j, zs.getD j 0 = 0) : val zs = 0 := by
  induction zs with
  | nil => rfl
  | cons z r ih =>
    have h0 := h 0
    simp at h0
    have := ih (fun j => by have := h (j + 1); simpa using this)
    simp [val, h0, this]
theorem Wd_rep0 (n : Nat) : Wd (List.replicate n (0 : Int)) := by
  intro j
  by_cases c : j < n
  · simp [List.getD, c]
  · simp [List.getD, c]
theorem rep0_getD (n j : Nat) : (List.replicate n (0 : Int)).getD j 0 = 0 := by
  by_cases c : j < n
  · simp [List.getD, c]
  · simp [List.getD, c]
end Go.Proofs.Ytjkbapnndoldgaa
