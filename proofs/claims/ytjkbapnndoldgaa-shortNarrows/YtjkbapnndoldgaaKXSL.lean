import Derived.Test.YtjkbapnndoldgaaKPR
import Derived.Test.YtjkbapnndoldgaaKRN
import Derived.Laws.BitsAllLaws
namespace Go.Proofs.Ytjkbapnndoldgaa
open Go.RowKit
theorem pow_split (m : Nat) : 2 ^ (m % 32) * 4294967296 ^ (m / 32) = 2 ^ m := by
  rw [pow32, ← Nat.pow_add, show m % 32 + 32 * (m / 32) = m from by omega]
theorem row2 (w : World) (x y : Int) : Rw (w.alloc (.cells #[.int .u32 x, .int .u32 y] 22)) w.heap.size 2 [x, y] := by
  have := World.rowIs_alloc w #[.int .u32 x, .int .u32 y] 22 (fun i => .int .u32 ([x, y].getD i 0)) (fun i hi => by
    have h : i = 0 ∨ i = 1 := by simp at hi; omega
    rcases h with rfl | rfl <;> rfl)
  exact this
theorem row1 (w : World) (x : Int) : Rw (w.alloc (.cells #[.int .u32 x] 22)) w.heap.size 1 [x] := by
  have := World.rowIs_alloc w #[.int .u32 x] 22 (fun i => .int .u32 ([x].getD i 0)) (fun i hi => by
    have h : i = 0 := by simp at hi; omega
    rcases h with rfl; rfl)
  exact this
theorem own1 (w : World) : Own (w.alloc (.cells #[.int .u32 1] 22)) w.heap.size (.slice (some ⟨w.heap.size, 0, none⟩) 1 1) [1] :=
  Own.of_row (row1 w 1) (Nat.le_refl _) (Nat.le_refl _) rfl (by unfold maxLen; omega)
end Go.Proofs.Ytjkbapnndoldgaa
