import Derived.Test.YtolghomhigemgaaProg
import Derived.Test.YtolghomhigemgaaKXA0
import Derived.Test.YtolghomhigemgaaKXM
import Derived.Test.YtolghomhigemgaaKXT
import Derived.WalkKit
import Derived.ProofKit
import Derived.RowKit3
import Derived.WalkSpells
import Derived.StillTactics
import Derived.Deep.QuietTactic
import Derived.BigQuiet
import Derived.Below
import Derived.Deep.OwnRows
import Derived.OwnWalk
namespace Go.Proofs.Ytolghomhigemgaa
open Go.RowKit
theorem row2 (w : World) (x y : Int) : Rw (w.alloc (.cells #[.int .u32 x, .int .u32 y] 58)) w.heap.size 2 [x, y] := by
  have := World.rowIs_alloc w #[.int .u32 x, .int .u32 y] 58 (fun i => .int .u32 ([x, y].getD i 0)) (fun i hi => by
    have h : i = 0 ∨ i = 1 := by simp at hi; omega
    rcases h with rfl | rfl <;> rfl)
  exact this
theorem row1 (w : World) (x : Int) : Rw (w.alloc (.cells #[.int .u32 x] 58)) w.heap.size 1 [x] := by
  have := World.rowIs_alloc w #[.int .u32 x] 58 (fun i => .int .u32 ([x].getD i 0)) (fun i hi => by
    have h : i = 0 := by simp at hi; omega
    rcases h with rfl; rfl)
  exact this
theorem own1 (w : World) : Own (w.alloc (.cells #[.int .u32 1] 58)) w.heap.size (.slice (some ⟨w.heap.size, 0, none⟩) 1 1) [1] :=
  Own.of_row (row1 w 1) (Nat.le_refl _) (Nat.le_refl _) rfl (by unfold maxLen; omega)
end Go.Proofs.Ytolghomhigemgaa
