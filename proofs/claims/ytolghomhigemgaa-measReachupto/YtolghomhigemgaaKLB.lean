import Derived.Test.YtolghomhigemgaaProg
import Derived.Test.YtolghomhigemgaaKXM
import Derived.RowKit
import Derived.Lib.BitFns
import Derived.Lib.Walk
import Derived.Lib.Strings
import Derived.Lib.Small
import Derived.Lib.Slices
import Derived.Lib.ItoaNum
namespace Go.Proofs.Ytolghomhigemgaa
open Go.RowKit
theorem blen_lib (x : Nat) (h : x < 2 ^ 64) : Lib.bitLen x = blen x := by
  by_cases c : x = 0
  · subst c; rw [blen_zero]; decide
  · obtain ⟨a, b, d⟩ := Lib.bitLenAux_bounds 64 x h c
    have e : Lib.bitLen x = Lib.bitLenAux 64 x := rfl
    rw [e]
    obtain ⟨k, hk⟩ : ∃ k, Lib.bitLenAux 64 x = k + 1 := ⟨Lib.bitLenAux 64 x - 1, by omega⟩
    rw [hk] at b d ⊢
    exact (blen_uniq x k b d).symm
end Go.Proofs.Ytolghomhigemgaa
