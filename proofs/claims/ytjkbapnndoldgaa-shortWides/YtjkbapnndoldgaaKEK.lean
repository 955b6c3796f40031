import Derived.Test.YtjkbapnndoldgaaKEH
namespace Go.Proofs.Ytjkbapnndoldgaa
open Go.RowKit
namespace Fq

theorem H2.two (w : World) (a b c d : Value) (s t : TypeId) : H2 (((w.alloc (.cells #[a, b] s)).drew).alloc (.cells #[c, d] t)) (w.heap.size + 1) c d := by
  unfold H2; simp [go_sem]
end Fq
end Go.Proofs.Ytjkbapnndoldgaa
