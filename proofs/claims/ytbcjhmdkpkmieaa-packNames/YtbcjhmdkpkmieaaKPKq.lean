import Derived.Test.YtbcjhmdkpkmieaaKPKo
namespace Go.Proofs.Ytbcjhmdkpkmieaa
open Go.RowKit
open Go
namespace B8
theorem H3c.newD (w : World) (v0 v1 v2 : Value) (t : TypeId) : H3c ((w.alloc (.cells #[v0, v1, v2] t)).drew) w.heap.size v0 v1 v2 := by
  unfold H3c; simp [go_sem]
end B8
end Go.Proofs.Ytbcjhmdkpkmieaa
