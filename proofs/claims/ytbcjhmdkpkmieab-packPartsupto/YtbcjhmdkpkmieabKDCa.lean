import Derived.Test.YtbcjhmdkpkmieabKNRb
import Derived.Test.YtbcjhmdkpkmieabKNRc
import Derived.Test.YtbcjhmdkpkmieabKNRj
namespace Go.Proofs.Ytbcjhmdkpkmieab
open Go.RowKit
theorem kfro {W w : World} {b o : Nat} (g : Kp W w) (h : b < W.heap.size) : w.frozen? ⟨b, o, none⟩ = W.frozen? ⟨b, o, none⟩ := World.frozen?_of_block (w := W) (Below.block g b h)

end Go.Proofs.Ytbcjhmdkpkmieab
