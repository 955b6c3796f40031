import Derived.Test.YtpgaokifmaoamaaProg
import Derived.Test.YtpgaokifmaoamaaKXA0
import Derived.Test.YtpgaokifmaoamaaKXM
import Derived.Test.YtpgaokifmaoamaaKXY
import Derived.WalkKit
import Derived.ProofKit
import Derived.RowKit3
import Derived.WalkSpells
import Derived.StillTactics
import Derived.Deep.QuietTactic
import Derived.BigQuiet
import Derived.Below
import Derived.Deep.OwnRows
import Derived.OwnWalk
namespace Go.Proofs.Ytpgaokifmaoamaa
open Go.RowKit
theorem kfro {W w : World} {b o : Nat} (g : Kp W w) (h : b < W.heap.size) : w.frozen? ⟨b, o, none⟩ = W.frozen? ⟨b, o, none⟩ := World.frozen?_of_block (w := W) (Below.block g b h)
end Go.Proofs.Ytpgaokifmaoamaa
