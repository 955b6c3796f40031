import Derived.Test.YtflhcnmbondpnaaProg
import Derived.Test.YtflhcnmbondpnaaKXA0
import Derived.Test.YtflhcnmbondpnaaKXM
import Derived.Test.YtflhcnmbondpnaaKXT
import Derived.WalkKit
import Derived.ProofKit
import Derived.RowKit3
import Derived.WalkSpells
import Derived.StillTactics
import Derived.Deep.QuietTactic
import Derived.BigQuiet
import Derived.Below
import Derived.Deep.OwnRows
namespace Go.Proofs.Ytflhcnmbondpnaa
open Go.RowKit
theorem Kb.kp2 {g : Nat} {w w' w'' : World} (h : Kb g w w') (k : Kp w' w'') : Kb g w w'' :=
  ⟨k.os.trans h.1, k.tape.trans h.2.1, k.output.trans h.2.2.1, Nat.le_trans h.2.2.2.1 k.size, fun i hi hne => (Below.block k i (Nat.lt_of_lt_of_le hi h.2.2.2.1)).trans (h.2.2.2.2 i hi hne)⟩
end Go.Proofs.Ytflhcnmbondpnaa
