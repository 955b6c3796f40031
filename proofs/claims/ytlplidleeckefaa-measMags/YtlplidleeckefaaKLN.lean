import Derived.Test.YtlplidleeckefaaProg
import Derived.Test.YtlplidleeckefaaKXA0
import Derived.Test.YtlplidleeckefaaKXM
import Derived.Test.YtlplidleeckefaaKXT
import Derived.Test.YtlplidleeckefaaKLB
import Derived.WalkKit
import Derived.ProofKit
import Derived.RowKit3
import Derived.WalkSpells
import Derived.StillTactics
import Derived.Deep.QuietTactic
import Derived.BigQuiet
import Derived.Below
import Derived.Deep.OwnRows
namespace Go.Proofs.Ytlplidleeckefaa
open Go.RowKit
theorem w64 (z : Int) (h0 : 0 ≤ z) (h1 : z < 9223372036854775808) : wrap64 z = z := by unfold wrap64; omega
theorem wi64 (z : Int) (h0 : 0 ≤ z) (h1 : z < 9223372036854775808) : IntKind.i64.wrap z = z := by simp [IntKind.wrap, IntKind.bits, IntKind.signed]; omega
end Go.Proofs.Ytlplidleeckefaa
