import Derived.Test.YtcckdceijgdgoaaKEH
import Derived.Test.YtcckdceijgdgoaaKES
namespace Go.Proofs.Ytcckdceijgdgoaa
open Go.RowKit
namespace Fq
def vld (a b : Nat) : Bool := decide (a = 9218868437227405312 ∧ b = 18442240474082181120) || (snd a b && (!(decide (a = 9223372036854775808)) && !(decide (b = 9223372036854775808))))
end Fq
end Go.Proofs.Ytcckdceijgdgoaa
