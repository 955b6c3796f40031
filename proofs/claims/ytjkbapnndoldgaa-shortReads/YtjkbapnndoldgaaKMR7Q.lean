import Derived.Test.YtjkbapnndoldgaaKQM
import Derived.Test.YtjkbapnndoldgaaKXY
import Derived.Lib.BitFns
namespace Go.Proofs.Ytjkbapnndoldgaa
open Go.RowKit
def pW (s : Nat) (neg : Bool) (m : Nat) : Nat := if m = 0 then 0 else if neg then s + m else m
end Go.Proofs.Ytjkbapnndoldgaa
