import Derived.Test.YtbcjhmdkpkmieabKEB
import Derived.Test.YtbcjhmdkpkmieabKEH
namespace Go.Proofs.Ytbcjhmdkpkmieab
open Go.RowKit
namespace Fq
theorem eqInR (a c : Nat) (w : World) : (Op.equalIn 9999 29 (.float .f64 a) (.float .f64 c)).run Try.prog w = .ok (FloatKind.f64.format.order a c == some Ordering.eq) w := by kernel_rfl
end Fq
end Go.Proofs.Ytbcjhmdkpkmieab
