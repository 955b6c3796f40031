import Derived.Test.YtjkbapnndoldgaaKEB
namespace Go.Proofs.Ytjkbapnndoldgaa
open Go.RowKit
namespace Fq
theorem eqIn6 (a c : Nat) (w : World) : (Op.equalIn 9999 38 (.float .f64 a) (.float .f64 c)).run Try.prog w = .ok (FloatKind.f64.format.order a c == some Ordering.eq) w := by kernel_rfl
end Fq
end Go.Proofs.Ytjkbapnndoldgaa
