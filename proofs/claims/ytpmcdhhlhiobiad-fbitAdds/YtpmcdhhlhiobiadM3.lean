import Derived.Test.YtpmcdhhlhiobiadM
import Derived.Test.YtpmcdhhlhiobiadM2
import Derived.Laws.FloatArith
import Derived.RowKit
namespace Go.Proofs.Ytpmcdhhlhiobiad
open Go.RowKit

theorem stvo (p q : Int) : (sto p q = true ∧ stv p q = q - p ∧ -9223372036854775808 ≤ q - p ∧ q - p ≤ 9223372036854775807) ∨ (sto p q = false ∧ stv p q = 0 ∧ (q - p < -9223372036854775808 ∨ 9223372036854775807 < q - p)) := by
  by_cases c : -9223372036854775808 ≤ q - p ∧ q - p ≤ 9223372036854775807
  · left; exact ⟨by unfold sto; simp [c], by unfold stv; simp [c], c.1, c.2⟩
  · right; exact ⟨by unfold sto; simp; omega, by unfold stv; simp; omega, by omega⟩
end Go.Proofs.Ytpmcdhhlhiobiad
