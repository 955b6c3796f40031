import Derived.Test.YtmcjjfkicpcfcaaProg
import Derived.Test.YtmcjjfkicpcfcaaKXQF
import Derived.Test.YtmcjjfkicpcfcaaKQA
import Derived.WalkKit
import Derived.ProofKit
import Derived.RowKit3
import Derived.Deep.RegionHeld3
import Derived.WalkSpells
import Derived.StillTactics
import Derived.Laws.FloatArith
import Derived.Deep.QuietTactic
import Derived.BigQuiet
import Derived.Below
namespace Go.Proofs.Ytmcjjfkicpcfcaa
open Go.RowKit
namespace Fq
set_option maxRecDepth 20000 in
set_option maxHeartbeats 1000000 in
theorem plain_d (n : Bool) (m : Nat) (h2 : m < 9223372036854775808) (w : World) : Calls Try.prog 28 #[.float .f64 (wD n m)] w fun e w' => e = .returned (.float .f64 (wD (n && !(m == 0)) m)) ∧ w' = w := by
  have ho := eqzD n m h2
  by_cases c : m = 0
  · subst c
    have ew : wD (n && !((0 : Nat) == 0)) 0 = 0 := by simp [wD]
    rw [ew]
    clear ew
    have ho2 : (FloatKind.f64.format.order (wD n 0) 0 == some .eq) = true := by rw [ho]; rfl
    clear ho
    go_enter Try.func28, Try.ntmps28
    go_wp2
    exact bodyPost_ret (v := .float .f64 0) (by simp [results, Try.results28, go_sem] <;> simp only [*]) rfl ⟨rfl, rfl⟩
  · have ew : (n && !(m == 0)) = n := by simp [c]
    rw [ew]
    clear ew
    have ho2 : (FloatKind.f64.format.order (wD n m) 0 == some .eq) = false := by rw [ho]; simp [c]
    clear ho c
    go_enter Try.func28, Try.ntmps28
    go_wp2
    exact bodyPost_ret (v := .float .f64 (wD n m)) (by simp [results, Try.results28, go_sem] <;> simp only [*]) rfl ⟨rfl, rfl⟩

end Fq
end Go.Proofs.Ytmcjjfkicpcfcaa
