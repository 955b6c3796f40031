import Derived.Test.YtkjcdhbhhiaaiaaProg
import Derived.Test.YtkjcdhbhhiaaiaaM
import Derived.Test.YtkjcdhbhhiaaiaaA
import Derived.WalkKit
import Derived.ProofKit
import Derived.RowKit3
import Derived.Deep.RegionHeld3
import Derived.WalkSpells
import Derived.StillTactics
import Derived.Laws.FloatArith
import Derived.Deep.QuietTactic
import Derived.BigQuiet
namespace Go.Proofs.Ytkjcdhbhhiaaiaa
open Go.RowKit
set_option maxRecDepth 20000 in
set_option maxHeartbeats 400000 in
theorem long_w (x : Nat) (w : World) : Calls Try.prog 24 #[.int .u64 (x : Int)] w fun e w' => e = .returned (.float .f64 x) ∧ w' = w := by
  go_enter Try.func24, Try.ntmps24
  go_wp2_with (first | (simp only [ff64]))
  exact bodyPost_ret (v := .float .f64 x) (by simp [results, Try.results24, go_sem] <;> simp only [*]) rfl ⟨rfl, rfl⟩

set_option maxRecDepth 20000 in
set_option maxHeartbeats 400000 in
theorem brief_w (x : Nat) (w : World) : Calls Try.prog 27 #[.int .u32 (x : Int)] w fun e w' => e = .returned (.float .f32 x) ∧ w' = w := by
  go_enter Try.func27, Try.ntmps27
  go_wp2_with (first | (simp only [ff32]))
  exact bodyPost_ret (v := .float .f32 x) (by simp [results, Try.results27, go_sem] <;> simp only [*]) rfl ⟨rfl, rfl⟩

end Go.Proofs.Ytkjcdhbhhiaaiaa
