import Derived.Test.YtbdeppdjelcioaaDoorProg
import Derived.Test.YtbdeppdjelcioaaDoorM
import Derived.Test.YtbdeppdjelcioaaDoorA
import Derived.WalkKit
import Derived.ProofKit
import Derived.RowKit3
import Derived.Deep.RegionHeld3
import Derived.WalkSpells
import Derived.StillTactics
import Derived.Laws.FloatArith
import Derived.Deep.QuietTactic
import Derived.BigQuiet
namespace Go.Proofs.YtbdeppdjelcioaaDoor
open Go.RowKit
set_option maxRecDepth 20000 in
set_option maxHeartbeats 400000 in
theorem long_w (x : Nat) (w : World) : Calls Tryd.prog 29 #[.int .u64 (x : Int)] w fun e w' => e = .returned (.float .f64 x) ∧ w' = w := by
  go_enter Tryd.func29, Tryd.ntmps29
  go_wp2_with (first | (simp only [ff64]))
  exact bodyPost_ret (v := .float .f64 x) (by simp [results, Tryd.results29, go_sem] <;> simp only [*]) rfl ⟨rfl, rfl⟩

set_option maxRecDepth 20000 in
set_option maxHeartbeats 400000 in
theorem brief_w (x : Nat) (w : World) : Calls Tryd.prog 31 #[.int .u32 (x : Int)] w fun e w' => e = .returned (.float .f32 x) ∧ w' = w := by
  go_enter Tryd.func31, Tryd.ntmps31
  go_wp2_with (first | (simp only [ff32]))
  exact bodyPost_ret (v := .float .f32 x) (by simp [results, Tryd.results31, go_sem] <;> simp only [*]) rfl ⟨rfl, rfl⟩

end Go.Proofs.YtbdeppdjelcioaaDoor
