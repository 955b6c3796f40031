import Derived.Test.YtpmcdhhlhiobiacProg
import Derived.Test.YtpmcdhhlhiobiacM
import Derived.Test.YtpmcdhhlhiobiacA
import Derived.WalkKit
import Derived.ProofKit
import Derived.RowKit3
import Derived.Deep.RegionHeld3
import Derived.WalkSpells
import Derived.StillTactics
import Derived.Laws.FloatArith
import Derived.Deep.QuietTactic
import Derived.BigQuiet
namespace Go.Proofs.Ytpmcdhhlhiobiac
open Go.RowKit
set_option maxRecDepth 20000 in
set_option maxHeartbeats 400000 in
theorem long_w (x : Nat) (w : World) : Calls Try.prog 17 #[.int .u64 (x : Int)] w fun e w' => e = .returned (.float .f64 x) ∧ w' = w := by
  go_enter Try.func17, Try.ntmps17
  go_wp2_with (first | (simp only [ff64]))
  exact bodyPost_ret (v := .float .f64 x) (by simp [results, Try.results17, go_sem] <;> simp only [*]) rfl ⟨rfl, rfl⟩

set_option maxRecDepth 20000 in
set_option maxHeartbeats 400000 in
theorem brief_w (x : Nat) (w : World) : Calls Try.prog 19 #[.int .u32 (x : Int)] w fun e w' => e = .returned (.float .f32 x) ∧ w' = w := by
  go_enter Try.func19, Try.ntmps19
  go_wp2_with (first | (simp only [ff32]))
  exact bodyPost_ret (v := .float .f32 x) (by simp [results, Try.results19, go_sem] <;> simp only [*]) rfl ⟨rfl, rfl⟩

end Go.Proofs.Ytpmcdhhlhiobiac
