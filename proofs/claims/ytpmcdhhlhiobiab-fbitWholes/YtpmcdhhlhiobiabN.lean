import Derived.Test.YtpmcdhhlhiobiabProg
import Derived.Test.YtpmcdhhlhiobiabM
import Derived.Test.YtpmcdhhlhiobiabA
import Derived.Test.YtpmcdhhlhiobiabP
import Derived.Test.YtpmcdhhlhiobiabRD
import Derived.Test.YtpmcdhhlhiobiabRS
import Derived.Test.YtpmcdhhlhiobiabSD
import Derived.Test.YtpmcdhhlhiobiabSS
import Derived.Test.YtpmcdhhlhiobiabQD
import Derived.Test.YtpmcdhhlhiobiabQS
import Derived.WalkKit
import Derived.ProofKit
import Derived.RowKit3
import Derived.Deep.RegionHeld3
import Derived.WalkSpells
import Derived.StillTactics
import Derived.Laws.FloatArith
import Derived.Deep.QuietTactic
import Derived.BigQuiet
namespace Go.Proofs.Ytpmcdhhlhiobiab
open Go.RowKit
set_option maxRecDepth 20000 in
set_option maxHeartbeats 400000 in
theorem long_w (x : Nat) (w : World) : Calls Try.prog 9 #[.int .u64 (x : Int)] w fun e w' => e = .returned (.float .f64 x) ∧ w' = w := by
  go_enter Try.func9, Try.ntmps9
  go_wp2_with (first | (simp only [ff64]))
  exact bodyPost_ret (v := .float .f64 x) (by simp [results, Try.results9, go_sem] <;> simp only [*]) rfl ⟨rfl, rfl⟩

set_option maxRecDepth 20000 in
set_option maxHeartbeats 400000 in
theorem brief_w (x : Nat) (w : World) : Calls Try.prog 13 #[.int .u32 (x : Int)] w fun e w' => e = .returned (.float .f32 x) ∧ w' = w := by
  go_enter Try.func13, Try.ntmps13
  go_wp2_with (first | (simp only [ff32]))
  exact bodyPost_ret (v := .float .f32 x) (by simp [results, Try.results13, go_sem] <;> simp only [*]) rfl ⟨rfl, rfl⟩

end Go.Proofs.Ytpmcdhhlhiobiab
