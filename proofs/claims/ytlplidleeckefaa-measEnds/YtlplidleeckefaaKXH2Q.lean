import Derived.Test.YtlplidleeckefaaProg
import Derived.Test.YtlplidleeckefaaKXA0
import Derived.Test.YtlplidleeckefaaKXM
import Derived.Test.YtlplidleeckefaaKXY
import Derived.Test.YtlplidleeckefaaKXQF
import Derived.Test.YtlplidleeckefaaKQA
import Derived.WalkKit
import Derived.ProofKit
import Derived.RowKit3
import Derived.WalkSpells
import Derived.StillTactics
import Derived.Deep.QuietTactic
import Derived.BigQuiet
import Derived.Below
import Derived.Deep.OwnRows
import Derived.Laws.BitsAllLaws
import Derived.Laws.Slices
import Derived.Laws.Bits64b
import Derived.Laws.FloatArith
namespace Go.Proofs.Ytlplidleeckefaa
open Go.RowKit
set_option maxRecDepth 20000 in
set_option maxHeartbeats 400000 in
theorem minf_ (neg : Bool) (w : World) : Calls Try.prog 29 #[.int .i64 (if neg = true then -1 else 1)] w fun e w' => e = .returned (.float .f64 (Fq.wD neg 9218868437227405312)) ∧ w' = w := by
  have h1 : ∀ w : World, (callFunc 18 #[.int .u64 18442240474082181120]).run Try.prog w = .ok (.value (.float .f64 18442240474082181120)) w := fun w => Fq.ff64 18442240474082181120 w
  have h2 : ∀ w : World, (callFunc 18 #[.int .u64 9218868437227405312]).run Try.prog w = .ok (.value (.float .f64 9218868437227405312)) w := fun w => Fq.ff64 9218868437227405312 w
  cases neg
  · go_enter Try.func29, Try.ntmps29
    go_wp2
    exact bodyPost_ret (v := .float .f64 9218868437227405312) (by simp [results, Try.results29, go_sem]) rfl ⟨rfl, rfl⟩
  · go_enter Try.func29, Try.ntmps29
    go_wp2
    exact bodyPost_ret (v := .float .f64 18442240474082181120) (by simp [results, Try.results29, go_sem]) rfl ⟨rfl, rfl⟩
end Go.Proofs.Ytlplidleeckefaa
