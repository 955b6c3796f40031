import Derived.Test.YtjkbapnndoldgaaKEN
import Derived.Test.YtjkbapnndoldgaaKXQU
import Derived.Laws.Bits64b
import Derived.Laws.Slices
namespace Go.Proofs.Ytjkbapnndoldgaa
open Go.RowKit
namespace Fq
theorem Grown.setCell {W w' : World} (h : Grown W w') {a : Addr} (ha : W.heap.size ≤ a.block) (v : Value) : Grown W (w'.setCell a v) := Below.setCell h ha v
@[go_sem] theorem run_store_float6 (P : Program) (w : World) (a : Addr) (m : Mode) (k : FloatKind) (x : Nat) : (store a (.float k x) m).run P w = stored P w a (.float k x) m := run_store P w a _ m rfl
set_option maxRecDepth 20000 in
set_option maxHeartbeats 400000 in
theorem inf1_ (w : World) : Calls Try.prog 62 #[.int .i64 1] w fun e w' => e = .returned (.float .f64 9218868437227405312) ∧ w' = w := by
  have hf : ∀ w : World, (callFunc 42 #[.int .u64 9218868437227405312]).run Try.prog w = .ok (.value (.float .f64 9218868437227405312)) w := ff64 9218868437227405312
  go_enter Try.func62, Try.ntmps62
  go_wp2_with (first | (simp only [hf]))
  exact bodyPost_ret (v := .float .f64 9218868437227405312) (by simp [results, Try.results62, go_sem] <;> simp only [*]) rfl ⟨rfl, rfl⟩
set_option maxRecDepth 20000 in
set_option maxHeartbeats 400000 in
theorem infm_ (w : World) : Calls Try.prog 62 #[.int .i64 (-1)] w fun e w' => e = .returned (.float .f64 18442240474082181120) ∧ w' = w := by
  have hf : ∀ w : World, (callFunc 42 #[.int .u64 18442240474082181120]).run Try.prog w = .ok (.value (.float .f64 18442240474082181120)) w := ff64 18442240474082181120
  go_enter Try.func62, Try.ntmps62
  go_wp2_with (first | (simp only [hf]))
  exact bodyPost_ret (v := .float .f64 18442240474082181120) (by simp [results, Try.results62, go_sem] <;> simp only [*]) rfl ⟨rfl, rfl⟩
end Fq
end Go.Proofs.Ytjkbapnndoldgaa
