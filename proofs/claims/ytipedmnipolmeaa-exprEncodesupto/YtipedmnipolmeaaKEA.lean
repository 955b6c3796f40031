import Derived.Test.YtipedmnipolmeaaKEN
import Derived.Test.YtipedmnipolmeaaKXQU
import Derived.Laws.Bits64b
import Derived.Laws.Slices
namespace Go.Proofs.Ytipedmnipolmeaa
open Go.RowKit
namespace Fq
theorem Grown.setCell {W w' : World} (h : Grown W w') {a : Addr} (ha : W.heap.size ≤ a.block) (v : Value) : Grown W (w'.setCell a v) := Below.setCell h ha v
@[go_sem] theorem run_store_float6 (P : Program) (w : World) (a : Addr) (m : Mode) (k : FloatKind) (x : Nat) : (store a (.float k x) m).run P w = stored P w a (.float k x) m := run_store P w a _ m rfl
set_option maxRecDepth 20000 in
set_option maxHeartbeats 400000 in
theorem inf1_ (w : World) : Calls Try.prog 71 #[.int .i64 1] w fun e w' => e = .returned (.float .f64 9218868437227405312) ∧ w' = w := by
  have hf : ∀ w : World, (callFunc 61 #[.int .u64 9218868437227405312]).run Try.prog w = .ok (.value (.float .f64 9218868437227405312)) w := ff64 9218868437227405312
  go_enter Try.func71, Try.ntmps71
  go_wp2_with (first | (simp only [hf]))
  exact bodyPost_ret (v := .float .f64 9218868437227405312) (by simp [results, Try.results71, go_sem] <;> simp only [*]) rfl ⟨rfl, rfl⟩
set_option maxRecDepth 20000 in
set_option maxHeartbeats 400000 in
theorem infm_ (w : World) : Calls Try.prog 71 #[.int .i64 (-1)] w fun e w' => e = .returned (.float .f64 18442240474082181120) ∧ w' = w := by
  have hf : ∀ w : World, (callFunc 61 #[.int .u64 18442240474082181120]).run Try.prog w = .ok (.value (.float .f64 18442240474082181120)) w := ff64 18442240474082181120
  go_enter Try.func71, Try.ntmps71
  go_wp2_with (first | (simp only [hf]))
  exact bodyPost_ret (v := .float .f64 18442240474082181120) (by simp [results, Try.results71, go_sem] <;> simp only [*]) rfl ⟨rfl, rfl⟩
set_option maxRecDepth 20000 in
set_option maxHeartbeats 400000 in
theorem plain6_ (x : Nat) (h : x < 18446744073709551616) (w : World) : Calls Try.prog 73 #[.float .f64 x] w fun e w' => e = .returned (.float .f64 (pla x)) ∧ w' = w := by
  have t := feq0 x h
  by_cases c : x = 0 ∨ x = 9223372036854775808
  · rw [decide_eq_true c] at t
    have e : pla x = 0 := by unfold pla; split <;> omega
    rw [e]; clear c e h
    go_enter Try.func73, Try.ntmps73
    go_wp2
    exact bodyPost_ret (v := .float .f64 0) (by simp [results, Try.results73, go_sem] <;> simp only [*]) rfl ⟨rfl, rfl⟩
  · rw [decide_eq_false c] at t
    have e : pla x = x := by unfold pla; rw [if_neg (by omega)]
    rw [e]; clear c e h
    go_enter Try.func73, Try.ntmps73
    go_wp2
    exact bodyPost_ret (v := .float .f64 x) (by simp [results, Try.results73, go_sem] <;> simp only [*]) rfl ⟨rfl, rfl⟩
set_option maxRecDepth 20000 in
set_option maxHeartbeats 400000 in
theorem empty6_ (w : World) : Calls Try.prog 72 #[] w fun e w' => e = .returned (.agg #[.float .f64 9218868437227405312, .float .f64 18442240474082181120]) ∧ w' = w.alloc (.cells #[.float .f64 9218868437227405312, .float .f64 18442240474082181120] 71) := by
  go_enter Try.func72, Try.ntmps72
  go_wp2_with (go_at_call 71; (first | refine (inf1_ _).mono ?_ | refine (infm_ _).mono ?_); rintro e w' ⟨rfl, rfl⟩)
  exact bodyPost_ret (v := .agg #[.float .f64 9218868437227405312, .float .f64 18442240474082181120]) (by simp [results, Try.results72, go_sem] <;> simp only [*]) rfl ⟨rfl, rfl⟩
end Fq
end Go.Proofs.Ytipedmnipolmeaa
