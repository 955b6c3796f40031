import Derived.Test.YtjkbapnndoldgaaKXQU
import Derived.Laws.Bits64b
import Derived.Laws.Slices
namespace Go.Proofs.Ytjkbapnndoldgaa
open Go.RowKit
namespace Fq

def kyN (x : Nat) : Nat := if 9223372036854775808 ≤ pla x then 18446744073709551615 - pla x else pla x + 9223372036854775808
theorem kyN_w (n : Bool) (m : Nat) (h : m ≤ 9218868437227405312) : (kyN (wD n m) : Int) = if plz n m < 0 then 9223372036854775807 + plz n m else 9223372036854775808 + plz n m := by
  unfold kyN pla wD plz
  cases n <;> simp <;> repeat' split
  all_goals omega
theorem kyN_lt (n n' : Bool) (m m' : Nat) (h : m ≤ 9218868437227405312) (h' : m' ≤ 9218868437227405312) : kyN (wD n m) < kyN (wD n' m') ↔ plz n m < plz n' m' := by
  have e1 := kyN_w n m h
  have e2 := kyN_w n' m' h'
  have : (kyN (wD n m) < kyN (wD n' m')) ↔ ((kyN (wD n m) : Int) < kyN (wD n' m')) := by omega
  rw [this, e1, e2]
  repeat' split
  all_goals omega
end Fq
namespace Fq
theorem Grown.setCell {W w' : World} (h : Grown W w') {a : Addr} (ha : W.heap.size ≤ a.block) (v : Value) : Grown W (w'.setCell a v) := Below.setCell h ha v
@[go_sem] theorem run_store_float6 (P : Program) (w : World) (a : Addr) (m : Mode) (k : FloatKind) (x : Nat) : (store a (.float k x) m).run P w = stored P w a (.float k x) m := run_store P w a _ m rfl
set_option maxRecDepth 20000 in
set_option maxHeartbeats 400000 in
theorem inf1_ (w : World) : Calls Try.prog 62 #[.int .i64 1] w fun e w' => e = .returned (.float .f64 9218868437227405312) ∧ w' = w := by
  have hf : ∀ w : World, (callFunc 42 #[.int .u64 9218868437227405312]).run Try.prog w = .ok (.value (.float .f64 9218868437227405312)) w := ff64 9218868437227405312
  go_enter Try.func62, Try.ntmps62
  go_wp2_with (first | (simp only [hf]))
  exact bodyPost_ret (v := .float .f64 9218868437227405312) (by simp [results, Try.results62, go_sem] <;> simp only [*]) rfl ⟨rfl, rfl⟩
set_option maxRecDepth 20000 in
set_option maxHeartbeats 400000 in
theorem infm_ (w : World) : Calls Try.prog 62 #[.int .i64 (-1)] w fun e w' => e = .returned (.float .f64 18442240474082181120) ∧ w' = w := by
  have hf : ∀ w : World, (callFunc 42 #[.int .u64 18442240474082181120]).run Try.prog w = .ok (.value (.float .f64 18442240474082181120)) w := ff64 18442240474082181120
  go_enter Try.func62, Try.ntmps62
  go_wp2_with (first | (simp only [hf]))
  exact bodyPost_ret (v := .float .f64 18442240474082181120) (by simp [results, Try.results62, go_sem] <;> simp only [*]) rfl ⟨rfl, rfl⟩
set_option maxRecDepth 20000 in
set_option maxHeartbeats 400000 in
theorem plain6_ (x : Nat) (h : x < 18446744073709551616) (w : World) : Calls Try.prog 63 #[.float .f64 x] w fun e w' => e = .returned (.float .f64 (pla x)) ∧ w' = w := by
  have t := feq0 x h
  by_cases c : x = 0 ∨ x = 9223372036854775808
  · rw [decide_eq_true c] at t
    have e : pla x = 0 := by unfold pla; split <;> omega
    rw [e]; clear c e h
    go_enter Try.func63, Try.ntmps63
    go_wp2
    exact bodyPost_ret (v := .float .f64 0) (by simp [results, Try.results63, go_sem] <;> simp only [*]) rfl ⟨rfl, rfl⟩
  · rw [decide_eq_false c] at t
    have e : pla x = x := by unfold pla; rw [if_neg (by omega)]
    rw [e]; clear c e h
    go_enter Try.func63, Try.ntmps63
    go_wp2
    exact bodyPost_ret (v := .float .f64 x) (by simp [results, Try.results63, go_sem] <;> simp only [*]) rfl ⟨rfl, rfl⟩
set_option maxRecDepth 20000 in
set_option maxHeartbeats 400000 in
theorem empty6_ (w : World) : Calls Try.prog 38 #[] w fun e w' => e = .returned (.agg #[.float .f64 9218868437227405312, .float .f64 18442240474082181120]) ∧ w' = w.alloc (.cells #[.float .f64 9218868437227405312, .float .f64 18442240474082181120] 40) := by
  go_enter Try.func38, Try.ntmps38
  go_wp2_with (go_at_call 62; (first | refine (inf1_ _).mono ?_ | refine (infm_ _).mono ?_); rintro e w' ⟨rfl, rfl⟩)
  exact bodyPost_ret (v := .agg #[.float .f64 9218868437227405312, .float .f64 18442240474082181120]) (by simp [results, Try.results38, go_sem] <;> simp only [*]) rfl ⟨rfl, rfl⟩
end Fq
end Go.Proofs.Ytjkbapnndoldgaa
