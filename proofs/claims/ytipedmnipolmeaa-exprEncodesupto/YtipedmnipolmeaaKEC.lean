import Derived.Test.YtipedmnipolmeaaKEB
namespace Go.Proofs.Ytipedmnipolmeaa
open Go.RowKit
namespace Fq
theorem eqIn6 (a c : Nat) (w : World) : (Op.equalIn 9999 69 (.float .f64 a) (.float .f64 c)).run Try.prog w = .ok (FloatKind.f64.format.order a c == some Ordering.eq) w := by kernel_rfl
set_option maxRecDepth 20000 in
set_option maxHeartbeats 1000000 in
theorem signedNought_ (x : Nat) (hx : x < 18446744073709551616) (w : World) : Calls Try.prog 60 #[.float .f64 x] w fun e w' => e = .returned (.bool (decide (x = 9223372036854775808))) ∧ w' = w := by
  have t := feq0 x hx
  by_cases c : x = 0 ∨ x = 9223372036854775808
  · rw [decide_eq_true c] at t
    rcases c with rfl | rfl
    · have hs : ∀ w : World, Calls Try.prog 74 #[.float .f64 0] w fun e w' => e = .returned (.bool false) ∧ w' = w := by
        intro w
        have h2 : ∀ w : World, (callFunc 70 #[.float .f64 0]).run Try.prog w = .ok (.value (.int .u64 0)) w := fb64 0
        go_enter Try.func74, Try.ntmps74
        go_wp2_with (first | (simp only [h2]))
        exact bodyPost_ret (v := .bool false) (by simp [results, Try.results74, go_sem] <;> simp only [*]) rfl ⟨rfl, rfl⟩
      clear hx
      rw [show decide (0 = 9223372036854775808) = false from by decide]
      go_enter Try.func60, Try.ntmps60
      go_wp2_with (first | (go_at_call 74; refine (hs _).mono ?_; rintro e w' ⟨rfl, rfl⟩))
      exact bodyPost_ret (v := .bool false) (by simp [results, Try.results60, go_sem] <;> simp only [*]) rfl ⟨rfl, rfl⟩
    · have hs : ∀ w : World, Calls Try.prog 74 #[.float .f64 9223372036854775808] w fun e w' => e = .returned (.bool true) ∧ w' = w := by
        intro w
        have h2 : ∀ w : World, (callFunc 70 #[.float .f64 9223372036854775808]).run Try.prog w = .ok (.value (.int .u64 9223372036854775808)) w := fb64 9223372036854775808
        have b2 : wrap64 9223372036854775808 < 0 := by decide +kernel
        go_enter Try.func74, Try.ntmps74
        go_wp2_with (first | (simp only [h2]))
        exact bodyPost_ret (v := .bool true) (by simp [results, Try.results74, go_sem] <;> simp only [*]) rfl ⟨rfl, rfl⟩
      clear hx
      rw [show decide (9223372036854775808 = 9223372036854775808) = true from by decide]
      go_enter Try.func60, Try.ntmps60
      go_wp2_with (first | (go_at_call 74; refine (hs _).mono ?_; rintro e w' ⟨rfl, rfl⟩))
      exact bodyPost_ret (v := .bool true) (by simp [results, Try.results60, go_sem] <;> simp only [*]) rfl ⟨rfl, rfl⟩
  · rw [decide_eq_false c] at t
    rw [decide_eq_false (fun h => c (.inr h))]
    clear c hx
    go_enter Try.func60, Try.ntmps60
    go_wp2
    exact bodyPost_ret (v := .bool false) (by simp [results, Try.results60, go_sem] <;> simp only [*]) rfl ⟨rfl, rfl⟩
end Fq
end Go.Proofs.Ytipedmnipolmeaa
