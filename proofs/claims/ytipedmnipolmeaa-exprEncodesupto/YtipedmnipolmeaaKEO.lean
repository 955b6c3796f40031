import Derived.Test.YtipedmnipolmeaaKEH
import Derived.Test.YtipedmnipolmeaaKES
namespace Go.Proofs.Ytipedmnipolmeaa
open Go.RowKit
namespace Fq
def vld (a b : Nat) : Bool := decide (a = 9218868437227405312 ∧ b = 18442240474082181120) || (snd a b && (!(decide (a = 9223372036854775808)) && !(decide (b = 9223372036854775808))))
set_option maxRecDepth 20000 in
set_option maxHeartbeats 2000000 in
theorem rvalid_ (n n' : Bool) (m m' : Nat) (hm : m < 9223372036854775808) (hm' : m' < 9223372036854775808) (w : World) : Calls Try.prog 25 #[.agg #[.int .u64 (((wD n m) : Nat) : Int), .int .u64 (((wD n' m') : Nat) : Int)]] w fun e w' => e = .returned (.bool (vld (wD n m) (wD n' m'))) ∧ Grown w w' := by
  have hs := sound_ n n' m m' hm hm'
  unfold vld
  generalize snd (wD n m) (wD n' m') = s at hs ⊢
  have t1 : decide (wD n m = 9218868437227405312 ∧ wD n' m' = 18442240474082181120) = ((((wD n m : Nat) : Int) == 9218868437227405312) && (((wD n' m' : Nat) : Int) == 18442240474082181120)) := by
    by_cases c1 : wD n m = 9218868437227405312 <;> by_cases c2 : wD n' m' = 18442240474082181120 <;> simp [c1, c2] <;> omega
  have t3 : (!decide (wD n m = 9223372036854775808)) = (((wD n m : Nat) : Int) != 9223372036854775808) := by
    by_cases c1 : wD n m = 9223372036854775808 <;> simp [c1] <;> omega
  have t4 : (!decide (wD n' m' = 9223372036854775808)) = (((wD n' m' : Nat) : Int) != 9223372036854775808) := by
    by_cases c1 : wD n' m' = 9223372036854775808 <;> simp [c1] <;> omega
  rw [t1, t3, t4]
  clear t1 t3 t4 hm hm'
  generalize ((wD n m : Nat) : Int) = X at hs ⊢
  generalize ((wD n' m' : Nat) : Int) = Y at hs ⊢
  generalize h1 : (X == 9218868437227405312) = E1
  generalize h2 : (Y == 18442240474082181120) = E2
  generalize h3 : (X != 9223372036854775808) = E3
  generalize h4 : (Y != 9223372036854775808) = E4
  cases E1
  · cases s <;> cases E2 <;> cases E3 <;> cases E4
    all_goals (
      go_enter Try.func25, Try.ntmps25
      go_wp2
      go_region_held3 (fun w' => w'.cell? ⟨w.heap.size, 0, none⟩ = some (.int .u64 X) ∧ w'.cell? ⟨w.heap.size, 1, none⟩ = some (.int .u64 Y)) (simp [go_sem]) (first | (go_at_call 46; refine (rempty_ _).mono ?_; rintro e w' ⟨rfl, rfl⟩))
      go_wp2_with (first | (go_at_call 47; refine (hs _).mono ?_; rintro e w' ⟨rfl, rfl⟩))
      exact bodyPost_ret (v := .bool _) (by simp [results, Try.results25, go_sem] <;> simp only [*]) rfl ⟨rfl, (by repeat (with_reducible (first | assumption | exact Grown.refl _ | apply Grown.drew | apply Grown.alloc | apply gdrewN | (refine Grown.setCell ?_ (by simp <;> omega) _) | (refine gtrans ?_ (by assumption)))))⟩)
  cases E2
  · cases s <;> cases E3 <;> cases E4
    all_goals (
      go_enter Try.func25, Try.ntmps25
      go_wp2
      go_region_held3 (fun w' => w'.cell? ⟨w.heap.size, 0, none⟩ = some (.int .u64 X) ∧ w'.cell? ⟨w.heap.size, 1, none⟩ = some (.int .u64 Y)) (simp [go_sem]) (first | (go_at_call 46; refine (rempty_ _).mono ?_; rintro e w' ⟨rfl, rfl⟩))
      go_wp2_with (first | (go_at_call 47; refine (hs _).mono ?_; rintro e w' ⟨rfl, rfl⟩))
      exact bodyPost_ret (v := .bool _) (by simp [results, Try.results25, go_sem] <;> simp only [*]) rfl ⟨rfl, (by repeat (with_reducible (first | assumption | exact Grown.refl _ | apply Grown.drew | apply Grown.alloc | apply gdrewN | (refine Grown.setCell ?_ (by simp <;> omega) _) | (refine gtrans ?_ (by assumption)))))⟩)
  · cases s <;> cases E3 <;> cases E4
    all_goals (
      go_enter Try.func25, Try.ntmps25
      go_wp2
      go_region_held3 (fun w' => w'.cell? ⟨w.heap.size, 0, none⟩ = some (.int .u64 X) ∧ w'.cell? ⟨w.heap.size, 1, none⟩ = some (.int .u64 Y)) (simp [go_sem]) (first | (go_at_call 46; refine (rempty_ _).mono ?_; rintro e w' ⟨rfl, rfl⟩))
      go_wp2_with (first | (go_at_call 47; refine (hs _).mono ?_; rintro e w' ⟨rfl, rfl⟩))
      exact bodyPost_ret (v := .bool _) (by simp [results, Try.results25, go_sem] <;> simp only [*]) rfl ⟨rfl, (by repeat (with_reducible (first | assumption | exact Grown.refl _ | apply Grown.drew | apply Grown.alloc | apply gdrewN | (refine Grown.setCell ?_ (by simp <;> omega) _) | (refine gtrans ?_ (by assumption)))))⟩)
end Fq
end Go.Proofs.Ytipedmnipolmeaa
