import Derived.Test.YthdcjalkclnneaaProg
import Derived.Test.YthdcjalkclnneaaM
import Derived.Test.YthdcjalkclnneaaA
import Derived.Test.YthdcjalkclnneaaIM
import Derived.Test.YthdcjalkclnneaaIA
import Derived.Test.YthdcjalkclnneaaIB
import Derived.Test.YthdcjalkclnneaaIC
import Derived.Test.YthdcjalkclnneaaIH
import Derived.Test.YthdcjalkclnneaaIN
import Derived.Test.YthdcjalkclnneaaIG
import Derived.Test.YthdcjalkclnneaaIR
import Derived.Test.YthdcjalkclnneaaIS
import Derived.Test.YthdcjalkclnneaaIV
import Derived.WalkKit
import Derived.ProofKit
import Derived.RowKit3
import Derived.Deep.RegionHeld3
import Derived.WalkSpells
import Derived.StillTactics
import Derived.Laws.FloatArith
import Derived.Deep.QuietTactic
import Derived.BigQuiet
namespace Go.Proofs.Ythdcjalkclnneaa
open Go.RowKit
set_option maxRecDepth 20000 in
set_option maxHeartbeats 1000000 in
theorem in_ (a b : Nat) (w : World) : Calls Try.prog 11 #[.agg #[.int .u64 (((a) : Nat) : Int), .int .u64 (((b) : Nat) : Int)]] w fun e w' => e = .returned (.agg #[.float .f64 a, .float .f64 b]) ∧ Grown w w' := by
  have h1 := ff64 a
  have h2 := ff64 b
  generalize (a : Int) = X at h1 ⊢
  generalize (b : Int) = Y at h2 ⊢
  go_enter Try.func11, Try.ntmps11
  go_wp2
  go_region_held3 (fun w' => w'.cell? ⟨w.heap.size, 0, none⟩ = some (.int .u64 X) ∧ w'.cell? ⟨w.heap.size, 1, none⟩ = some (.int .u64 Y)) (simp [go_sem]) (fail)
  go_wp2
  exact bodyPost_ret (v := .agg #[.float .f64 a, .float .f64 b]) (by simp [results, Try.results11, go_sem] <;> simp only [*]) rfl ⟨rfl, (by repeat (with_reducible (first | assumption | exact Grown.refl _ | apply Grown.drew | apply Grown.alloc | apply gdrewN | (refine Grown.setCell ?_ (by simp <;> omega) _) | (refine gtrans ?_ (by assumption)))))⟩
set_option maxRecDepth 20000 in
set_option maxHeartbeats 2000000 in
theorem rvalid_ (n n' : Bool) (m m' : Nat) (hm : m < 9223372036854775808) (hm' : m' < 9223372036854775808) (w : World) : Calls Try.prog 12 #[.agg #[.int .u64 (((wD n m) : Nat) : Int), .int .u64 (((wD n' m') : Nat) : Int)]] w fun e w' => e = .returned (.bool (vld (wD n m) (wD n' m'))) ∧ Grown w w' := by
  have hs := sound_ n n' m m' hm hm'
  unfold vld
  generalize snd (wD n m) (wD n' m') = s at hs ⊢
  have t1 : decide (wD n m = 9218868437227405312 ∧ wD n' m' = 18442240474082181120) = ((((wD n m : Nat) : Int) == 9218868437227405312) && (((wD n' m' : Nat) : Int) == 18442240474082181120)) := by
    by_cases c1 : wD n m = 9218868437227405312 <;> by_cases c2 : wD n' m' = 18442240474082181120 <;> simp [c1, c2] <;> omega
  have t3 : (!decide (wD n m = 9223372036854775808)) = (((wD n m : Nat) : Int) != 9223372036854775808) := by
    by_cases c1 : wD n m = 9223372036854775808 <;> simp [c1] <;> omega
  have t4 : (!decide (wD n' m' = 9223372036854775808)) = (((wD n' m' : Nat) : Int) != 9223372036854775808) := by
    by_cases c1 : wD n' m' = 9223372036854775808 <;> simp [c1] <;> omega
  rw [t1, t3, t4]
  clear t1 t3 t4 hm hm'
  generalize ((wD n m : Nat) : Int) = X at hs ⊢
  generalize ((wD n' m' : Nat) : Int) = Y at hs ⊢
  generalize h1 : (X == 9218868437227405312) = E1
  generalize h2 : (Y == 18442240474082181120) = E2
  generalize h3 : (X != 9223372036854775808) = E3
  generalize h4 : (Y != 9223372036854775808) = E4
  cases E1
  · cases s <;> cases E2 <;> cases E3 <;> cases E4
    all_goals (
      go_enter Try.func12, Try.ntmps12
      go_wp2
      go_region_held3 (fun w' => w'.cell? ⟨w.heap.size, 0, none⟩ = some (.int .u64 X) ∧ w'.cell? ⟨w.heap.size, 1, none⟩ = some (.int .u64 Y)) (simp [go_sem]) (first | (go_at_call 16; refine (rempty_ _).mono ?_; rintro e w' ⟨rfl, rfl⟩))
      go_wp2_with (first | (go_at_call 20; refine (hs _).mono ?_; rintro e w' ⟨rfl, rfl⟩))
      exact bodyPost_ret (v := .bool _) (by simp [results, Try.results12, go_sem] <;> simp only [*]) rfl ⟨rfl, (by repeat (with_reducible (first | assumption | exact Grown.refl _ | apply Grown.drew | apply Grown.alloc | apply gdrewN | (refine Grown.setCell ?_ (by simp <;> omega) _) | (refine gtrans ?_ (by assumption)))))⟩)
  cases E2
  · cases s <;> cases E3 <;> cases E4
    all_goals (
      go_enter Try.func12, Try.ntmps12
      go_wp2
      go_region_held3 (fun w' => w'.cell? ⟨w.heap.size, 0, none⟩ = some (.int .u64 X) ∧ w'.cell? ⟨w.heap.size, 1, none⟩ = some (.int .u64 Y)) (simp [go_sem]) (first | (go_at_call 16; refine (rempty_ _).mono ?_; rintro e w' ⟨rfl, rfl⟩))
      go_wp2_with (first | (go_at_call 20; refine (hs _).mono ?_; rintro e w' ⟨rfl, rfl⟩))
      exact bodyPost_ret (v := .bool _) (by simp [results, Try.results12, go_sem] <;> simp only [*]) rfl ⟨rfl, (by repeat (with_reducible (first | assumption | exact Grown.refl _ | apply Grown.drew | apply Grown.alloc | apply gdrewN | (refine Grown.setCell ?_ (by simp <;> omega) _) | (refine gtrans ?_ (by assumption)))))⟩)
  · cases s <;> cases E3 <;> cases E4
    all_goals (
      go_enter Try.func12, Try.ntmps12
      go_wp2
      go_region_held3 (fun w' => w'.cell? ⟨w.heap.size, 0, none⟩ = some (.int .u64 X) ∧ w'.cell? ⟨w.heap.size, 1, none⟩ = some (.int .u64 Y)) (simp [go_sem]) (first | (go_at_call 16; refine (rempty_ _).mono ?_; rintro e w' ⟨rfl, rfl⟩))
      go_wp2_with (first | (go_at_call 20; refine (hs _).mono ?_; rintro e w' ⟨rfl, rfl⟩))
      exact bodyPost_ret (v := .bool _) (by simp [results, Try.results12, go_sem] <;> simp only [*]) rfl ⟨rfl, (by repeat (with_reducible (first | assumption | exact Grown.refl _ | apply Grown.drew | apply Grown.alloc | apply gdrewN | (refine Grown.setCell ?_ (by simp <;> omega) _) | (refine gtrans ?_ (by assumption)))))⟩)
end Go.Proofs.Ythdcjalkclnneaa
