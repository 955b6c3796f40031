import Derived.Test.YthdcjalkclnneaaProg
import Derived.Test.YthdcjalkclnneaaM
import Derived.Test.YthdcjalkclnneaaA
import Derived.Test.YthdcjalkclnneaaIM
import Derived.Test.YthdcjalkclnneaaIA
import Derived.Test.YthdcjalkclnneaaIB
import Derived.WalkKit
import Derived.ProofKit
import Derived.RowKit3
import Derived.Deep.RegionHeld3
import Derived.WalkSpells
import Derived.StillTactics
import Derived.Laws.FloatArith
import Derived.Deep.QuietTactic
import Derived.BigQuiet
namespace Go.Proofs.Ythdcjalkclnneaa
open Go.RowKit
theorem eqIn6 (a c : Nat) (w : World) : (Op.equalIn 9999 25 (.float .f64 a) (.float .f64 c)).run Try.prog w = .ok (FloatKind.f64.format.order a c == some Ordering.eq) w := by kernel_rfl
set_option maxRecDepth 20000 in
set_option maxHeartbeats 1000000 in
theorem void_ (a b : Nat) (ha : a < 18446744073709551616) (hb : b < 18446744073709551616) (w : World) : Calls Try.prog 19 #[.agg #[.float .f64 a, .float .f64 b]] w fun e w' => e = .returned (.bool (decide (a = 9218868437227405312 ∧ b = 18442240474082181120))) ∧ Grown w w' := by
  have t2 := feqI a ha
  have t3 := feqM b hb
  have e1 : (decide (a = 9218868437227405312 ∧ b = 18442240474082181120)) = ((FloatKind.f64.format.order a 9218868437227405312 == some Ordering.eq) && (FloatKind.f64.format.order b 18442240474082181120 == some Ordering.eq)) := by
    rw [t2, t3]; by_cases c1 : a = 9218868437227405312 <;> by_cases c2 : b = 18442240474082181120 <;> simp [c1, c2]
  rw [e1]
  clear e1 t2 t3 ha hb
  have h0 := eqIn6 a 9218868437227405312
  have h1 := eqIn6 b 18442240474082181120
  generalize g1 : (FloatKind.f64.format.order a 9218868437227405312 == some Ordering.eq) = B1 at h0 ⊢
  generalize g2 : (FloatKind.f64.format.order b 18442240474082181120 == some Ordering.eq) = B2 at h1 ⊢
  cases B1 <;> cases B2
  · go_enter Try.func19, Try.ntmps19
    go_wp2
    go_region_held3 (fun w' => w'.cell? ⟨w.heap.size, 0, none⟩ = some (.float .f64 a) ∧ w'.cell? ⟨w.heap.size, 1, none⟩ = some (.float .f64 b)) (simp [go_sem, World.cell?_alloc_past]) (first | (go_at_call 15; refine (empty6_ _).mono ?_; rintro e w' ⟨rfl, rfl⟩))
    go_wp2
    exact bodyPost_ret (v := .bool false) (by simp [results, Try.results19, go_sem] <;> simp only [*]) rfl ⟨rfl, (by repeat (with_reducible (first | assumption | exact Grown.refl _ | apply Grown.drew | apply Grown.alloc | apply gdrewN | (refine Grown.setCell ?_ (by simp <;> omega) _) | (refine gtrans ?_ (by assumption)))))⟩
  · go_enter Try.func19, Try.ntmps19
    go_wp2
    go_region_held3 (fun w' => w'.cell? ⟨w.heap.size, 0, none⟩ = some (.float .f64 a) ∧ w'.cell? ⟨w.heap.size, 1, none⟩ = some (.float .f64 b)) (simp [go_sem, World.cell?_alloc_past]) (first | (go_at_call 15; refine (empty6_ _).mono ?_; rintro e w' ⟨rfl, rfl⟩))
    go_wp2
    exact bodyPost_ret (v := .bool false) (by simp [results, Try.results19, go_sem] <;> simp only [*]) rfl ⟨rfl, (by repeat (with_reducible (first | assumption | exact Grown.refl _ | apply Grown.drew | apply Grown.alloc | apply gdrewN | (refine Grown.setCell ?_ (by simp <;> omega) _) | (refine gtrans ?_ (by assumption)))))⟩
  · go_enter Try.func19, Try.ntmps19
    go_wp2
    go_region_held3 (fun w' => w'.cell? ⟨w.heap.size, 0, none⟩ = some (.float .f64 a) ∧ w'.cell? ⟨w.heap.size, 1, none⟩ = some (.float .f64 b)) (simp [go_sem, World.cell?_alloc_past]) (first | (go_at_call 15; refine (empty6_ _).mono ?_; rintro e w' ⟨rfl, rfl⟩))
    go_wp2
    exact bodyPost_ret (v := .bool false) (by simp [results, Try.results19, go_sem] <;> simp only [*]) rfl ⟨rfl, (by repeat (with_reducible (first | assumption | exact Grown.refl _ | apply Grown.drew | apply Grown.alloc | apply gdrewN | (refine Grown.setCell ?_ (by simp <;> omega) _) | (refine gtrans ?_ (by assumption)))))⟩
  · go_enter Try.func19, Try.ntmps19
    go_wp2
    go_region_held3 (fun w' => w'.cell? ⟨w.heap.size, 0, none⟩ = some (.float .f64 a) ∧ w'.cell? ⟨w.heap.size, 1, none⟩ = some (.float .f64 b)) (simp [go_sem, World.cell?_alloc_past]) (first | (go_at_call 15; refine (empty6_ _).mono ?_; rintro e w' ⟨rfl, rfl⟩))
    go_wp2
    exact bodyPost_ret (v := .bool true) (by simp [results, Try.results19, go_sem] <;> simp only [*]) rfl ⟨rfl, (by repeat (with_reducible (first | assumption | exact Grown.refl _ | apply Grown.drew | apply Grown.alloc | apply gdrewN | (refine Grown.setCell ?_ (by simp <;> omega) _) | (refine gtrans ?_ (by assumption)))))⟩
set_option maxRecDepth 20000 in
set_option maxHeartbeats 1000000 in
theorem signedNought_ (x : Nat) (hx : x < 18446744073709551616) (w : World) : Calls Try.prog 22 #[.float .f64 x] w fun e w' => e = .returned (.bool (decide (x = 9223372036854775808))) ∧ w' = w := by
  have t := feq0 x hx
  by_cases c : x = 0 ∨ x = 9223372036854775808
  · rw [decide_eq_true c] at t
    rcases c with rfl | rfl
    · have hs : ∀ w : World, Calls Try.prog 28 #[.float .f64 0] w fun e w' => e = .returned (.bool false) ∧ w' = w := by
        intro w
        have h2 : ∀ w : World, (callFunc 21 #[.float .f64 0]).run Try.prog w = .ok (.value (.int .u64 0)) w := fb64 0
        go_enter Try.func28, Try.ntmps28
        go_wp2_with (first | (simp only [h2]))
        exact bodyPost_ret (v := .bool false) (by simp [results, Try.results28, go_sem] <;> simp only [*]) rfl ⟨rfl, rfl⟩
      clear hx
      rw [show decide (0 = 9223372036854775808) = false from by decide]
      go_enter Try.func22, Try.ntmps22
      go_wp2_with (first | (go_at_call 28; refine (hs _).mono ?_; rintro e w' ⟨rfl, rfl⟩))
      exact bodyPost_ret (v := .bool false) (by simp [results, Try.results22, go_sem] <;> simp only [*]) rfl ⟨rfl, rfl⟩
    · have hs : ∀ w : World, Calls Try.prog 28 #[.float .f64 9223372036854775808] w fun e w' => e = .returned (.bool true) ∧ w' = w := by
        intro w
        have h2 : ∀ w : World, (callFunc 21 #[.float .f64 9223372036854775808]).run Try.prog w = .ok (.value (.int .u64 9223372036854775808)) w := fb64 9223372036854775808
        have b2 : wrap64 9223372036854775808 < 0 := by decide +kernel
        go_enter Try.func28, Try.ntmps28
        go_wp2_with (first | (simp only [h2]))
        exact bodyPost_ret (v := .bool true) (by simp [results, Try.results28, go_sem] <;> simp only [*]) rfl ⟨rfl, rfl⟩
      clear hx
      rw [show decide (9223372036854775808 = 9223372036854775808) = true from by decide]
      go_enter Try.func22, Try.ntmps22
      go_wp2_with (first | (go_at_call 28; refine (hs _).mono ?_; rintro e w' ⟨rfl, rfl⟩))
      exact bodyPost_ret (v := .bool true) (by simp [results, Try.results22, go_sem] <;> simp only [*]) rfl ⟨rfl, rfl⟩
  · rw [decide_eq_false c] at t
    rw [decide_eq_false (fun h => c (.inr h))]
    clear c hx
    go_enter Try.func22, Try.ntmps22
    go_wp2
    exact bodyPost_ret (v := .bool false) (by simp [results, Try.results22, go_sem] <;> simp only [*]) rfl ⟨rfl, rfl⟩
end Go.Proofs.Ythdcjalkclnneaa
