import Derived.Test.YtkjcdhbhhiaaiaaProg
import Derived.Test.YtkjcdhbhhiaaiaaM
import Derived.Test.YtkjcdhbhhiaaiaaA
import Derived.Test.YtkjcdhbhhiaaiaaUG
import Derived.Test.YtkjcdhbhhiaaiaaRS
import Derived.WalkKit
import Derived.ProofKit
import Derived.RowKit3
import Derived.Deep.RegionHeld3
import Derived.WalkSpells
import Derived.StillTactics
import Derived.Laws.FloatArith
import Derived.Deep.QuietTactic
import Derived.BigQuiet
namespace Go.Proofs.Ytkjcdhbhhiaaiaa
open Go.RowKit
set_option maxRecDepth 20000 in
set_option maxHeartbeats 1000000 in
theorem rsplitx_S (n : Bool) (m : Nat) (hm : 2139095040 ≤ m) (h2 : m < 2147483648) (w : World) : Calls Try.prog 22 #[.bool false, .int .u64 ((wS n m : Nat) : Int)] w fun e w' => e = .returned (.tuple #[.bool false, .int .u64 0, .int .i64 0, .bool false]) ∧ Grown w w' := by
  have hof := rof_S n m h2
  obtain ⟨x, hx⟩ : ∃ x : Int, x = ((wS n m : Nat) : Int) := ⟨_, rfl⟩
  rw [← hx] at hof ⊢
  obtain ⟨kd, hk⟩ : ∃ kd : Int, kd = kdS m := ⟨_, rfl⟩
  have e1 : (kd != 0) = true := by rw [hk]; unfold kdS kdG; simp; (repeat' split) <;> omega
  rw [← hk] at hof
  clear hx hk hm h2
  go_enter Try.func22, Try.ntmps22
  go_wp2_with (first | (go_at_call 46; refine (hof _).mono ?_; rintro e w' ⟨rfl, g1⟩))
  exact bodyPost_ret (v := .tuple #[.bool false, .int .u64 0, .int .i64 0, .bool false]) (by simp [results, Try.results22, go_sem] <;> simp only [*]) rfl ⟨rfl, (by repeat (with_reducible (first | assumption | exact Grown.refl _ | apply Grown.drew | apply Grown.alloc | apply gdrewN | (refine gtrans ?_ (by assumption)))))⟩

set_option maxRecDepth 20000 in
set_option maxHeartbeats 1000000 in
theorem rsplit_S (n : Bool) (m : Nat) (hm : m < 2139095040) (w : World) : Calls Try.prog 22 #[.bool false, .int .u64 ((wS n m : Nat) : Int)] w fun e w' => e = .returned (.tuple #[.bool (n && !(m == 0)), .int .u64 ((sgS m : Nat) : Int), .int .i64 (epS m), .bool true]) ∧ Grown w w' := by
  have hof := rof_S n m (by omega)
  have e0 : kdS m = 0 := by unfold kdS kdG; rw [if_pos hm]
  rw [e0] at hof
  obtain ⟨x, hx⟩ : ∃ x : Int, x = ((wS n m : Nat) : Int) := ⟨_, rfl⟩
  obtain ⟨s, hs⟩ : ∃ s : Int, s = ((sgS m : Nat) : Int) := ⟨_, rfl⟩
  obtain ⟨x2, hx2⟩ : ∃ x : Int, x = epS m := ⟨_, rfl⟩
  rw [← hx, ← hs, ← hx2] at hof
  rw [← hx, ← hs, ← hx2]
  have hz : m = 0 ↔ s = 0 := by rw [hs]; unfold sgS sgG; (repeat' split) <;> omega
  have hs0 : 0 ≤ s := by omega
  cases n
  · simp only [Bool.false_and]
    clear hx hs hx2 hm e0 hz hs0
    go_enter Try.func22, Try.ntmps22
    go_wp2_with fail
    refine (hof _).mono ?_; rintro e w1 ⟨rfl, g1⟩
    go_wp2_with fail
    refine wp_region_grow (by kernel_rfl) (by kernel_rfl) (fun ι _ G hG hall => ?_)
    have c0 : ∀ n, (G n).cell? ⟨w1.heap.size, 0, none⟩ = some (.int .i64 0) := fun n => gkeep (hG n) (by first | exact gkeep (Grown.alloc (Grown.refl _) _ _) (by assumption) | (simp [go_sem]; done) | (simp [go_sem, World.cell?_alloc_past]; done) | (simp [go_sem, *]; done))
    have c1 : ∀ n, (G n).cell? ⟨w1.heap.size, 1, none⟩ = some (.bool false) := fun n => gkeep (hG n) (by first | exact gkeep (Grown.alloc (Grown.refl _) _ _) (by assumption) | (simp [go_sem]; done) | (simp [go_sem, World.cell?_alloc_past]; done) | (simp [go_sem, *]; done))
    have c2 : ∀ n, (G n).cell? ⟨w1.heap.size, 2, none⟩ = some (.int .u64 s) := fun n => gkeep (hG n) (by first | exact gkeep (Grown.alloc (Grown.refl _) _ _) (by assumption) | (simp [go_sem]; done) | (simp [go_sem, World.cell?_alloc_past]; done) | (simp [go_sem, *]; done))
    have c3 : ∀ n, (G n).cell? ⟨w1.heap.size, 3, none⟩ = some (.int .i64 x2) := fun n => gkeep (hG n) (by first | exact gkeep (Grown.alloc (Grown.refl _) _ _) (by assumption) | (simp [go_sem]; done) | (simp [go_sem, World.cell?_alloc_past]; done) | (simp [go_sem, *]; done))
    repeat (go_big_quiet_step (fail))
    refine wpQuiet_nil ?_
    rintro _ ⟨nq, rfl⟩
    have gq := hG nq
    clear c0 c1 c2 c3 hall
    go_wp2
    exact bodyPost_ret (v := .tuple #[.bool false, .int .u64 s, .int .i64 x2, .bool true]) (by simp [results, Try.results22, go_sem] <;> simp only [*]) rfl ⟨rfl, (by repeat (with_reducible (first | assumption | exact Grown.refl _ | apply Grown.drew | apply Grown.alloc | apply gdrewN | (refine gtrans ?_ (by assumption)))))⟩
  · by_cases c : m = 0
    · have d1 : (true && !(m == 0)) = false := by simp [c]
      have d2 : decide (0 < s) = false := by simp; omega
      have d3 : ¬ (0 < s) := by omega
      rw [d1]
      clear hx hs hx2 hm e0 hz hs0 d1 c
      go_enter Try.func22, Try.ntmps22
      go_wp2_with fail
      refine (hof _).mono ?_; rintro e w1 ⟨rfl, g1⟩
      go_wp2_with fail
      refine wp_region_grow (by kernel_rfl) (by kernel_rfl) (fun ι _ G hG hall => ?_)
      have c0 : ∀ n, (G n).cell? ⟨w1.heap.size, 0, none⟩ = some (.int .i64 0) := fun n => gkeep (hG n) (by first | exact gkeep (Grown.alloc (Grown.refl _) _ _) (by assumption) | (simp [go_sem]; done) | (simp [go_sem, World.cell?_alloc_past]; done) | (simp [go_sem, *]; done))
      have c1 : ∀ n, (G n).cell? ⟨w1.heap.size, 1, none⟩ = some (.bool true) := fun n => gkeep (hG n) (by first | exact gkeep (Grown.alloc (Grown.refl _) _ _) (by assumption) | (simp [go_sem]; done) | (simp [go_sem, World.cell?_alloc_past]; done) | (simp [go_sem, *]; done))
      have c2 : ∀ n, (G n).cell? ⟨w1.heap.size, 2, none⟩ = some (.int .u64 s) := fun n => gkeep (hG n) (by first | exact gkeep (Grown.alloc (Grown.refl _) _ _) (by assumption) | (simp [go_sem]; done) | (simp [go_sem, World.cell?_alloc_past]; done) | (simp [go_sem, *]; done))
      have c3 : ∀ n, (G n).cell? ⟨w1.heap.size, 3, none⟩ = some (.int .i64 x2) := fun n => gkeep (hG n) (by first | exact gkeep (Grown.alloc (Grown.refl _) _ _) (by assumption) | (simp [go_sem]; done) | (simp [go_sem, World.cell?_alloc_past]; done) | (simp [go_sem, *]; done))
      repeat (go_big_quiet_step (fail))
      refine wpQuiet_nil ?_
      rintro _ ⟨nq, rfl⟩
      have gq := hG nq
      clear c0 c1 c2 c3 hall
      go_wp2
      exact bodyPost_ret (v := .tuple #[.bool false, .int .u64 s, .int .i64 x2, .bool true]) (by simp [results, Try.results22, go_sem] <;> simp only [*]) rfl ⟨rfl, (by repeat (with_reducible (first | assumption | exact Grown.refl _ | apply Grown.drew | apply Grown.alloc | apply gdrewN | (refine gtrans ?_ (by assumption)))))⟩
    · have d1 : (true && !(m == 0)) = true := by simp [c]
      have d2 : decide (0 < s) = true := by simp; omega
      have d3 : 0 < s := by omega
      rw [d1]
      clear hx hs hx2 hm e0 hz hs0 d1 c
      go_enter Try.func22, Try.ntmps22
      go_wp2_with fail
      refine (hof _).mono ?_; rintro e w1 ⟨rfl, g1⟩
      go_wp2_with fail
      refine wp_region_grow (by kernel_rfl) (by kernel_rfl) (fun ι _ G hG hall => ?_)
      have c0 : ∀ n, (G n).cell? ⟨w1.heap.size, 0, none⟩ = some (.int .i64 0) := fun n => gkeep (hG n) (by first | exact gkeep (Grown.alloc (Grown.refl _) _ _) (by assumption) | (simp [go_sem]; done) | (simp [go_sem, World.cell?_alloc_past]; done) | (simp [go_sem, *]; done))
      have c1 : ∀ n, (G n).cell? ⟨w1.heap.size, 1, none⟩ = some (.bool true) := fun n => gkeep (hG n) (by first | exact gkeep (Grown.alloc (Grown.refl _) _ _) (by assumption) | (simp [go_sem]; done) | (simp [go_sem, World.cell?_alloc_past]; done) | (simp [go_sem, *]; done))
      have c2 : ∀ n, (G n).cell? ⟨w1.heap.size, 2, none⟩ = some (.int .u64 s) := fun n => gkeep (hG n) (by first | exact gkeep (Grown.alloc (Grown.refl _) _ _) (by assumption) | (simp [go_sem]; done) | (simp [go_sem, World.cell?_alloc_past]; done) | (simp [go_sem, *]; done))
      have c3 : ∀ n, (G n).cell? ⟨w1.heap.size, 3, none⟩ = some (.int .i64 x2) := fun n => gkeep (hG n) (by first | exact gkeep (Grown.alloc (Grown.refl _) _ _) (by assumption) | (simp [go_sem]; done) | (simp [go_sem, World.cell?_alloc_past]; done) | (simp [go_sem, *]; done))
      repeat (go_big_quiet_step (fail))
      refine wpQuiet_nil ?_
      rintro _ ⟨nq, rfl⟩
      have gq := hG nq
      clear c0 c1 c2 c3 hall
      go_wp2
      exact bodyPost_ret (v := .tuple #[.bool true, .int .u64 s, .int .i64 x2, .bool true]) (by simp [results, Try.results22, go_sem] <;> simp only [*]) rfl ⟨rfl, (by repeat (with_reducible (first | assumption | exact Grown.refl _ | apply Grown.drew | apply Grown.alloc | apply gdrewN | (refine gtrans ?_ (by assumption)))))⟩

end Go.Proofs.Ytkjcdhbhhiaaiaa
