import Derived.Test.YthajkngngdnidaaProg
import Derived.Test.YthajkngngdnidaaKXA0
import Derived.Test.YthajkngngdnidaaKQM
import Derived.Test.YthajkngngdnidaaKQA
import Derived.Test.YthajkngngdnidaaKXQU
import Derived.Test.YthajkngngdnidaaKEM
import Derived.Test.YthajkngngdnidaaKEN
import Derived.Test.YthajkngngdnidaaKEA
import Derived.Test.YthajkngngdnidaaKEB
import Derived.Test.YthajkngngdnidaaKEH
import Derived.Test.YthajkngngdnidaaKEK
import Derived.Test.YthajkngngdnidaaKEO
import Derived.Test.YthajkngngdnidaaKER
import Derived.Test.YthajkngngdnidaaKES
import Derived.Test.YthajkngngdnidaaKNRv
import Derived.Test.YthajkngngdnidaaKNRm
import Derived.Test.YthajkngngdnidaaKNRa
import Derived.Test.YthajkngngdnidaaKNRb
import Derived.Test.YthajkngngdnidaaKNRc
import Derived.WalkKit
import Derived.ProofKit
import Derived.RowKit3
import Derived.WalkSpells
import Derived.StillTactics
import Derived.Deep.QuietTactic
import Derived.BigQuiet
import Derived.Below
import Derived.Deep.OwnRows
import Derived.OwnWalk
import Derived.Laws.BitsAllLaws
import Derived.Laws.Slices
import Derived.Laws.Bits64b
import Derived.Laws.FloatArith
import Derived.Deep.RegionHeld3
import Derived.Deep.CutRange
import Derived.Deep.DeepCutAuto
namespace Go.Proofs.Ythajkngngdnidaa
open Go.RowKit
set_option maxRecDepth 20000 in
set_option maxHeartbeats 1000000 in
theorem in9_ (a b : Nat) (w : World) : Calls Try.prog 11 #[.agg #[.int .u64 ((a : Nat) : Int), .int .u64 ((b : Nat) : Int)]] w fun e w' => e = .returned (.agg #[.float .f64 a, .float .f64 b]) ∧ Kp w w' := by
  have h1 := Fq.ff64 a
  have h2 := Fq.ff64 b
  generalize (a : Int) = X at h1 ⊢
  generalize (b : Int) = Y at h2 ⊢
  go_enter Try.func11, Try.ntmps11
  go_wp2
  go_region_held3 (fun w' => w'.cell? ⟨w.heap.size, 0, none⟩ = some (.int .u64 X) ∧ w'.cell? ⟨w.heap.size, 1, none⟩ = some (.int .u64 Y)) (simp [go_sem]) (fail)
  go_wp2
  exact bodyPost_ret (v := .agg #[.float .f64 a, .float .f64 b]) (by simp [results, Try.results11, go_sem]) rfl ⟨rfl, (by repeat (with_reducible (first | assumption | exact Kp.refl _ | apply Kp.drew | apply Kp.alloc | apply Kp.drewN | (refine Kp.setCell ?_ (by first | omega | (simp <;> omega)) _) | (refine Kp.trans ?_ (by assumption)))))⟩
set_option maxRecDepth 20000 in
set_option maxHeartbeats 1000000 in
theorem of9_ (a b : Nat) (w : World) : Calls Try.prog 41 #[.float .f64 a, .float .f64 b] w fun e w' => e = .returned (.agg #[.float .f64 a, .float .f64 b]) ∧ Kp w w' := by
  go_enter Try.func41, Try.ntmps41
  go_wp2
  exact bodyPost_ret (v := .agg #[.float .f64 a, .float .f64 b]) (by simp [results, Try.results41, go_sem]) rfl ⟨rfl, (by repeat (with_reducible (first | assumption | exact Kp.refl _ | apply Kp.drew | apply Kp.alloc | apply Kp.drewN | (refine Kp.setCell ?_ (by first | omega | (simp <;> omega)) _) | (refine Kp.trans ?_ (by assumption)))))⟩
theorem pw_of (x : Nat) (h : x ≤ 9218868437227405312) : pw (x : Int) = x := by
  unfold pw
  rw [show decide ((x : Int) < 0) = false from decide_eq_false (by omega), show ((x : Int)).natAbs = x from by omega]; rfl
theorem Rd.num (x y : Nat) (hx : x < 9218868437227405312) (hy : y ≤ 9218868437227405312) (h : x ≤ y) : Rd x y x y := by
  have g : VdZ (x : Int) (y : Int) := Or.inr (by omega)
  have r := Rd.of g
  rw [pw_of x (by omega), pw_of y hy] at r
  exact r
set_option maxRecDepth 20000 in
set_option maxHeartbeats 4000000 in
theorem awake9_ (w : World) : Calls Try.prog 9 #[] w fun e w' => e = .returned (.bool true) ∧ Kp w w' := by
  have r1 := Rd.num 4607182418800017408 4613937818241073152 (by decide) (by decide) (by decide)
  have r2 := Rd.num 4611686018427387904 4616189618054758400 (by decide) (by decide) (by decide)
  have r3 := Rd.num 4607182418800017408 4611686018427387904 (by decide) (by decide) (by decide)
  have hi := meet9_ _ _ _ _ _ _ _ _ r1 r2
  rw [show pw (iL ((4607182418800017408 : Nat) : Int) ((4613937818241073152 : Nat) : Int) ((4611686018427387904 : Nat) : Int) ((4616189618054758400 : Nat) : Int)) = 4611686018427387904 from by decide, show pw (iH ((4607182418800017408 : Nat) : Int) ((4613937818241073152 : Nat) : Int) ((4611686018427387904 : Nat) : Int) ((4616189618054758400 : Nat) : Int)) = 4613937818241073152 from by decide] at hi
  have s1 := subset9_ _ _ _ _ _ _ _ _ r3 r1
  have s2 := subset9_ _ _ _ _ _ _ _ _ r1 r3
  rw [show decide (((4607182418800017408 : Nat) : Int) ≤ ((4607182418800017408 : Nat) : Int) ∧ ((4611686018427387904 : Nat) : Int) ≤ ((4613937818241073152 : Nat) : Int)) = true from by decide] at s1
  rw [show decide (((4607182418800017408 : Nat) : Int) ≤ ((4607182418800017408 : Nat) : Int) ∧ ((4613937818241073152 : Nat) : Int) ≤ ((4611686018427387904 : Nat) : Int)) = false from by decide] at s2
  have q1 := Fq.eqInR 4611686018427387904 4611686018427387904
  have q2 := Fq.eqInR 4613937818241073152 4613937818241073152
  rw [show (FloatKind.f64.format.order 4611686018427387904 4611686018427387904 == some Ordering.eq) = true from by decide +kernel] at q1
  rw [show (FloatKind.f64.format.order 4613937818241073152 4613937818241073152 == some Ordering.eq) = true from by decide +kernel] at q2
  obtain ⟨PS, hPS⟩ : ∃ PS : Nat → Nat → Nat → Nat → Bool → Prop, PS = fun x1 x2 y1 y2 V => ∀ w : World, Calls Try.prog 24 #[.agg #[.float .f64 x1, .float .f64 x2], .agg #[.float .f64 y1, .float .f64 y2]] w fun e w' => e = .returned (.bool V) ∧ Kp w w' := ⟨_, rfl⟩
  have hs : ∀ x1 x2 y1 y2 V, PS x1 x2 y1 y2 V → ∀ w : World, Calls Try.prog 24 #[.agg #[.float .f64 x1, .float .f64 x2], .agg #[.float .f64 y1, .float .f64 y2]] w fun e w' => e = .returned (.bool V) ∧ Kp w w' := by
    intro x1 x2 y1 y2 V h
    rw [hPS] at h
    exact h
  have f1 : PS 4607182418800017408 4611686018427387904 4607182418800017408 4613937818241073152 true := by rw [hPS]; exact s1
  have f2 : PS 4607182418800017408 4613937818241073152 4607182418800017408 4611686018427387904 false := by rw [hPS]; exact s2
  clear hPS s1 s2 r1 r2 r3
  go_enter Try.func9, Try.ntmps9
  have kw : Kp w w := Kp.refl w
  go_wp2_with (first | (go_at_call 41; refine (of9_ _ _ _).mono ?_; rintro e wo ⟨rfl, go⟩; replace kw := Kp.trans kw go; clear go) | (go_at_call 40; refine (hi _).mono ?_; rintro e wi ⟨rfl, gi⟩; replace kw := Kp.trans kw gi; clear gi) | (go_at_call 24; refine (hs _ _ _ _ _ (by with_reducible first | exact f1 | exact f2) _).mono ?_; rintro e ws ⟨rfl, gs⟩; replace kw := Kp.trans kw gs; clear gs))
  exact bodyPost_ret (v := .bool true) (by simp [results, Try.results9, go_sem]) rfl ⟨rfl, kw⟩
end Go.Proofs.Ythajkngngdnidaa
