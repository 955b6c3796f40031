import Derived.Test.YthajkngngdnidaaProg
import Derived.Test.YthajkngngdnidaaKXA0
import Derived.Test.YthajkngngdnidaaKQM
import Derived.Test.YthajkngngdnidaaKQA
import Derived.Test.YthajkngngdnidaaKXQU
import Derived.Test.YthajkngngdnidaaKEM
import Derived.Test.YthajkngngdnidaaKEN
import Derived.Test.YthajkngngdnidaaKEA
import Derived.Test.YthajkngngdnidaaKEB
import Derived.Test.YthajkngngdnidaaKEH
import Derived.Test.YthajkngngdnidaaKEK
import Derived.Test.YthajkngngdnidaaKEO
import Derived.Test.YthajkngngdnidaaKER
import Derived.Test.YthajkngngdnidaaKES
import Derived.Test.YthajkngngdnidaaKNRv
import Derived.Test.YthajkngngdnidaaKNRm
import Derived.Test.YthajkngngdnidaaKNRa
import Derived.Test.YthajkngngdnidaaKNRb
import Derived.WalkKit
import Derived.ProofKit
import Derived.RowKit3
import Derived.WalkSpells
import Derived.StillTactics
import Derived.Deep.QuietTactic
import Derived.BigQuiet
import Derived.Below
import Derived.Deep.OwnRows
import Derived.OwnWalk
import Derived.Laws.BitsAllLaws
import Derived.Laws.Slices
import Derived.Laws.Bits64b
import Derived.Laws.FloatArith
import Derived.Deep.RegionHeld3
import Derived.Deep.CutRange
import Derived.Deep.DeepCutAuto
namespace Go.Proofs.Ythajkngngdnidaa
open Go.RowKit

def upN (L1 H1 L2 H2 : Int) : Int := if L1 = L2 ∧ H1 = H2 then 9 else if H1 = H2 then 8 else if L2 < L1 then 7 else if L1 = L2 then 6 else if L2 < H1 then 5 else if H1 = L2 then 4 else 3
/-- the state of two -/
def ovN (L1 H1 L2 H2 : Int) : Int := if L1 = 9218868437227405312 then (if L2 = 9218868437227405312 then 0 else 1) else if L2 = 9218868437227405312 then 2 else if H1 < H2 ∨ (H1 = H2 ∧ L2 ≤ L1) then upN L1 H1 L2 H2 else 18 - upN L2 H2 L1 H1
theorem upN_bd (L1 H1 L2 H2 : Int) : 3 ≤ upN L1 H1 L2 H2 ∧ upN L1 H1 L2 H2 ≤ 9 := by
  unfold upN; repeat' split
  all_goals omega
set_option maxRecDepth 20000 in
set_option maxHeartbeats 4000000 in
theorem upA_ (L1 H1 L2 H2 : Nat) (E1 E2 B2 B4 B5 : Bool) (t1 : (FloatKind.f64.format.order L1 L2 == some Ordering.eq) = E1) (t2 : (FloatKind.f64.format.order H1 H2 == some Ordering.eq) = E2) (t3 : (FloatKind.f64.format.order L1 L2 == some Ordering.gt) = B2) (t4 : (FloatKind.f64.format.order H1 L2 == some Ordering.gt) = B4) (t5 : (FloatKind.f64.format.order H1 L2 == some Ordering.eq) = B5) (w : World) : Calls Try.prog 54 #[.agg #[.float .f64 L1, .float .f64 H1], .agg #[.float .f64 L2, .float .f64 H2]] w fun e w' => e = .returned (.int .i64 (if E2 then (if E1 then 9 else 8) else if B2 then 7 else if E1 then 6 else if B4 then 5 else if B5 then 4 else 3)) ∧ Kp w w' := by
  have q1 := Fq.eqInR L1 L2
  have q2 := Fq.eqInR H1 H2
  rw [t1] at q1
  rw [t2] at q2
  cases E2
  · cases B2
    · cases E1
      · cases B4
        · cases B5
          · (
      go_enter Try.func54, Try.ntmps54
      go_wp2
      exact bodyPost_ret (v := .int .i64 3) (by simp [results, Try.results54, go_sem]) rfl ⟨rfl, (by repeat (with_reducible (first | assumption | exact Kp.refl _ | apply Kp.drew | apply Kp.alloc | apply Kp.drewN | (refine Kp.setCell ?_ (by first | omega | (simp <;> omega)) _) | (refine Kp.trans ?_ (by assumption)))))⟩)
          · (
      go_enter Try.func54, Try.ntmps54
      go_wp2
      exact bodyPost_ret (v := .int .i64 4) (by simp [results, Try.results54, go_sem]) rfl ⟨rfl, (by repeat (with_reducible (first | assumption | exact Kp.refl _ | apply Kp.drew | apply Kp.alloc | apply Kp.drewN | (refine Kp.setCell ?_ (by first | omega | (simp <;> omega)) _) | (refine Kp.trans ?_ (by assumption)))))⟩)
        · (
      go_enter Try.func54, Try.ntmps54
      go_wp2
      exact bodyPost_ret (v := .int .i64 5) (by simp [results, Try.results54, go_sem]) rfl ⟨rfl, (by repeat (with_reducible (first | assumption | exact Kp.refl _ | apply Kp.drew | apply Kp.alloc | apply Kp.drewN | (refine Kp.setCell ?_ (by first | omega | (simp <;> omega)) _) | (refine Kp.trans ?_ (by assumption)))))⟩)
      · (
      go_enter Try.func54, Try.ntmps54
      go_wp2
      exact bodyPost_ret (v := .int .i64 6) (by simp [results, Try.results54, go_sem]) rfl ⟨rfl, (by repeat (with_reducible (first | assumption | exact Kp.refl _ | apply Kp.drew | apply Kp.alloc | apply Kp.drewN | (refine Kp.setCell ?_ (by first | omega | (simp <;> omega)) _) | (refine Kp.trans ?_ (by assumption)))))⟩)
    · cases E1
      · (
      go_enter Try.func54, Try.ntmps54
      go_wp2
      exact bodyPost_ret (v := .int .i64 7) (by simp [results, Try.results54, go_sem]) rfl ⟨rfl, (by repeat (with_reducible (first | assumption | exact Kp.refl _ | apply Kp.drew | apply Kp.alloc | apply Kp.drewN | (refine Kp.setCell ?_ (by first | omega | (simp <;> omega)) _) | (refine Kp.trans ?_ (by assumption)))))⟩)
      · (
      go_enter Try.func54, Try.ntmps54
      go_wp2
      exact bodyPost_ret (v := .int .i64 7) (by simp [results, Try.results54, go_sem]) rfl ⟨rfl, (by repeat (with_reducible (first | assumption | exact Kp.refl _ | apply Kp.drew | apply Kp.alloc | apply Kp.drewN | (refine Kp.setCell ?_ (by first | omega | (simp <;> omega)) _) | (refine Kp.trans ?_ (by assumption)))))⟩)
  · cases E1
    · (
      go_enter Try.func54, Try.ntmps54
      go_wp2
      exact bodyPost_ret (v := .int .i64 8) (by simp [results, Try.results54, go_sem]) rfl ⟨rfl, (by repeat (with_reducible (first | assumption | exact Kp.refl _ | apply Kp.drew | apply Kp.alloc | apply Kp.drewN | (refine Kp.setCell ?_ (by first | omega | (simp <;> omega)) _) | (refine Kp.trans ?_ (by assumption)))))⟩)
    · (
      go_enter Try.func54, Try.ntmps54
      go_wp2
      exact bodyPost_ret (v := .int .i64 9) (by simp [results, Try.results54, go_sem]) rfl ⟨rfl, (by repeat (with_reducible (first | assumption | exact Kp.refl _ | apply Kp.drew | apply Kp.alloc | apply Kp.drewN | (refine Kp.setCell ?_ (by first | omega | (simp <;> omega)) _) | (refine Kp.trans ?_ (by assumption)))))⟩)
theorem up9_ (L1 H1 L2 H2 : Int) (h1 : VdZ L1 H1) (h2 : VdZ L2 H2) (w : World) : Calls Try.prog 54 #[.agg #[.float .f64 (pw L1), .float .f64 (pw H1)], .agg #[.float .f64 (pw L2), .float .f64 (pw H2)]] w fun e w' => e = .returned (.int .i64 (upN L1 H1 L2 H2)) ∧ Kp w w' := by
  have h := upA_ (pw L1) (pw H1) (pw L2) (pw H2) _ _ _ _ _ rfl rfl rfl rfl rfl w
  rw [peq9 L1 L2 h1.lo h2.lo, peq9 H1 H2 h1.hi h2.hi, pgt9 L1 L2 h1.lo h2.lo, pgt9 H1 L2 h1.hi h2.lo, peq9 H1 L2 h1.hi h2.lo] at h
  have e : (if decide (H1 = H2) = true then (if decide (L1 = L2) = true then (9 : Int) else 8) else if decide (L2 < L1) = true then 7 else if decide (L1 = L2) = true then 6 else if decide (L2 < H1) = true then 5 else if decide (H1 = L2) = true then 4 else 3) = upN L1 H1 L2 H2 := by
    unfold upN
    simp only [decide_eq_true_eq]
    by_cases c1 : L1 = L2 <;> by_cases c2 : H1 = H2 <;> simp [c1, c2]
  rw [e] at h
  exact h
end Go.Proofs.Ythajkngngdnidaa
