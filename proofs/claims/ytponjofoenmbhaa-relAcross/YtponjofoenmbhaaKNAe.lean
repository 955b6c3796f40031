import Derived.Test.YtponjofoenmbhaaProg
import Derived.Test.YtponjofoenmbhaaKXA0
import Derived.Test.YtponjofoenmbhaaKQM
import Derived.Test.YtponjofoenmbhaaKQA
import Derived.Test.YtponjofoenmbhaaKXQU
import Derived.Test.YtponjofoenmbhaaKEM
import Derived.Test.YtponjofoenmbhaaKEN
import Derived.Test.YtponjofoenmbhaaKEA
import Derived.Test.YtponjofoenmbhaaKEB
import Derived.Test.YtponjofoenmbhaaKEH
import Derived.Test.YtponjofoenmbhaaKEK
import Derived.Test.YtponjofoenmbhaaKEO
import Derived.Test.YtponjofoenmbhaaKER
import Derived.Test.YtponjofoenmbhaaKES
import Derived.Test.YtponjofoenmbhaaKNRv
import Derived.Test.YtponjofoenmbhaaKNRm
import Derived.Test.YtponjofoenmbhaaKNRa
import Derived.Test.YtponjofoenmbhaaKNRb
import Derived.Test.YtponjofoenmbhaaKNRc
import Derived.Test.YtponjofoenmbhaaKNRd
import Derived.Test.YtponjofoenmbhaaKNRe
import Derived.Test.YtponjofoenmbhaaKNRf
import Derived.Test.YtponjofoenmbhaaKNRg
import Derived.Test.YtponjofoenmbhaaKNRh
import Derived.Test.YtponjofoenmbhaaKNRi
import Derived.Test.YtponjofoenmbhaaKNRo
import Derived.Test.YtponjofoenmbhaaKNRp
import Derived.Test.YtponjofoenmbhaaKNRq
import Derived.Test.YtponjofoenmbhaaKNRr
import Derived.Test.YtponjofoenmbhaaKNRs
import Derived.Test.YtponjofoenmbhaaKNAa
import Derived.Test.YtponjofoenmbhaaKNAb
import Derived.Test.YtponjofoenmbhaaKNAc
import Derived.Test.YtponjofoenmbhaaKNAd
import Derived.WalkKit
import Derived.ProofKit
import Derived.RowKit3
import Derived.WalkSpells
import Derived.StillTactics
import Derived.Deep.QuietTactic
import Derived.BigQuiet
import Derived.Below
import Derived.Deep.OwnRows
import Derived.OwnWalk
import Derived.Laws.BitsAllLaws
import Derived.Laws.Slices
import Derived.Laws.Bits64b
import Derived.Laws.FloatArith
import Derived.Deep.RegionHeld3
import Derived.Deep.CutRange
import Derived.Deep.DeepCutAuto
namespace Go.Proofs.Ytponjofoenmbhaa
open Go.RowKit

set_option maxHeartbeats 4000000 in
theorem ov_facts (L1 H1 L2 H2 : Int) (h1 : VdZ L1 H1) (h2 : VdZ L2 H2) (K : Int) (hK : ovN L1 H1 L2 H2 = K) (J : Int) (hJ : ovN L2 H2 L1 H1 = J) : (0 ≤ K ∧ K ≤ 15) ∧ (J = K ∧ (K = 0 ∨ K = 9) ∨ J = 3 - K ∧ (K = 1 ∨ K = 2) ∨ J = 18 - K ∧ 3 ≤ K) ∧ (L1 = 9218868437227405312 ↔ (K = 0 ∨ K = 1)) ∧ (L2 = 9218868437227405312 ↔ (K = 0 ∨ K = 2)) ∧ ((¬ max L1 L2 ≤ min H1 H2) ↔ (K ≤ 2 ∨ K = 3 ∨ K = 15)) ∧ ((L1 = L2 ∧ H1 = H2) ↔ (K = 0 ∨ K = 9)) ∧ ((L2 ≤ L1 ∧ H1 ≤ H2) ↔ (K = 0 ∨ K = 1 ∨ (6 ≤ K ∧ K ≤ 9))) := by
  have u1 : ∀ x y z u : Int, upN x y z u = 9 ∧ x = z ∧ y = u ∨ upN x y z u = 8 ∧ x ≠ z ∧ y = u ∨ upN x y z u = 7 ∧ y ≠ u ∧ z < x ∨ upN x y z u = 6 ∧ y ≠ u ∧ x = z ∨ upN x y z u = 5 ∧ y ≠ u ∧ x < z ∧ z < y ∨ upN x y z u = 4 ∧ y ≠ u ∧ x < z ∧ y = z ∨ upN x y z u = 3 ∧ y ≠ u ∧ x < z ∧ y < z := by
    intro x y z u
    unfold upN
    repeat' split
    all_goals omega
  have w1 := u1 L1 H1 L2 H2
  have w2 := u1 L2 H2 L1 H1
  clear u1
  unfold VdZ at h1 h2
  unfold ovN at hK hJ
  by_cases c1 : L1 = 9218868437227405312
  · rw [if_pos c1] at hK
    by_cases c2 : L2 = 9218868437227405312
    · rw [if_pos c2] at hK
      rw [if_pos c2, if_pos c1] at hJ
      clear w1 w2
      omega
    · rw [if_neg c2] at hK
      rw [if_neg c2, if_pos c1] at hJ
      clear w1 w2
      omega
  rw [if_neg c1] at hK
  by_cases c2 : L2 = 9218868437227405312
  · rw [if_pos c2] at hK
    rw [if_pos c2, if_neg c1] at hJ
    clear w1 w2
    omega
  rw [if_neg c2] at hK
  rw [if_neg c2, if_neg c1] at hJ
  replace h1 : L1 < 9218868437227405312 ∧ L1 ≤ H1 := by omega
  replace h2 : L2 < 9218868437227405312 ∧ L2 ≤ H2 := by omega
  generalize upN L1 H1 L2 H2 = U at *
  generalize upN L2 H2 L1 H1 = V at *
  rcases w1 with w1 | w1 | w1 | w1 | w1 | w1 | w1 <;> rcases w2 with w2 | w2 | w2 | w2 | w2 | w2 | w2 <;> split at hK <;> split at hJ <;> omega
set_option maxHeartbeats 4000000 in
theorem acrosses_ (a b c d : Nat) (ha : a < 18446744073709551616) (hb : b < 18446744073709551616) (hc : c < 18446744073709551616) (hd : d < 18446744073709551616) (w : World) : Calls Try.prog 6 #[.agg #[.int .u64 ((a : Nat) : Int), .int .u64 ((b : Nat) : Int)], .agg #[.int .u64 ((c : Nat) : Int), .int .u64 ((d : Nat) : Int)]] w fun e w' => e = .returned (.bool true) ∧ Kp w w' := by
  obtain ⟨L1, H1, r1⟩ := Rd.ex a b ha hb
  obtain ⟨L2, H2, r2⟩ := Rd.ex c d hc hd
  have x1 := ov9_ a b c d L1 H1 L2 H2 r1 r2
  have x2 := ov9_ c d a b L2 H2 L1 H1 r2 r1
  have x3 := isemp9_ a b L1 H1 r1
  have x4 := isemp9_ c d L2 H2 r2
  have x5 := disj9_ a b c d L1 H1 L2 H2 r1 r2
  have x6 := equal9_ a b c d L1 H1 L2 H2 r1 r2
  have x7 := subset9_ a b c d L1 H1 L2 H2 r1 r2
  obtain ⟨K, hK⟩ : ∃ K, ovN L1 H1 L2 H2 = K := ⟨_, rfl⟩
  obtain ⟨J, hJ⟩ : ∃ J, ovN L2 H2 L1 H1 = J := ⟨_, rfl⟩
  obtain ⟨k1, k2, k3, k4, k5, k6, k7⟩ := ov_facts L1 H1 L2 H2 r1.vd r2.vd K hK J hJ
  rw [hK] at x1
  rw [hJ] at x2
  clear hK hJ
  have hk : K = 0 ∨ K = 1 ∨ K = 2 ∨ K = 3 ∨ K = 4 ∨ K = 5 ∨ K = 6 ∨ K = 7 ∨ K = 8 ∨ K = 9 ∨ K = 10 ∨ K = 11 ∨ K = 12 ∨ K = 13 ∨ K = 14 ∨ K = 15 := by omega
  rcases hk with rfl | rfl | rfl | rfl | rfl | rfl | rfl | rfl | rfl | rfl | rfl | rfl | rfl | rfl | rfl | rfl
  · have hJ9 : J = 0 := by omega
    subst hJ9
    rw [decide_eq_true (by omega)] at x3
    rw [decide_eq_true (by omega)] at x4
    rw [decide_eq_true (by omega)] at x5
    rw [decide_eq_true (by omega)] at x6
    rw [decide_eq_true (by omega)] at x7
    exact across0_ _ _ _ _ a b c d (fun f x1 x2 y1 y2 V => ∀ w : World, Calls Try.prog f #[.agg #[.float .f64 x1, .float .f64 x2], .agg #[.float .f64 y1, .float .f64 y2]] w fun e w' => e = .returned (.bool V) ∧ Kp w w') (fun x1 x2 V => ∀ w : World, Calls Try.prog 16 #[.agg #[.float .f64 x1, .float .f64 x2]] w fun e w' => e = .returned (.bool V) ∧ Kp w w') (fun x1 x2 y1 y2 k => ∀ w : World, Calls Try.prog 22 #[.agg #[.float .f64 x1, .float .f64 x2], .agg #[.float .f64 y1, .float .f64 y2]] w fun e w' => e = .returned (.int .i64 k) ∧ Kp w w') (fun _ _ _ _ _ _ h => h) (fun _ _ _ h => h) (fun _ _ _ _ _ h => h) x1 x2 x3 x4 x5 x6 x7 (in9_ a b) (in9_ c d) w
  · have hJ9 : J = 2 := by omega
    subst hJ9
    rw [decide_eq_true (by omega)] at x3
    rw [decide_eq_false (by omega)] at x4
    rw [decide_eq_true (by omega)] at x5
    rw [decide_eq_false (by omega)] at x6
    rw [decide_eq_true (by omega)] at x7
    exact across1_ _ _ _ _ a b c d (fun f x1 x2 y1 y2 V => ∀ w : World, Calls Try.prog f #[.agg #[.float .f64 x1, .float .f64 x2], .agg #[.float .f64 y1, .float .f64 y2]] w fun e w' => e = .returned (.bool V) ∧ Kp w w') (fun x1 x2 V => ∀ w : World, Calls Try.prog 16 #[.agg #[.float .f64 x1, .float .f64 x2]] w fun e w' => e = .returned (.bool V) ∧ Kp w w') (fun x1 x2 y1 y2 k => ∀ w : World, Calls Try.prog 22 #[.agg #[.float .f64 x1, .float .f64 x2], .agg #[.float .f64 y1, .float .f64 y2]] w fun e w' => e = .returned (.int .i64 k) ∧ Kp w w') (fun _ _ _ _ _ _ h => h) (fun _ _ _ h => h) (fun _ _ _ _ _ h => h) x1 x2 x3 x4 x5 x6 x7 (in9_ a b) (in9_ c d) w
  · have hJ9 : J = 1 := by omega
    subst hJ9
    rw [decide_eq_false (by omega)] at x3
    rw [decide_eq_true (by omega)] at x4
    rw [decide_eq_true (by omega)] at x5
    rw [decide_eq_false (by omega)] at x6
    rw [decide_eq_false (by omega)] at x7
    exact across2_ _ _ _ _ a b c d (fun f x1 x2 y1 y2 V => ∀ w : World, Calls Try.prog f #[.agg #[.float .f64 x1, .float .f64 x2], .agg #[.float .f64 y1, .float .f64 y2]] w fun e w' => e = .returned (.bool V) ∧ Kp w w') (fun x1 x2 V => ∀ w : World, Calls Try.prog 16 #[.agg #[.float .f64 x1, .float .f64 x2]] w fun e w' => e = .returned (.bool V) ∧ Kp w w') (fun x1 x2 y1 y2 k => ∀ w : World, Calls Try.prog 22 #[.agg #[.float .f64 x1, .float .f64 x2], .agg #[.float .f64 y1, .float .f64 y2]] w fun e w' => e = .returned (.int .i64 k) ∧ Kp w w') (fun _ _ _ _ _ _ h => h) (fun _ _ _ h => h) (fun _ _ _ _ _ h => h) x1 x2 x3 x4 x5 x6 x7 (in9_ a b) (in9_ c d) w
  · have hJ9 : J = 15 := by omega
    subst hJ9
    rw [decide_eq_false (by omega)] at x3
    rw [decide_eq_false (by omega)] at x4
    rw [decide_eq_true (by omega)] at x5
    rw [decide_eq_false (by omega)] at x6
    rw [decide_eq_false (by omega)] at x7
    exact across3_ _ _ _ _ a b c d (fun f x1 x2 y1 y2 V => ∀ w : World, Calls Try.prog f #[.agg #[.float .f64 x1, .float .f64 x2], .agg #[.float .f64 y1, .float .f64 y2]] w fun e w' => e = .returned (.bool V) ∧ Kp w w') (fun x1 x2 V => ∀ w : World, Calls Try.prog 16 #[.agg #[.float .f64 x1, .float .f64 x2]] w fun e w' => e = .returned (.bool V) ∧ Kp w w') (fun x1 x2 y1 y2 k => ∀ w : World, Calls Try.prog 22 #[.agg #[.float .f64 x1, .float .f64 x2], .agg #[.float .f64 y1, .float .f64 y2]] w fun e w' => e = .returned (.int .i64 k) ∧ Kp w w') (fun _ _ _ _ _ _ h => h) (fun _ _ _ h => h) (fun _ _ _ _ _ h => h) x1 x2 x3 x4 x5 x6 x7 (in9_ a b) (in9_ c d) w
  · have hJ9 : J = 14 := by omega
    subst hJ9
    rw [decide_eq_false (by omega)] at x3
    rw [decide_eq_false (by omega)] at x4
    rw [decide_eq_false (by omega)] at x5
    rw [decide_eq_false (by omega)] at x6
    rw [decide_eq_false (by omega)] at x7
    exact across4_ _ _ _ _ a b c d (fun f x1 x2 y1 y2 V => ∀ w : World, Calls Try.prog f #[.agg #[.float .f64 x1, .float .f64 x2], .agg #[.float .f64 y1, .float .f64 y2]] w fun e w' => e = .returned (.bool V) ∧ Kp w w') (fun x1 x2 V => ∀ w : World, Calls Try.prog 16 #[.agg #[.float .f64 x1, .float .f64 x2]] w fun e w' => e = .returned (.bool V) ∧ Kp w w') (fun x1 x2 y1 y2 k => ∀ w : World, Calls Try.prog 22 #[.agg #[.float .f64 x1, .float .f64 x2], .agg #[.float .f64 y1, .float .f64 y2]] w fun e w' => e = .returned (.int .i64 k) ∧ Kp w w') (fun _ _ _ _ _ _ h => h) (fun _ _ _ h => h) (fun _ _ _ _ _ h => h) x1 x2 x3 x4 x5 x6 x7 (in9_ a b) (in9_ c d) w
  · have hJ9 : J = 13 := by omega
    subst hJ9
    rw [decide_eq_false (by omega)] at x3
    rw [decide_eq_false (by omega)] at x4
    rw [decide_eq_false (by omega)] at x5
    rw [decide_eq_false (by omega)] at x6
    rw [decide_eq_false (by omega)] at x7
    exact across5_ _ _ _ _ a b c d (fun f x1 x2 y1 y2 V => ∀ w : World, Calls Try.prog f #[.agg #[.float .f64 x1, .float .f64 x2], .agg #[.float .f64 y1, .float .f64 y2]] w fun e w' => e = .returned (.bool V) ∧ Kp w w') (fun x1 x2 V => ∀ w : World, Calls Try.prog 16 #[.agg #[.float .f64 x1, .float .f64 x2]] w fun e w' => e = .returned (.bool V) ∧ Kp w w') (fun x1 x2 y1 y2 k => ∀ w : World, Calls Try.prog 22 #[.agg #[.float .f64 x1, .float .f64 x2], .agg #[.float .f64 y1, .float .f64 y2]] w fun e w' => e = .returned (.int .i64 k) ∧ Kp w w') (fun _ _ _ _ _ _ h => h) (fun _ _ _ h => h) (fun _ _ _ _ _ h => h) x1 x2 x3 x4 x5 x6 x7 (in9_ a b) (in9_ c d) w
  · have hJ9 : J = 12 := by omega
    subst hJ9
    rw [decide_eq_false (by omega)] at x3
    rw [decide_eq_false (by omega)] at x4
    rw [decide_eq_false (by omega)] at x5
    rw [decide_eq_false (by omega)] at x6
    rw [decide_eq_true (by omega)] at x7
    exact across6_ _ _ _ _ a b c d (fun f x1 x2 y1 y2 V => ∀ w : World, Calls Try.prog f #[.agg #[.float .f64 x1, .float .f64 x2], .agg #[.float .f64 y1, .float .f64 y2]] w fun e w' => e = .returned (.bool V) ∧ Kp w w') (fun x1 x2 V => ∀ w : World, Calls Try.prog 16 #[.agg #[.float .f64 x1, .float .f64 x2]] w fun e w' => e = .returned (.bool V) ∧ Kp w w') (fun x1 x2 y1 y2 k => ∀ w : World, Calls Try.prog 22 #[.agg #[.float .f64 x1, .float .f64 x2], .agg #[.float .f64 y1, .float .f64 y2]] w fun e w' => e = .returned (.int .i64 k) ∧ Kp w w') (fun _ _ _ _ _ _ h => h) (fun _ _ _ h => h) (fun _ _ _ _ _ h => h) x1 x2 x3 x4 x5 x6 x7 (in9_ a b) (in9_ c d) w
  · have hJ9 : J = 11 := by omega
    subst hJ9
    rw [decide_eq_false (by omega)] at x3
    rw [decide_eq_false (by omega)] at x4
    rw [decide_eq_false (by omega)] at x5
    rw [decide_eq_false (by omega)] at x6
    rw [decide_eq_true (by omega)] at x7
    exact across7_ _ _ _ _ a b c d (fun f x1 x2 y1 y2 V => ∀ w : World, Calls Try.prog f #[.agg #[.float .f64 x1, .float .f64 x2], .agg #[.float .f64 y1, .float .f64 y2]] w fun e w' => e = .returned (.bool V) ∧ Kp w w') (fun x1 x2 V => ∀ w : World, Calls Try.prog 16 #[.agg #[.float .f64 x1, .float .f64 x2]] w fun e w' => e = .returned (.bool V) ∧ Kp w w') (fun x1 x2 y1 y2 k => ∀ w : World, Calls Try.prog 22 #[.agg #[.float .f64 x1, .float .f64 x2], .agg #[.float .f64 y1, .float .f64 y2]] w fun e w' => e = .returned (.int .i64 k) ∧ Kp w w') (fun _ _ _ _ _ _ h => h) (fun _ _ _ h => h) (fun _ _ _ _ _ h => h) x1 x2 x3 x4 x5 x6 x7 (in9_ a b) (in9_ c d) w
  · have hJ9 : J = 10 := by omega
    subst hJ9
    rw [decide_eq_false (by omega)] at x3
    rw [decide_eq_false (by omega)] at x4
    rw [decide_eq_false (by omega)] at x5
    rw [decide_eq_false (by omega)] at x6
    rw [decide_eq_true (by omega)] at x7
    exact across8_ _ _ _ _ a b c d (fun f x1 x2 y1 y2 V => ∀ w : World, Calls Try.prog f #[.agg #[.float .f64 x1, .float .f64 x2], .agg #[.float .f64 y1, .float .f64 y2]] w fun e w' => e = .returned (.bool V) ∧ Kp w w') (fun x1 x2 V => ∀ w : World, Calls Try.prog 16 #[.agg #[.float .f64 x1, .float .f64 x2]] w fun e w' => e = .returned (.bool V) ∧ Kp w w') (fun x1 x2 y1 y2 k => ∀ w : World, Calls Try.prog 22 #[.agg #[.float .f64 x1, .float .f64 x2], .agg #[.float .f64 y1, .float .f64 y2]] w fun e w' => e = .returned (.int .i64 k) ∧ Kp w w') (fun _ _ _ _ _ _ h => h) (fun _ _ _ h => h) (fun _ _ _ _ _ h => h) x1 x2 x3 x4 x5 x6 x7 (in9_ a b) (in9_ c d) w
  · have hJ9 : J = 9 := by omega
    subst hJ9
    rw [decide_eq_false (by omega)] at x3
    rw [decide_eq_false (by omega)] at x4
    rw [decide_eq_false (by omega)] at x5
    rw [decide_eq_true (by omega)] at x6
    rw [decide_eq_true (by omega)] at x7
    exact across9_ _ _ _ _ a b c d (fun f x1 x2 y1 y2 V => ∀ w : World, Calls Try.prog f #[.agg #[.float .f64 x1, .float .f64 x2], .agg #[.float .f64 y1, .float .f64 y2]] w fun e w' => e = .returned (.bool V) ∧ Kp w w') (fun x1 x2 V => ∀ w : World, Calls Try.prog 16 #[.agg #[.float .f64 x1, .float .f64 x2]] w fun e w' => e = .returned (.bool V) ∧ Kp w w') (fun x1 x2 y1 y2 k => ∀ w : World, Calls Try.prog 22 #[.agg #[.float .f64 x1, .float .f64 x2], .agg #[.float .f64 y1, .float .f64 y2]] w fun e w' => e = .returned (.int .i64 k) ∧ Kp w w') (fun _ _ _ _ _ _ h => h) (fun _ _ _ h => h) (fun _ _ _ _ _ h => h) x1 x2 x3 x4 x5 x6 x7 (in9_ a b) (in9_ c d) w
  · have hJ9 : J = 8 := by omega
    subst hJ9
    rw [decide_eq_false (by omega)] at x3
    rw [decide_eq_false (by omega)] at x4
    rw [decide_eq_false (by omega)] at x5
    rw [decide_eq_false (by omega)] at x6
    rw [decide_eq_false (by omega)] at x7
    exact across10_ _ _ _ _ a b c d (fun f x1 x2 y1 y2 V => ∀ w : World, Calls Try.prog f #[.agg #[.float .f64 x1, .float .f64 x2], .agg #[.float .f64 y1, .float .f64 y2]] w fun e w' => e = .returned (.bool V) ∧ Kp w w') (fun x1 x2 V => ∀ w : World, Calls Try.prog 16 #[.agg #[.float .f64 x1, .float .f64 x2]] w fun e w' => e = .returned (.bool V) ∧ Kp w w') (fun x1 x2 y1 y2 k => ∀ w : World, Calls Try.prog 22 #[.agg #[.float .f64 x1, .float .f64 x2], .agg #[.float .f64 y1, .float .f64 y2]] w fun e w' => e = .returned (.int .i64 k) ∧ Kp w w') (fun _ _ _ _ _ _ h => h) (fun _ _ _ h => h) (fun _ _ _ _ _ h => h) x1 x2 x3 x4 x5 x6 x7 (in9_ a b) (in9_ c d) w
  · have hJ9 : J = 7 := by omega
    subst hJ9
    rw [decide_eq_false (by omega)] at x3
    rw [decide_eq_false (by omega)] at x4
    rw [decide_eq_false (by omega)] at x5
    rw [decide_eq_false (by omega)] at x6
    rw [decide_eq_false (by omega)] at x7
    exact across11_ _ _ _ _ a b c d (fun f x1 x2 y1 y2 V => ∀ w : World, Calls Try.prog f #[.agg #[.float .f64 x1, .float .f64 x2], .agg #[.float .f64 y1, .float .f64 y2]] w fun e w' => e = .returned (.bool V) ∧ Kp w w') (fun x1 x2 V => ∀ w : World, Calls Try.prog 16 #[.agg #[.float .f64 x1, .float .f64 x2]] w fun e w' => e = .returned (.bool V) ∧ Kp w w') (fun x1 x2 y1 y2 k => ∀ w : World, Calls Try.prog 22 #[.agg #[.float .f64 x1, .float .f64 x2], .agg #[.float .f64 y1, .float .f64 y2]] w fun e w' => e = .returned (.int .i64 k) ∧ Kp w w') (fun _ _ _ _ _ _ h => h) (fun _ _ _ h => h) (fun _ _ _ _ _ h => h) x1 x2 x3 x4 x5 x6 x7 (in9_ a b) (in9_ c d) w
  · have hJ9 : J = 6 := by omega
    subst hJ9
    rw [decide_eq_false (by omega)] at x3
    rw [decide_eq_false (by omega)] at x4
    rw [decide_eq_false (by omega)] at x5
    rw [decide_eq_false (by omega)] at x6
    rw [decide_eq_false (by omega)] at x7
    exact across12_ _ _ _ _ a b c d (fun f x1 x2 y1 y2 V => ∀ w : World, Calls Try.prog f #[.agg #[.float .f64 x1, .float .f64 x2], .agg #[.float .f64 y1, .float .f64 y2]] w fun e w' => e = .returned (.bool V) ∧ Kp w w') (fun x1 x2 V => ∀ w : World, Calls Try.prog 16 #[.agg #[.float .f64 x1, .float .f64 x2]] w fun e w' => e = .returned (.bool V) ∧ Kp w w') (fun x1 x2 y1 y2 k => ∀ w : World, Calls Try.prog 22 #[.agg #[.float .f64 x1, .float .f64 x2], .agg #[.float .f64 y1, .float .f64 y2]] w fun e w' => e = .returned (.int .i64 k) ∧ Kp w w') (fun _ _ _ _ _ _ h => h) (fun _ _ _ h => h) (fun _ _ _ _ _ h => h) x1 x2 x3 x4 x5 x6 x7 (in9_ a b) (in9_ c d) w
  · have hJ9 : J = 5 := by omega
    subst hJ9
    rw [decide_eq_false (by omega)] at x3
    rw [decide_eq_false (by omega)] at x4
    rw [decide_eq_false (by omega)] at x5
    rw [decide_eq_false (by omega)] at x6
    rw [decide_eq_false (by omega)] at x7
    exact across13_ _ _ _ _ a b c d (fun f x1 x2 y1 y2 V => ∀ w : World, Calls Try.prog f #[.agg #[.float .f64 x1, .float .f64 x2], .agg #[.float .f64 y1, .float .f64 y2]] w fun e w' => e = .returned (.bool V) ∧ Kp w w') (fun x1 x2 V => ∀ w : World, Calls Try.prog 16 #[.agg #[.float .f64 x1, .float .f64 x2]] w fun e w' => e = .returned (.bool V) ∧ Kp w w') (fun x1 x2 y1 y2 k => ∀ w : World, Calls Try.prog 22 #[.agg #[.float .f64 x1, .float .f64 x2], .agg #[.float .f64 y1, .float .f64 y2]] w fun e w' => e = .returned (.int .i64 k) ∧ Kp w w') (fun _ _ _ _ _ _ h => h) (fun _ _ _ h => h) (fun _ _ _ _ _ h => h) x1 x2 x3 x4 x5 x6 x7 (in9_ a b) (in9_ c d) w
  · have hJ9 : J = 4 := by omega
    subst hJ9
    rw [decide_eq_false (by omega)] at x3
    rw [decide_eq_false (by omega)] at x4
    rw [decide_eq_false (by omega)] at x5
    rw [decide_eq_false (by omega)] at x6
    rw [decide_eq_false (by omega)] at x7
    exact across14_ _ _ _ _ a b c d (fun f x1 x2 y1 y2 V => ∀ w : World, Calls Try.prog f #[.agg #[.float .f64 x1, .float .f64 x2], .agg #[.float .f64 y1, .float .f64 y2]] w fun e w' => e = .returned (.bool V) ∧ Kp w w') (fun x1 x2 V => ∀ w : World, Calls Try.prog 16 #[.agg #[.float .f64 x1, .float .f64 x2]] w fun e w' => e = .returned (.bool V) ∧ Kp w w') (fun x1 x2 y1 y2 k => ∀ w : World, Calls Try.prog 22 #[.agg #[.float .f64 x1, .float .f64 x2], .agg #[.float .f64 y1, .float .f64 y2]] w fun e w' => e = .returned (.int .i64 k) ∧ Kp w w') (fun _ _ _ _ _ _ h => h) (fun _ _ _ h => h) (fun _ _ _ _ _ h => h) x1 x2 x3 x4 x5 x6 x7 (in9_ a b) (in9_ c d) w
  · have hJ9 : J = 3 := by omega
    subst hJ9
    rw [decide_eq_false (by omega)] at x3
    rw [decide_eq_false (by omega)] at x4
    rw [decide_eq_true (by omega)] at x5
    rw [decide_eq_false (by omega)] at x6
    rw [decide_eq_false (by omega)] at x7
    exact across15_ _ _ _ _ a b c d (fun f x1 x2 y1 y2 V => ∀ w : World, Calls Try.prog f #[.agg #[.float .f64 x1, .float .f64 x2], .agg #[.float .f64 y1, .float .f64 y2]] w fun e w' => e = .returned (.bool V) ∧ Kp w w') (fun x1 x2 V => ∀ w : World, Calls Try.prog 16 #[.agg #[.float .f64 x1, .float .f64 x2]] w fun e w' => e = .returned (.bool V) ∧ Kp w w') (fun x1 x2 y1 y2 k => ∀ w : World, Calls Try.prog 22 #[.agg #[.float .f64 x1, .float .f64 x2], .agg #[.float .f64 y1, .float .f64 y2]] w fun e w' => e = .returned (.int .i64 k) ∧ Kp w w') (fun _ _ _ _ _ _ h => h) (fun _ _ _ h => h) (fun _ _ _ _ _ h => h) x1 x2 x3 x4 x5 x6 x7 (in9_ a b) (in9_ c d) w
end Go.Proofs.Ytponjofoenmbhaa
