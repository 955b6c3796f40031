import Derived.Test.YthajkngngdnidaaProg
import Derived.Test.YthajkngngdnidaaKXA0
import Derived.Test.YthajkngngdnidaaKQM
import Derived.Test.YthajkngngdnidaaKQA
import Derived.Test.YthajkngngdnidaaKXQU
import Derived.Test.YthajkngngdnidaaKEM
import Derived.Test.YthajkngngdnidaaKEN
import Derived.Test.YthajkngngdnidaaKEA
import Derived.Test.YthajkngngdnidaaKEB
import Derived.Test.YthajkngngdnidaaKEH
import Derived.Test.YthajkngngdnidaaKEK
import Derived.Test.YthajkngngdnidaaKEO
import Derived.Test.YthajkngngdnidaaKER
import Derived.Test.YthajkngngdnidaaKES
import Derived.Test.YthajkngngdnidaaKNRv
import Derived.Test.YthajkngngdnidaaKNRm
import Derived.Test.YthajkngngdnidaaKNRa
import Derived.Test.YthajkngngdnidaaKNRj
import Derived.Test.YthajkngngdnidaaKNCo
import Derived.Test.YthajkngngdnidaaKNCm
import Derived.Test.YthajkngngdnidaaKNCa
import Derived.Test.YthajkngngdnidaaKNCb
import Derived.Test.YthajkngngdnidaaKNCc
import Derived.Test.YthajkngngdnidaaKNCd
import Derived.Test.YthajkngngdnidaaKNCe
import Derived.Test.YthajkngngdnidaaKNCf
import Derived.Test.YthajkngngdnidaaKNCg
import Derived.WalkKit
import Derived.ProofKit
import Derived.RowKit3
import Derived.WalkSpells
import Derived.StillTactics
import Derived.Deep.QuietTactic
import Derived.BigQuiet
import Derived.Below
import Derived.Deep.OwnRows
import Derived.OwnWalk
import Derived.Laws.BitsAllLaws
import Derived.Laws.Slices
import Derived.Laws.Bits64b
import Derived.Laws.FloatArith
import Derived.Deep.RegionHeld3
import Derived.Deep.CutRange
import Derived.Deep.DeepCutAuto
namespace Go.Proofs.Ythajkngngdnidaa
open Go.RowKit

set_option linter.unusedSimpArgs false
theorem rowsZ_ (X1 X2 Y1 Y2 L1 H1 L2 H2 : Int) (d1 : VdZ L1 H1) (d2 : VdZ L2 H2) (hx : ∀ w : World, Calls Try.prog 10 #[.agg #[.int .u64 X1, .int .u64 X2]] w fun e w' => e = .returned (.agg #[.int .u64 (pI L1), .int .u64 (pI H1)]) ∧ Kp w w') (hy : ∀ w : World, Calls Try.prog 10 #[.agg #[.int .u64 Y1, .int .u64 Y2]] w fun e w' => e = .returned (.agg #[.int .u64 (pI L2), .int .u64 (pI H2)]) ∧ Kp w w') (w : World) : Calls Try.prog 49 #[.agg #[.int .u64 X1, .int .u64 X2], .agg #[.int .u64 Y1, .int .u64 Y2]] w fun e w' => ∃ P1 Q1 P2 Q2 n : Nat, e = .returned (.tuple #[.agg #[.bool (decide (L1 = 9218868437227405312)), .int .i64 ((P1 : Nat) : Int), .int .i64 ((Q1 : Nat) : Int)], .agg #[.bool (decide (L2 = 9218868437227405312)), .int .i64 ((P2 : Nat) : Int), .int .i64 ((Q2 : Nat) : Int)], .int .i64 (n : Int)]) ∧ RowOk L1 H1 L2 H2 P1 Q1 P2 Q2 n ∧ Kp w w' := by
  refine (rows_ X1 X2 Y1 Y2 L1 H1 L2 H2 _ _ d1 d2 rfl rfl hx hy (fun j => if j = 0 then L1 else if j = 1 then H1 else if j = 2 then L2 else H2) rfl rfl rfl rfl w).mono ?_
  rintro e w' ⟨cs, rfl, hcut, hk⟩
  have h := row_ok _ cs hcut (fun j hj => by
    match j, hj with
    | 0, _ => exact d1.lo
    | 1, _ => exact d1.hi
    | 2, _ => exact d2.lo
    | 3, _ => exact d2.hi)
  exact ⟨_, _, _, _, _, rfl, h, hk⟩
theorem bool_dec {b : Bool} {p : Prop} [Decidable p] (h : b = true ↔ p) : b = decide p := by
  cases b
  · rw [decide_eq_false (fun x => by cases h.2 x)]
  · rw [decide_eq_true (h.1 rfl)]
theorem RowOk.nn1 {L1 H1 L2 H2 : Int} {P1 Q1 P2 Q2 n : Nat} (ok : RowOk L1 H1 L2 H2 P1 Q1 P2 Q2 n) : L1 = 9218868437227405312 ↔ P1 = n := by
  obtain ⟨o1, o2, o3, ⟨a1, a2, a3, a4⟩, ⟨b1, b2, b3, b4⟩, ⟨c1, c2, c3, c4⟩, ⟨e1, e2, e3, e4⟩, f1, f2, f3, f4, f5, f6, f7, f8, g1, g2, g3, g4⟩ := ok
  clear o1 o2 o3 a1 a2 a3 b1 b2 b3 b4 c1 c2 c3 c4 e1 e2 e3 e4 f1 f2 f3 f4 f5 f6 f7 f8 g1 g2 g3 g4
  exact a4
theorem RowOk.nn2 {L1 H1 L2 H2 : Int} {P1 Q1 P2 Q2 n : Nat} (ok : RowOk L1 H1 L2 H2 P1 Q1 P2 Q2 n) : L2 = 9218868437227405312 ↔ P2 = n := by
  obtain ⟨o1, o2, o3, ⟨a1, a2, a3, a4⟩, ⟨b1, b2, b3, b4⟩, ⟨c1, c2, c3, c4⟩, ⟨e1, e2, e3, e4⟩, f1, f2, f3, f4, f5, f6, f7, f8, g1, g2, g3, g4⟩ := ok
  clear o1 o2 o3 a1 a2 a3 a4 b1 b2 b3 b4 c1 c2 c3 e1 e2 e3 e4 f1 f2 f3 f4 f5 f6 f7 f8 g1 g2 g3 g4
  exact c4
theorem RowOk.hi1 {L1 H1 L2 H2 : Int} {P1 Q1 P2 Q2 n : Nat} (ok : RowOk L1 H1 L2 H2 P1 Q1 P2 Q2 n) : H1 = 9218868437227405312 ↔ Q1 = n := by
  obtain ⟨o1, o2, o3, ⟨a1, a2, a3, a4⟩, ⟨b1, b2, b3, b4⟩, ⟨c1, c2, c3, c4⟩, ⟨e1, e2, e3, e4⟩, f1, f2, f3, f4, f5, f6, f7, f8, g1, g2, g3, g4⟩ := ok
  clear o1 o2 o3 a1 a2 a3 a4 b1 b2 b3 c1 c2 c3 c4 e1 e2 e3 e4 f1 f2 f3 f4 f5 f6 f7 f8 g1 g2 g3 g4
  exact b4
theorem RowOk.hi2 {L1 H1 L2 H2 : Int} {P1 Q1 P2 Q2 n : Nat} (ok : RowOk L1 H1 L2 H2 P1 Q1 P2 Q2 n) : H2 = 9218868437227405312 ↔ Q2 = n := by
  obtain ⟨o1, o2, o3, ⟨a1, a2, a3, a4⟩, ⟨b1, b2, b3, b4⟩, ⟨c1, c2, c3, c4⟩, ⟨e1, e2, e3, e4⟩, f1, f2, f3, f4, f5, f6, f7, f8, g1, g2, g3, g4⟩ := ok
  clear o1 o2 o3 a1 a2 a3 a4 b1 b2 b3 b4 c1 c2 c3 c4 e1 e2 e3 f1 f2 f3 f4 f5 f6 f7 f8 g1 g2 g3 g4
  exact e4
theorem RowOk.lo1 {L1 H1 L2 H2 : Int} {P1 Q1 P2 Q2 n : Nat} (ok : RowOk L1 H1 L2 H2 P1 Q1 P2 Q2 n) : L1 = -9218868437227405312 ↔ P1 = 0 := by
  obtain ⟨o1, o2, o3, ⟨a1, a2, a3, a4⟩, ⟨b1, b2, b3, b4⟩, ⟨c1, c2, c3, c4⟩, ⟨e1, e2, e3, e4⟩, f1, f2, f3, f4, f5, f6, f7, f8, g1, g2, g3, g4⟩ := ok
  clear o1 o2 o3 a1 a2 a4 b1 b2 b3 b4 c1 c2 c3 c4 e1 e2 e3 e4 f1 f2 f3 f4 f5 f6 f7 f8 g1 g2 g3 g4
  exact a3
theorem RowOk.lo2 {L1 H1 L2 H2 : Int} {P1 Q1 P2 Q2 n : Nat} (ok : RowOk L1 H1 L2 H2 P1 Q1 P2 Q2 n) : L2 = -9218868437227405312 ↔ P2 = 0 := by
  obtain ⟨o1, o2, o3, ⟨a1, a2, a3, a4⟩, ⟨b1, b2, b3, b4⟩, ⟨c1, c2, c3, c4⟩, ⟨e1, e2, e3, e4⟩, f1, f2, f3, f4, f5, f6, f7, f8, g1, g2, g3, g4⟩ := ok
  clear o1 o2 o3 a1 a2 a3 a4 b1 b2 b3 b4 c1 c2 c4 e1 e2 e3 e4 f1 f2 f3 f4 f5 f6 f7 f8 g1 g2 g3 g4
  exact c3
theorem RowOk.ll {L1 H1 L2 H2 : Int} {P1 Q1 P2 Q2 n : Nat} (ok : RowOk L1 H1 L2 H2 P1 Q1 P2 Q2 n) : L2 ≤ L1 ↔ P2 ≤ P1 := by
  obtain ⟨o1, o2, o3, ⟨a1, a2, a3, a4⟩, ⟨b1, b2, b3, b4⟩, ⟨c1, c2, c3, c4⟩, ⟨e1, e2, e3, e4⟩, f1, f2, f3, f4, f5, f6, f7, f8, g1, g2, g3, g4⟩ := ok
  clear o1 o2 o3 a1 a2 a3 a4 b1 b2 b3 b4 c1 c2 c3 c4 e1 e2 e3 e4 f1 f2 f3 f4 f6 f7 f8 g1 g2 g3 g4
  omega
theorem RowOk.ll2 {L1 H1 L2 H2 : Int} {P1 Q1 P2 Q2 n : Nat} (ok : RowOk L1 H1 L2 H2 P1 Q1 P2 Q2 n) : L1 ≤ L2 ↔ P1 ≤ P2 := by
  obtain ⟨o1, o2, o3, ⟨a1, a2, a3, a4⟩, ⟨b1, b2, b3, b4⟩, ⟨c1, c2, c3, c4⟩, ⟨e1, e2, e3, e4⟩, f1, f2, f3, f4, f5, f6, f7, f8, g1, g2, g3, g4⟩ := ok
  clear o1 o2 o3 a1 a2 a3 a4 b1 b2 b3 b4 c1 c2 c3 c4 e1 e2 e3 e4 f1 f2 f3 f4 f5 f7 f8 g1 g2 g3 g4
  omega
theorem RowOk.hh {L1 H1 L2 H2 : Int} {P1 Q1 P2 Q2 n : Nat} (ok : RowOk L1 H1 L2 H2 P1 Q1 P2 Q2 n) : H1 ≤ H2 ↔ Q1 ≤ Q2 := by
  obtain ⟨o1, o2, o3, ⟨a1, a2, a3, a4⟩, ⟨b1, b2, b3, b4⟩, ⟨c1, c2, c3, c4⟩, ⟨e1, e2, e3, e4⟩, f1, f2, f3, f4, f5, f6, f7, f8, g1, g2, g3, g4⟩ := ok
  clear o1 o2 o3 a1 a2 a3 a4 b1 b2 b3 b4 c1 c2 c3 c4 e1 e2 e3 e4 f1 f2 f3 f4 f5 f6 f7 g1 g2 g3 g4
  omega
theorem RowOk.hl {L1 H1 L2 H2 : Int} {P1 Q1 P2 Q2 n : Nat} (ok : RowOk L1 H1 L2 H2 P1 Q1 P2 Q2 n) : H1 ≤ L2 ↔ Q1 ≤ P2 := by
  obtain ⟨o1, o2, o3, ⟨a1, a2, a3, a4⟩, ⟨b1, b2, b3, b4⟩, ⟨c1, c2, c3, c4⟩, ⟨e1, e2, e3, e4⟩, f1, f2, f3, f4, f5, f6, f7, f8, g1, g2, g3, g4⟩ := ok
  clear o1 o2 o3 a1 a2 a3 a4 b1 b2 b3 b4 c1 c2 c3 c4 e1 e2 e3 e4 f1 f2 f3 f4 f5 f6 f7 f8 g1 g2 g4
  omega
theorem RowOk.hlt {L1 H1 L2 H2 : Int} {P1 Q1 P2 Q2 n : Nat} (ok : RowOk L1 H1 L2 H2 P1 Q1 P2 Q2 n) : H1 < L2 ↔ Q1 < P2 := by
  obtain ⟨o1, o2, o3, ⟨a1, a2, a3, a4⟩, ⟨b1, b2, b3, b4⟩, ⟨c1, c2, c3, c4⟩, ⟨e1, e2, e3, e4⟩, f1, f2, f3, f4, f5, f6, f7, f8, g1, g2, g3, g4⟩ := ok
  clear o1 o2 o3 a1 a2 a3 a4 b1 b2 b3 b4 c1 c2 c3 c4 e1 e2 e3 e4 f1 f2 f3 f4 f5 f6 f7 f8 g1 g2 g3
  omega
theorem RowOk.hht {L1 H1 L2 H2 : Int} {P1 Q1 P2 Q2 n : Nat} (ok : RowOk L1 H1 L2 H2 P1 Q1 P2 Q2 n) : H1 < H2 ↔ Q1 < Q2 := by
  obtain ⟨o1, o2, o3, ⟨a1, a2, a3, a4⟩, ⟨b1, b2, b3, b4⟩, ⟨c1, c2, c3, c4⟩, ⟨e1, e2, e3, e4⟩, f1, f2, f3, f4, f5, f6, f7, f8, g1, g2, g3, g4⟩ := ok
  clear o1 o2 o3 a1 a2 a3 a4 b1 b2 b3 b4 c1 c2 c3 c4 e1 e2 e3 e4 f1 f2 f3 f4 f5 f6 f8 g1 g2 g3 g4
  omega
theorem RowOk.llt {L1 H1 L2 H2 : Int} {P1 Q1 P2 Q2 n : Nat} (ok : RowOk L1 H1 L2 H2 P1 Q1 P2 Q2 n) : L2 < L1 ↔ P2 < P1 := by
  obtain ⟨o1, o2, o3, ⟨a1, a2, a3, a4⟩, ⟨b1, b2, b3, b4⟩, ⟨c1, c2, c3, c4⟩, ⟨e1, e2, e3, e4⟩, f1, f2, f3, f4, f5, f6, f7, f8, g1, g2, g3, g4⟩ := ok
  clear o1 o2 o3 a1 a2 a3 a4 b1 b2 b3 b4 c1 c2 c3 c4 e1 e2 e3 e4 f1 f2 f3 f4 f5 f7 f8 g1 g2 g3 g4
  omega
theorem RowOk.mm {L1 H1 L2 H2 : Int} {P1 Q1 P2 Q2 n : Nat} (ok : RowOk L1 H1 L2 H2 P1 Q1 P2 Q2 n) : (¬ max L1 L2 ≤ min H1 H2) ↔ ¬ (P1 ≤ Q1 ∧ P1 ≤ Q2 ∧ P2 ≤ Q1 ∧ P2 ≤ Q2) := by
  obtain ⟨o1, o2, o3, ⟨a1, a2, a3, a4⟩, ⟨b1, b2, b3, b4⟩, ⟨c1, c2, c3, c4⟩, ⟨e1, e2, e3, e4⟩, f1, f2, f3, f4, f5, f6, f7, f8, g1, g2, g3, g4⟩ := ok
  clear o1 o2 o3 a1 a2 a3 a4 b1 b2 b3 b4 c1 c2 c3 c4 e1 e2 e3 e4 f1 f3 f5 f6 f7 f8 g1 g3
  omega
theorem RowOk.vd1 {L1 H1 L2 H2 : Int} {P1 Q1 P2 Q2 n : Nat} (ok : RowOk L1 H1 L2 H2 P1 Q1 P2 Q2 n) (d : VdZ L1 H1) : (P1 = n ∧ Q1 = 0) ∨ (P1 < n ∧ 0 < Q1 ∧ P1 ≤ Q1) := by
  obtain ⟨o1, o2, o3, ⟨a1, a2, a3, a4⟩, ⟨b1, b2, b3, b4⟩, ⟨c1, c2, c3, c4⟩, ⟨e1, e2, e3, e4⟩, f1, f2, f3, f4, f5, f6, f7, f8, g1, g2, g3, g4⟩ := ok
  clear o1 o3 a1 a3 b1 b2 b4 c1 c2 c3 c4 e1 e2 e3 e4 f1 f3 f4 f5 f6 f7 f8 g1 g2 g3 g4
  unfold VdZ at d; omega
theorem RowOk.bd {L1 H1 L2 H2 : Int} {P1 Q1 P2 Q2 n : Nat} (ok : RowOk L1 H1 L2 H2 P1 Q1 P2 Q2 n) : n % 4 = 0 ∧ 4 ≤ n ∧ n ≤ 20 ∧ P1 % 4 = 0 ∧ Q1 % 4 = 0 ∧ P2 % 4 = 0 ∧ Q2 % 4 = 0 ∧ P1 ≤ n ∧ Q1 ≤ n ∧ P2 ≤ n ∧ Q2 ≤ n := by
  obtain ⟨o1, o2, o3, ⟨a1, a2, a3, a4⟩, ⟨b1, b2, b3, b4⟩, ⟨c1, c2, c3, c4⟩, ⟨e1, e2, e3, e4⟩, f1, f2, f3, f4, f5, f6, f7, f8, g1, g2, g3, g4⟩ := ok
  clear a3 a4 b3 b4 c3 c4 e3 e4 f1 f2 f3 f4 f5 f6 f7 f8 g1 g2 g3 g4
  exact ⟨o1, o2, o3, a1, b1, c1, e1, a2, b2, c2, e2⟩
set_option maxHeartbeats 2000000 in
theorem es0_ (L1 H1 L2 H2 : Int) (d1 : VdZ L1 H1) (d2 : VdZ L2 H2) (P1 Q1 P2 Q2 n : Nat) (ok : RowOk L1 H1 L2 H2 P1 Q1 P2 Q2 n) (w : World) : Calls Try.prog 50 #[.int .i64 0, .agg #[.bool (decide (L1 = 9218868437227405312)), .int .i64 (P1 : Int), .int .i64 (Q1 : Int)], .agg #[.bool (decide (L2 = 9218868437227405312)), .int .i64 (P2 : Int), .int .i64 (Q2 : Int)], .int .i64 (n : Int)] w fun e w' => e = .returned (.bool (decide (L2 ≤ L1 ∧ H1 ≤ H2))) ∧ Kp w w' := by
  obtain ⟨o1, o2, o3, a1, b1, c1, e1, a2, b2, c2, e2⟩ := ok.bd
  have v1 := ok.vd1 d1
  have v2 := ok.swap.vd1 d2
  have n1 := ok.nn1
  have n2 := ok.nn2
  clear d1 d2
  have x1 : decide (L1 = 9218868437227405312) = false → P1 ≤ Q1 ∧ P1 < n ∧ 0 < Q1 := fun h => by
    have h := of_decide_eq_false h
    rw [n1] at h
    clear n1 n2
    omega
  have x2 : decide (L2 = 9218868437227405312) = false → P2 ≤ Q2 ∧ P2 < n ∧ 0 < Q2 := fun h => by
    have h := of_decide_eq_false h
    rw [n2] at h
    clear n1 n2 x1
    omega
  refine (eachSome_ 0 _ _ P1 Q1 P2 Q2 n (by clear n1 n2 x1 x2 ok v1 v2; omega) (by clear n1 n2 x1 x2 ok v1 v2; omega) _ _ _ (has_ _ P1 Q1) (has_ _ P2 Q2) asked0_ w).mono ?_
  rintro e w' ⟨b, rfl, hb, hk⟩
  rw [es0 n P1 Q1 P2 Q2 _ _ o1 a1 b1 c1 e1 o2 a2 b2 c2 e2 x1 x2] at hb
  refine ⟨?_, hk⟩
  rw [bool_dec (b := b) (p := L2 ≤ L1 ∧ H1 ≤ H2) (hb.trans ?_)]
  simp only [decide_eq_true_eq, decide_eq_false_iff_not, ne_eq, ok.nn1, ok.nn2, ok.hi2, ok.lo2, ok.ll, ok.hh, ok.hl, ok.hlt, ok.hht, ok.llt]
  all_goals (
    clear n1 n2 x1 x2 ok hb hk
    omega)
set_option maxHeartbeats 2000000 in
theorem es1_ (L1 H1 L2 H2 : Int) (d1 : VdZ L1 H1) (d2 : VdZ L2 H2) (P1 Q1 P2 Q2 n : Nat) (ok : RowOk L1 H1 L2 H2 P1 Q1 P2 Q2 n) (w : World) : Calls Try.prog 50 #[.int .i64 1, .agg #[.bool (decide (L1 = 9218868437227405312)), .int .i64 (P1 : Int), .int .i64 (Q1 : Int)], .agg #[.bool (decide (L2 = 9218868437227405312)), .int .i64 (P2 : Int), .int .i64 (Q2 : Int)], .int .i64 (n : Int)] w fun e w' => e = .returned (.bool (decide (L1 = 9218868437227405312 ∨ (L2 ≠ 9218868437227405312 ∧ H1 ≤ H2)))) ∧ Kp w w' := by
  obtain ⟨o1, o2, o3, a1, b1, c1, e1, a2, b2, c2, e2⟩ := ok.bd
  have v1 := ok.vd1 d1
  have v2 := ok.swap.vd1 d2
  have n1 := ok.nn1
  have n2 := ok.nn2
  clear d1 d2
  have x1 : decide (L1 = 9218868437227405312) = false → P1 ≤ Q1 ∧ P1 < n ∧ 0 < Q1 := fun h => by
    have h := of_decide_eq_false h
    rw [n1] at h
    clear n1 n2
    omega
  have x2 : decide (L2 = 9218868437227405312) = false → P2 ≤ Q2 ∧ P2 < n ∧ 0 < Q2 := fun h => by
    have h := of_decide_eq_false h
    rw [n2] at h
    clear n1 n2 x1
    omega
  refine (eachSome_ 1 _ _ P1 Q1 P2 Q2 n (by clear n1 n2 x1 x2 ok v1 v2; omega) (by clear n1 n2 x1 x2 ok v1 v2; omega) _ _ _ (has_ _ P1 Q1) (has_ _ P2 Q2) asked1_ w).mono ?_
  rintro e w' ⟨b, rfl, hb, hk⟩
  rw [es1 n P1 Q1 P2 Q2 _ _ o1 a1 b1 c1 e1 o2 a2 b2 c2 e2 x1 x2] at hb
  refine ⟨?_, hk⟩
  rw [bool_dec (b := b) (p := L1 = 9218868437227405312 ∨ (L2 ≠ 9218868437227405312 ∧ H1 ≤ H2)) (hb.trans ?_)]
  simp only [decide_eq_true_eq, decide_eq_false_iff_not, ne_eq, ok.nn1, ok.nn2, ok.hi2, ok.lo2, ok.ll, ok.hh, ok.hl, ok.hlt, ok.hht, ok.llt]
  all_goals (
    clear n1 n2 x1 x2 ok hb hk
    omega)
set_option maxHeartbeats 2000000 in
theorem es2_ (L1 H1 L2 H2 : Int) (d1 : VdZ L1 H1) (d2 : VdZ L2 H2) (P1 Q1 P2 Q2 n : Nat) (ok : RowOk L1 H1 L2 H2 P1 Q1 P2 Q2 n) (w : World) : Calls Try.prog 50 #[.int .i64 2, .agg #[.bool (decide (L1 = 9218868437227405312)), .int .i64 (P1 : Int), .int .i64 (Q1 : Int)], .agg #[.bool (decide (L2 = 9218868437227405312)), .int .i64 (P2 : Int), .int .i64 (Q2 : Int)], .int .i64 (n : Int)] w fun e w' => e = .returned (.bool (decide (L1 = 9218868437227405312 ∨ (L2 ≠ 9218868437227405312 ∧ (H1 < H2 ∨ H2 = 9218868437227405312))))) ∧ Kp w w' := by
  obtain ⟨o1, o2, o3, a1, b1, c1, e1, a2, b2, c2, e2⟩ := ok.bd
  have v1 := ok.vd1 d1
  have v2 := ok.swap.vd1 d2
  have n1 := ok.nn1
  have n2 := ok.nn2
  clear d1 d2
  have x1 : decide (L1 = 9218868437227405312) = false → P1 ≤ Q1 ∧ P1 < n ∧ 0 < Q1 := fun h => by
    have h := of_decide_eq_false h
    rw [n1] at h
    clear n1 n2
    omega
  have x2 : decide (L2 = 9218868437227405312) = false → P2 ≤ Q2 ∧ P2 < n ∧ 0 < Q2 := fun h => by
    have h := of_decide_eq_false h
    rw [n2] at h
    clear n1 n2 x1
    omega
  refine (eachSome_ 2 _ _ P1 Q1 P2 Q2 n (by clear n1 n2 x1 x2 ok v1 v2; omega) (by clear n1 n2 x1 x2 ok v1 v2; omega) _ _ _ (has_ _ P1 Q1) (has_ _ P2 Q2) asked2_ w).mono ?_
  rintro e w' ⟨b, rfl, hb, hk⟩
  rw [es2 n P1 Q1 P2 Q2 _ _ o1 a1 b1 c1 e1 o2 a2 b2 c2 e2 x1 x2] at hb
  refine ⟨?_, hk⟩
  rw [bool_dec (b := b) (p := L1 = 9218868437227405312 ∨ (L2 ≠ 9218868437227405312 ∧ (H1 < H2 ∨ H2 = 9218868437227405312))) (hb.trans ?_)]
  simp only [decide_eq_true_eq, decide_eq_false_iff_not, ne_eq, ok.nn1, ok.nn2, ok.hi2, ok.lo2, ok.ll, ok.hh, ok.hl, ok.hlt, ok.hht, ok.llt]
  all_goals (
    clear n1 n2 x1 x2 ok hb hk
    omega)
set_option maxHeartbeats 2000000 in
theorem es3_ (L1 H1 L2 H2 : Int) (d1 : VdZ L1 H1) (d2 : VdZ L2 H2) (P1 Q1 P2 Q2 n : Nat) (ok : RowOk L1 H1 L2 H2 P1 Q1 P2 Q2 n) (w : World) : Calls Try.prog 50 #[.int .i64 3, .agg #[.bool (decide (L1 = 9218868437227405312)), .int .i64 (P1 : Int), .int .i64 (Q1 : Int)], .agg #[.bool (decide (L2 = 9218868437227405312)), .int .i64 (P2 : Int), .int .i64 (Q2 : Int)], .int .i64 (n : Int)] w fun e w' => e = .returned (.bool (decide (L1 = 9218868437227405312 ∨ (L2 ≠ 9218868437227405312 ∧ (L2 < L1 ∨ L2 = -9218868437227405312))))) ∧ Kp w w' := by
  obtain ⟨o1, o2, o3, a1, b1, c1, e1, a2, b2, c2, e2⟩ := ok.bd
  have v1 := ok.vd1 d1
  have v2 := ok.swap.vd1 d2
  have n1 := ok.nn1
  have n2 := ok.nn2
  clear d1 d2
  have x1 : decide (L1 = 9218868437227405312) = false → P1 ≤ Q1 ∧ P1 < n ∧ 0 < Q1 := fun h => by
    have h := of_decide_eq_false h
    rw [n1] at h
    clear n1 n2
    omega
  have x2 : decide (L2 = 9218868437227405312) = false → P2 ≤ Q2 ∧ P2 < n ∧ 0 < Q2 := fun h => by
    have h := of_decide_eq_false h
    rw [n2] at h
    clear n1 n2 x1
    omega
  refine (eachSome_ 3 _ _ P1 Q1 P2 Q2 n (by clear n1 n2 x1 x2 ok v1 v2; omega) (by clear n1 n2 x1 x2 ok v1 v2; omega) _ _ _ (has_ _ P1 Q1) (has_ _ P2 Q2) asked3_ w).mono ?_
  rintro e w' ⟨b, rfl, hb, hk⟩
  rw [es3 n P1 Q1 P2 Q2 _ _ o1 a1 b1 c1 e1 o2 a2 b2 c2 e2 x1 x2] at hb
  refine ⟨?_, hk⟩
  rw [bool_dec (b := b) (p := L1 = 9218868437227405312 ∨ (L2 ≠ 9218868437227405312 ∧ (L2 < L1 ∨ L2 = -9218868437227405312))) (hb.trans ?_)]
  simp only [decide_eq_true_eq, decide_eq_false_iff_not, ne_eq, ok.nn1, ok.nn2, ok.hi2, ok.lo2, ok.ll, ok.hh, ok.hl, ok.hlt, ok.hht, ok.llt]
  all_goals (
    clear n1 n2 x1 x2 ok hb hk
    omega)
set_option maxHeartbeats 2000000 in
theorem es4_ (L1 H1 L2 H2 : Int) (d1 : VdZ L1 H1) (d2 : VdZ L2 H2) (P1 Q1 P2 Q2 n : Nat) (ok : RowOk L1 H1 L2 H2 P1 Q1 P2 Q2 n) (w : World) : Calls Try.prog 50 #[.int .i64 4, .agg #[.bool (decide (L1 = 9218868437227405312)), .int .i64 (P1 : Int), .int .i64 (Q1 : Int)], .agg #[.bool (decide (L2 = 9218868437227405312)), .int .i64 (P2 : Int), .int .i64 (Q2 : Int)], .int .i64 (n : Int)] w fun e w' => e = .returned (.bool (decide (L1 = 9218868437227405312 ∨ (L2 ≠ 9218868437227405312 ∧ L2 ≤ L1)))) ∧ Kp w w' := by
  obtain ⟨o1, o2, o3, a1, b1, c1, e1, a2, b2, c2, e2⟩ := ok.bd
  have v1 := ok.vd1 d1
  have v2 := ok.swap.vd1 d2
  have n1 := ok.nn1
  have n2 := ok.nn2
  clear d1 d2
  have x1 : decide (L1 = 9218868437227405312) = false → P1 ≤ Q1 ∧ P1 < n ∧ 0 < Q1 := fun h => by
    have h := of_decide_eq_false h
    rw [n1] at h
    clear n1 n2
    omega
  have x2 : decide (L2 = 9218868437227405312) = false → P2 ≤ Q2 ∧ P2 < n ∧ 0 < Q2 := fun h => by
    have h := of_decide_eq_false h
    rw [n2] at h
    clear n1 n2 x1
    omega
  refine (eachSome_ 4 _ _ P1 Q1 P2 Q2 n (by clear n1 n2 x1 x2 ok v1 v2; omega) (by clear n1 n2 x1 x2 ok v1 v2; omega) _ _ _ (has_ _ P1 Q1) (has_ _ P2 Q2) asked4_ w).mono ?_
  rintro e w' ⟨b, rfl, hb, hk⟩
  rw [es4 n P1 Q1 P2 Q2 _ _ o1 a1 b1 c1 e1 o2 a2 b2 c2 e2 x1 x2] at hb
  refine ⟨?_, hk⟩
  rw [bool_dec (b := b) (p := L1 = 9218868437227405312 ∨ (L2 ≠ 9218868437227405312 ∧ L2 ≤ L1)) (hb.trans ?_)]
  simp only [decide_eq_true_eq, decide_eq_false_iff_not, ne_eq, ok.nn1, ok.nn2, ok.hi2, ok.lo2, ok.ll, ok.hh, ok.hl, ok.hlt, ok.hht, ok.llt]
  all_goals (
    clear n1 n2 x1 x2 ok hb hk
    omega)
set_option maxHeartbeats 2000000 in
theorem ee1_ (L1 H1 L2 H2 : Int) (d1 : VdZ L1 H1) (d2 : VdZ L2 H2) (P1 Q1 P2 Q2 n : Nat) (ok : RowOk L1 H1 L2 H2 P1 Q1 P2 Q2 n) (w : World) : Calls Try.prog 53 #[.int .i64 1, .agg #[.bool (decide (L1 = 9218868437227405312)), .int .i64 (P1 : Int), .int .i64 (Q1 : Int)], .agg #[.bool (decide (L2 = 9218868437227405312)), .int .i64 (P2 : Int), .int .i64 (Q2 : Int)], .int .i64 (n : Int)] w fun e w' => e = .returned (.bool (decide (H1 ≤ L2))) ∧ Kp w w' := by
  obtain ⟨o1, o2, o3, a1, b1, c1, e1, a2, b2, c2, e2⟩ := ok.bd
  have v1 := ok.vd1 d1
  have v2 := ok.swap.vd1 d2
  have n1 := ok.nn1
  have n2 := ok.nn2
  clear d1 d2
  have x1 : decide (L1 = 9218868437227405312) = false → P1 ≤ Q1 ∧ P1 < n ∧ 0 < Q1 := fun h => by
    have h := of_decide_eq_false h
    rw [n1] at h
    clear n1 n2
    omega
  have x2 : decide (L2 = 9218868437227405312) = false → P2 ≤ Q2 ∧ P2 < n ∧ 0 < Q2 := fun h => by
    have h := of_decide_eq_false h
    rw [n2] at h
    clear n1 n2 x1
    omega
  refine (eachEach_ 1 _ _ P1 Q1 P2 Q2 n (by clear n1 n2 x1 x2 ok v1 v2; omega) (by clear n1 n2 x1 x2 ok v1 v2; omega) _ _ _ (has_ _ P1 Q1) (has_ _ P2 Q2) asked1_ w).mono ?_
  rintro e w' ⟨b, rfl, hb, hk⟩
  rw [ee1 n P1 Q1 P2 Q2 _ _ o1 a1 b1 c1 e1 o2 a2 b2 c2 e2 x1 x2] at hb
  refine ⟨?_, hk⟩
  rw [bool_dec (b := b) (p := H1 ≤ L2) (hb.trans ?_)]
  simp only [decide_eq_true_eq, decide_eq_false_iff_not, ne_eq, ok.nn1, ok.nn2, ok.hi2, ok.lo2, ok.ll, ok.hh, ok.hl, ok.hlt, ok.hht, ok.llt]
  all_goals (
    clear n1 n2 x1 x2 ok hb hk
    omega)
set_option maxHeartbeats 2000000 in
theorem ee2_ (L1 H1 L2 H2 : Int) (d1 : VdZ L1 H1) (d2 : VdZ L2 H2) (P1 Q1 P2 Q2 n : Nat) (ok : RowOk L1 H1 L2 H2 P1 Q1 P2 Q2 n) (w : World) : Calls Try.prog 53 #[.int .i64 2, .agg #[.bool (decide (L1 = 9218868437227405312)), .int .i64 (P1 : Int), .int .i64 (Q1 : Int)], .agg #[.bool (decide (L2 = 9218868437227405312)), .int .i64 (P2 : Int), .int .i64 (Q2 : Int)], .int .i64 (n : Int)] w fun e w' => e = .returned (.bool (decide (L1 = 9218868437227405312 ∨ L2 = 9218868437227405312 ∨ H1 < L2))) ∧ Kp w w' := by
  obtain ⟨o1, o2, o3, a1, b1, c1, e1, a2, b2, c2, e2⟩ := ok.bd
  have v1 := ok.vd1 d1
  have v2 := ok.swap.vd1 d2
  have n1 := ok.nn1
  have n2 := ok.nn2
  clear d1 d2
  have x1 : decide (L1 = 9218868437227405312) = false → P1 ≤ Q1 ∧ P1 < n ∧ 0 < Q1 := fun h => by
    have h := of_decide_eq_false h
    rw [n1] at h
    clear n1 n2
    omega
  have x2 : decide (L2 = 9218868437227405312) = false → P2 ≤ Q2 ∧ P2 < n ∧ 0 < Q2 := fun h => by
    have h := of_decide_eq_false h
    rw [n2] at h
    clear n1 n2 x1
    omega
  refine (eachEach_ 2 _ _ P1 Q1 P2 Q2 n (by clear n1 n2 x1 x2 ok v1 v2; omega) (by clear n1 n2 x1 x2 ok v1 v2; omega) _ _ _ (has_ _ P1 Q1) (has_ _ P2 Q2) asked2_ w).mono ?_
  rintro e w' ⟨b, rfl, hb, hk⟩
  rw [ee2 n P1 Q1 P2 Q2 _ _ o1 a1 b1 c1 e1 o2 a2 b2 c2 e2 x1 x2] at hb
  refine ⟨?_, hk⟩
  rw [bool_dec (b := b) (p := L1 = 9218868437227405312 ∨ L2 = 9218868437227405312 ∨ H1 < L2) (hb.trans ?_)]
  simp only [decide_eq_true_eq, decide_eq_false_iff_not, ne_eq, ok.nn1, ok.nn2, ok.hi2, ok.lo2, ok.ll, ok.hh, ok.hl, ok.hlt, ok.hht, ok.llt]
  all_goals (
    clear n1 n2 x1 x2 ok hb hk
    omega)
set_option maxHeartbeats 2000000 in
theorem ee5_ (L1 H1 L2 H2 : Int) (d1 : VdZ L1 H1) (d2 : VdZ L2 H2) (P1 Q1 P2 Q2 n : Nat) (ok : RowOk L1 H1 L2 H2 P1 Q1 P2 Q2 n) (w : World) : Calls Try.prog 53 #[.int .i64 5, .agg #[.bool (decide (L1 = 9218868437227405312)), .int .i64 (P1 : Int), .int .i64 (Q1 : Int)], .agg #[.bool (decide (L2 = 9218868437227405312)), .int .i64 (P2 : Int), .int .i64 (Q2 : Int)], .int .i64 (n : Int)] w fun e w' => e = .returned (.bool (decide (¬ max L1 L2 ≤ min H1 H2))) ∧ Kp w w' := by
  obtain ⟨o1, o2, o3, a1, b1, c1, e1, a2, b2, c2, e2⟩ := ok.bd
  have v1 := ok.vd1 d1
  have v2 := ok.swap.vd1 d2
  have n1 := ok.nn1
  have n2 := ok.nn2
  clear d1 d2
  have x1 : decide (L1 = 9218868437227405312) = false → P1 ≤ Q1 ∧ P1 < n ∧ 0 < Q1 := fun h => by
    have h := of_decide_eq_false h
    rw [n1] at h
    clear n1 n2
    omega
  have x2 : decide (L2 = 9218868437227405312) = false → P2 ≤ Q2 ∧ P2 < n ∧ 0 < Q2 := fun h => by
    have h := of_decide_eq_false h
    rw [n2] at h
    clear n1 n2 x1
    omega
  refine (eachEach_ 5 _ _ P1 Q1 P2 Q2 n (by clear n1 n2 x1 x2 ok v1 v2; omega) (by clear n1 n2 x1 x2 ok v1 v2; omega) _ _ _ (has_ _ P1 Q1) (has_ _ P2 Q2) asked5_ w).mono ?_
  rintro e w' ⟨b, rfl, hb, hk⟩
  rw [ee5 n P1 Q1 P2 Q2 _ _ o1 a1 b1 c1 e1 o2 a2 b2 c2 e2 x1 x2] at hb
  refine ⟨?_, hk⟩
  rw [bool_dec (b := b) (p := ¬ max L1 L2 ≤ min H1 H2) (hb.trans ?_)]
  simp only [decide_eq_true_eq, decide_eq_false_iff_not, ne_eq, ok.mm, ok.nn1, ok.nn2, ok.hi2, ok.lo2, ok.ll, ok.hh, ok.hl, ok.hlt, ok.hht, ok.llt]
  all_goals (
    clear n1 n2 x1 x2 ok hb hk
    omega)
end Go.Proofs.Ythajkngngdnidaa
