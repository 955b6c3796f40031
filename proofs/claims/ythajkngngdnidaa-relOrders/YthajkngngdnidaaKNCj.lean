import Derived.Test.YthajkngngdnidaaProg
import Derived.Test.YthajkngngdnidaaKXA0
import Derived.Test.YthajkngngdnidaaKQM
import Derived.Test.YthajkngngdnidaaKQA
import Derived.Test.YthajkngngdnidaaKXQU
import Derived.Test.YthajkngngdnidaaKEM
import Derived.Test.YthajkngngdnidaaKEN
import Derived.Test.YthajkngngdnidaaKEA
import Derived.Test.YthajkngngdnidaaKEB
import Derived.Test.YthajkngngdnidaaKEH
import Derived.Test.YthajkngngdnidaaKEK
import Derived.Test.YthajkngngdnidaaKEO
import Derived.Test.YthajkngngdnidaaKER
import Derived.Test.YthajkngngdnidaaKES
import Derived.Test.YthajkngngdnidaaKNRv
import Derived.Test.YthajkngngdnidaaKNRm
import Derived.Test.YthajkngngdnidaaKNRa
import Derived.Test.YthajkngngdnidaaKNRj
import Derived.Test.YthajkngngdnidaaKNCo
import Derived.Test.YthajkngngdnidaaKNCm
import Derived.Test.YthajkngngdnidaaKNCa
import Derived.Test.YthajkngngdnidaaKNCb
import Derived.Test.YthajkngngdnidaaKNCc
import Derived.Test.YthajkngngdnidaaKNCd
import Derived.Test.YthajkngngdnidaaKNCe
import Derived.Test.YthajkngngdnidaaKNCf
import Derived.Test.YthajkngngdnidaaKNCg
import Derived.Test.YthajkngngdnidaaKNCh
import Derived.WalkKit
import Derived.ProofKit
import Derived.RowKit3
import Derived.WalkSpells
import Derived.StillTactics
import Derived.Deep.QuietTactic
import Derived.BigQuiet
import Derived.Below
import Derived.Deep.OwnRows
import Derived.OwnWalk
import Derived.Laws.BitsAllLaws
import Derived.Laws.Slices
import Derived.Laws.Bits64b
import Derived.Laws.FloatArith
import Derived.Deep.RegionHeld3
import Derived.Deep.CutRange
import Derived.Deep.DeepCutAuto
namespace Go.Proofs.Ythajkngngdnidaa
open Go.RowKit
set_option maxRecDepth 20000 in
set_option maxHeartbeats 2000000 in
theorem requalA_ (X1 X2 Y1 Y2 : Int) (N1 N2 : Bool) (OK : Nat → Nat → Nat → Nat → Nat → Prop) (hr : ∀ w : World, Calls Try.prog 49 #[.agg #[.int .u64 X1, .int .u64 X2], .agg #[.int .u64 Y1, .int .u64 Y2]] w fun e w' => ∃ P1 Q1 P2 Q2 n : Nat, e = .returned (.tuple #[.agg #[.bool N1, .int .i64 ((P1 : Nat) : Int), .int .i64 ((Q1 : Nat) : Int)], .agg #[.bool N2, .int .i64 ((P2 : Nat) : Int), .int .i64 ((Q2 : Nat) : Int)], .int .i64 (n : Int)]) ∧ OK P1 Q1 P2 Q2 n ∧ Kp w w') (V1 V2 : Bool) (hE1 : ∀ (P1 Q1 P2 Q2 n : Nat), OK P1 Q1 P2 Q2 n → ∀ w : World, Calls Try.prog 50 #[.int .i64 0, .agg #[.bool N1, .int .i64 ((P1 : Nat) : Int), .int .i64 ((Q1 : Nat) : Int)], .agg #[.bool N2, .int .i64 ((P2 : Nat) : Int), .int .i64 ((Q2 : Nat) : Int)], .int .i64 (n : Int)] w fun e w' => e = .returned (.bool V1) ∧ Kp w w') (hE2 : ∀ (P1 Q1 P2 Q2 n : Nat), OK P1 Q1 P2 Q2 n → ∀ w : World, Calls Try.prog 50 #[.int .i64 0, .agg #[.bool N2, .int .i64 ((P2 : Nat) : Int), .int .i64 ((Q2 : Nat) : Int)], .agg #[.bool N1, .int .i64 ((P1 : Nat) : Int), .int .i64 ((Q1 : Nat) : Int)], .int .i64 (n : Int)] w fun e w' => e = .returned (.bool V2) ∧ Kp w w') (w : World) : Calls Try.prog 23 #[.agg #[.int .u64 X1, .int .u64 X2], .agg #[.int .u64 Y1, .int .u64 Y2]] w fun e w' => e = .returned (.bool (V1 && V2)) ∧ Kp w w' := by
  cases V1
  all_goals (
    go_enter Try.func23, Try.ntmps23
    go_wp2_with (first | (go_at_call 49; refine (hr _).mono ?_; rintro e w1 ⟨P1, Q1, P2, Q2, n, rfl, ok, g1⟩; have k1 : Kp w w1 := Kp.trans (((Kp.refl w).alloc _).alloc _) g1) | (go_at_call 50; (first | (have kk := k2; refine (hE2 _ _ _ _ _ ok _).mono ?_; rintro e w3 ⟨rfl, g3⟩; have k3 : Kp w w3 := Kp.trans k2 g3) | (refine (hE1 _ _ _ _ _ ok _).mono ?_; rintro e w2 ⟨rfl, g2⟩; have k2 : Kp w w2 := Kp.trans ((k1.alloc _).alloc _) g2; have qa : H3 ((w1.alloc (.cells #[.bool N1, .int .i64 ((P1 : Nat) : Int), .int .i64 ((Q1 : Nat) : Int)] 50)).alloc (.cells #[.bool N2, .int .i64 ((P2 : Nat) : Int), .int .i64 ((Q2 : Nat) : Int)] 50)) w1.heap.size (.bool N1) (.int .i64 ((P1 : Nat) : Int)) (.int .i64 ((Q1 : Nat) : Int)) := H3.past (H3.new w1 _ _ _ 50) _ _; have qb : H3 ((w1.alloc (.cells #[.bool N1, .int .i64 ((P1 : Nat) : Int), .int .i64 ((Q1 : Nat) : Int)] 50)).alloc (.cells #[.bool N2, .int .i64 ((P2 : Nat) : Int), .int .i64 ((Q2 : Nat) : Int)] 50)) (w1.heap.size + 1) (.bool N2) (.int .i64 ((P2 : Nat) : Int)) (.int .i64 ((Q2 : Nat) : Int)) := (by unfold H3; simp [go_sem]); obtain ⟨a0, a1, a2, a3, a4, a5⟩ := H3.keep qa g2; obtain ⟨b0, b1, b2, b3, b4, b5⟩ := H3.keep qb g2))) | fail)
    exact bodyPost_ret (v := .bool _) (by simp [results, Try.results23, go_sem]) rfl ⟨rfl, (by first | exact k3 | exact k2)⟩)
theorem requal9_ (X1 X2 Y1 Y2 L1 H1 L2 H2 : Int) (d1 : VdZ L1 H1) (d2 : VdZ L2 H2) (hx : ∀ w : World, Calls Try.prog 10 #[.agg #[.int .u64 X1, .int .u64 X2]] w fun e w' => e = .returned (.agg #[.int .u64 (pI L1), .int .u64 (pI H1)]) ∧ Kp w w') (hy : ∀ w : World, Calls Try.prog 10 #[.agg #[.int .u64 Y1, .int .u64 Y2]] w fun e w' => e = .returned (.agg #[.int .u64 (pI L2), .int .u64 (pI H2)]) ∧ Kp w w') (w : World) : Calls Try.prog 23 #[.agg #[.int .u64 X1, .int .u64 X2], .agg #[.int .u64 Y1, .int .u64 Y2]] w fun e w' => e = .returned (.bool (decide (L1 = L2 ∧ H1 = H2))) ∧ Kp w w' := by
  have h := requalA_ X1 X2 Y1 Y2 _ _ (RowOk L1 H1 L2 H2) (rowsZ_ X1 X2 Y1 Y2 L1 H1 L2 H2 d1 d2 hx hy) _ _ (fun P1 Q1 P2 Q2 n ok w => es0_ L1 H1 L2 H2 d1 d2 P1 Q1 P2 Q2 n ok w) (fun P1 Q1 P2 Q2 n ok w => es0_ L2 H2 L1 H1 d2 d1 P2 Q2 P1 Q1 n ok.swap w) w
  rw [← Bool.decide_and, show decide ((L2 ≤ L1 ∧ H1 ≤ H2) ∧ (L1 ≤ L2 ∧ H2 ≤ H1)) = decide (L1 = L2 ∧ H1 = H2) from by
    congr 1; apply propext
    unfold VdZ at d1 d2
    omega] at h
  exact h
set_option maxRecDepth 20000 in
set_option maxHeartbeats 2000000 in
theorem rinterA_ (X1 X2 Y1 Y2 : Int) (N1 N2 : Bool) (OK : Nat → Nat → Nat → Nat → Nat → Prop) (hr : ∀ w : World, Calls Try.prog 49 #[.agg #[.int .u64 X1, .int .u64 X2], .agg #[.int .u64 Y1, .int .u64 Y2]] w fun e w' => ∃ P1 Q1 P2 Q2 n : Nat, e = .returned (.tuple #[.agg #[.bool N1, .int .i64 ((P1 : Nat) : Int), .int .i64 ((Q1 : Nat) : Int)], .agg #[.bool N2, .int .i64 ((P2 : Nat) : Int), .int .i64 ((Q2 : Nat) : Int)], .int .i64 (n : Int)]) ∧ OK P1 Q1 P2 Q2 n ∧ Kp w w') (V1 V2 : Bool) (hE1 : ∀ (P1 Q1 P2 Q2 n : Nat), OK P1 Q1 P2 Q2 n → ∀ w : World, Calls Try.prog 50 #[.int .i64 3, .agg #[.bool N1, .int .i64 ((P1 : Nat) : Int), .int .i64 ((Q1 : Nat) : Int)], .agg #[.bool N2, .int .i64 ((P2 : Nat) : Int), .int .i64 ((Q2 : Nat) : Int)], .int .i64 (n : Int)] w fun e w' => e = .returned (.bool V1) ∧ Kp w w') (hE2 : ∀ (P1 Q1 P2 Q2 n : Nat), OK P1 Q1 P2 Q2 n → ∀ w : World, Calls Try.prog 50 #[.int .i64 2, .agg #[.bool N1, .int .i64 ((P1 : Nat) : Int), .int .i64 ((Q1 : Nat) : Int)], .agg #[.bool N2, .int .i64 ((P2 : Nat) : Int), .int .i64 ((Q2 : Nat) : Int)], .int .i64 (n : Int)] w fun e w' => e = .returned (.bool V2) ∧ Kp w w') (w : World) : Calls Try.prog 27 #[.agg #[.int .u64 X1, .int .u64 X2], .agg #[.int .u64 Y1, .int .u64 Y2]] w fun e w' => e = .returned (.bool (V1 && V2)) ∧ Kp w w' := by
  cases V1
  all_goals (
    go_enter Try.func27, Try.ntmps27
    go_wp2_with (first | (go_at_call 49; refine (hr _).mono ?_; rintro e w1 ⟨P1, Q1, P2, Q2, n, rfl, ok, g1⟩; have k1 : Kp w w1 := Kp.trans (((Kp.refl w).alloc _).alloc _) g1) | (go_at_call_of 50 (Value.int .i64 3); refine (hE1 _ _ _ _ _ ok _).mono ?_; rintro e w2 ⟨rfl, g2⟩; have k2 : Kp w w2 := Kp.trans ((k1.alloc _).alloc _) g2; have qa : H3 ((w1.alloc (.cells #[.bool N1, .int .i64 ((P1 : Nat) : Int), .int .i64 ((Q1 : Nat) : Int)] 50)).alloc (.cells #[.bool N2, .int .i64 ((P2 : Nat) : Int), .int .i64 ((Q2 : Nat) : Int)] 50)) w1.heap.size (.bool N1) (.int .i64 ((P1 : Nat) : Int)) (.int .i64 ((Q1 : Nat) : Int)) := H3.past (H3.new w1 _ _ _ 50) _ _; have qb : H3 ((w1.alloc (.cells #[.bool N1, .int .i64 ((P1 : Nat) : Int), .int .i64 ((Q1 : Nat) : Int)] 50)).alloc (.cells #[.bool N2, .int .i64 ((P2 : Nat) : Int), .int .i64 ((Q2 : Nat) : Int)] 50)) (w1.heap.size + 1) (.bool N2) (.int .i64 ((P2 : Nat) : Int)) (.int .i64 ((Q2 : Nat) : Int)) := (by unfold H3; simp [go_sem]); obtain ⟨a0, a1, a2, a3, a4, a5⟩ := H3.keep qa g2; obtain ⟨b0, b1, b2, b3, b4, b5⟩ := H3.keep qb g2) | (go_at_call_of 50 (Value.int .i64 2); refine (hE2 _ _ _ _ _ ok _).mono ?_; rintro e w3 ⟨rfl, g3⟩; have k3 : Kp w w3 := Kp.trans k2 g3))
    exact bodyPost_ret (v := .bool _) (by simp [results, Try.results27, go_sem]) rfl ⟨rfl, (by first | exact k3 | exact k2)⟩)
theorem rinter9_ (X1 X2 Y1 Y2 L1 H1 L2 H2 : Int) (d1 : VdZ L1 H1) (d2 : VdZ L2 H2) (hx : ∀ w : World, Calls Try.prog 10 #[.agg #[.int .u64 X1, .int .u64 X2]] w fun e w' => e = .returned (.agg #[.int .u64 (pI L1), .int .u64 (pI H1)]) ∧ Kp w w') (hy : ∀ w : World, Calls Try.prog 10 #[.agg #[.int .u64 Y1, .int .u64 Y2]] w fun e w' => e = .returned (.agg #[.int .u64 (pI L2), .int .u64 (pI H2)]) ∧ Kp w w') (w : World) : Calls Try.prog 27 #[.agg #[.int .u64 X1, .int .u64 X2], .agg #[.int .u64 Y1, .int .u64 Y2]] w fun e w' => e = .returned (.bool (decide ((L1 = 9218868437227405312 ∨ L2 < L1 ∨ L2 = -9218868437227405312) ∧ (L1 = 9218868437227405312 ∨ H1 < H2 ∨ H2 = 9218868437227405312)))) ∧ Kp w w' := by
  have h := rinterA_ X1 X2 Y1 Y2 _ _ (RowOk L1 H1 L2 H2) (rowsZ_ X1 X2 Y1 Y2 L1 H1 L2 H2 d1 d2 hx hy) _ _ (fun P1 Q1 P2 Q2 n ok w => es3_ L1 H1 L2 H2 d1 d2 P1 Q1 P2 Q2 n ok w) (fun P1 Q1 P2 Q2 n ok w => es2_ L1 H1 L2 H2 d1 d2 P1 Q1 P2 Q2 n ok w) w
  rw [← Bool.decide_and, show decide ((L1 = 9218868437227405312 ∨ (L2 ≠ 9218868437227405312 ∧ (L2 < L1 ∨ L2 = -9218868437227405312))) ∧ (L1 = 9218868437227405312 ∨ (L2 ≠ 9218868437227405312 ∧ (H1 < H2 ∨ H2 = 9218868437227405312)))) = decide ((L1 = 9218868437227405312 ∨ L2 < L1 ∨ L2 = -9218868437227405312) ∧ (L1 = 9218868437227405312 ∨ H1 < H2 ∨ H2 = 9218868437227405312)) from by
    congr 1; apply propext
    unfold VdZ at d1 d2
    omega] at h
  exact h
set_option maxRecDepth 20000 in
set_option maxHeartbeats 2000000 in
theorem rlessA_ (X1 X2 Y1 Y2 : Int) (N1 N2 : Bool) (OK : Nat → Nat → Nat → Nat → Nat → Prop) (hr : ∀ w : World, Calls Try.prog 49 #[.agg #[.int .u64 X1, .int .u64 X2], .agg #[.int .u64 Y1, .int .u64 Y2]] w fun e w' => ∃ P1 Q1 P2 Q2 n : Nat, e = .returned (.tuple #[.agg #[.bool N1, .int .i64 ((P1 : Nat) : Int), .int .i64 ((Q1 : Nat) : Int)], .agg #[.bool N2, .int .i64 ((P2 : Nat) : Int), .int .i64 ((Q2 : Nat) : Int)], .int .i64 (n : Int)]) ∧ OK P1 Q1 P2 Q2 n ∧ Kp w w') (V1 V2 : Bool) (hE1 : ∀ (P1 Q1 P2 Q2 n : Nat), OK P1 Q1 P2 Q2 n → ∀ w : World, Calls Try.prog 50 #[.int .i64 1, .agg #[.bool N1, .int .i64 ((P1 : Nat) : Int), .int .i64 ((Q1 : Nat) : Int)], .agg #[.bool N2, .int .i64 ((P2 : Nat) : Int), .int .i64 ((Q2 : Nat) : Int)], .int .i64 (n : Int)] w fun e w' => e = .returned (.bool V1) ∧ Kp w w') (hE2 : ∀ (P1 Q1 P2 Q2 n : Nat), OK P1 Q1 P2 Q2 n → ∀ w : World, Calls Try.prog 50 #[.int .i64 4, .agg #[.bool N2, .int .i64 ((P2 : Nat) : Int), .int .i64 ((Q2 : Nat) : Int)], .agg #[.bool N1, .int .i64 ((P1 : Nat) : Int), .int .i64 ((Q1 : Nat) : Int)], .int .i64 (n : Int)] w fun e w' => e = .returned (.bool V2) ∧ Kp w w') (w : World) : Calls Try.prog 31 #[.agg #[.int .u64 X1, .int .u64 X2], .agg #[.int .u64 Y1, .int .u64 Y2]] w fun e w' => e = .returned (.bool (V1 && V2)) ∧ Kp w w' := by
  cases V1
  all_goals (
    go_enter Try.func31, Try.ntmps31
    go_wp2_with (first | (go_at_call 49; refine (hr _).mono ?_; rintro e w1 ⟨P1, Q1, P2, Q2, n, rfl, ok, g1⟩; have k1 : Kp w w1 := Kp.trans (((Kp.refl w).alloc _).alloc _) g1) | (go_at_call_of 50 (Value.int .i64 1); refine (hE1 _ _ _ _ _ ok _).mono ?_; rintro e w2 ⟨rfl, g2⟩; have k2 : Kp w w2 := Kp.trans ((k1.alloc _).alloc _) g2; have qa : H3 ((w1.alloc (.cells #[.bool N1, .int .i64 ((P1 : Nat) : Int), .int .i64 ((Q1 : Nat) : Int)] 50)).alloc (.cells #[.bool N2, .int .i64 ((P2 : Nat) : Int), .int .i64 ((Q2 : Nat) : Int)] 50)) w1.heap.size (.bool N1) (.int .i64 ((P1 : Nat) : Int)) (.int .i64 ((Q1 : Nat) : Int)) := H3.past (H3.new w1 _ _ _ 50) _ _; have qb : H3 ((w1.alloc (.cells #[.bool N1, .int .i64 ((P1 : Nat) : Int), .int .i64 ((Q1 : Nat) : Int)] 50)).alloc (.cells #[.bool N2, .int .i64 ((P2 : Nat) : Int), .int .i64 ((Q2 : Nat) : Int)] 50)) (w1.heap.size + 1) (.bool N2) (.int .i64 ((P2 : Nat) : Int)) (.int .i64 ((Q2 : Nat) : Int)) := (by unfold H3; simp [go_sem]); obtain ⟨a0, a1, a2, a3, a4, a5⟩ := H3.keep qa g2; obtain ⟨b0, b1, b2, b3, b4, b5⟩ := H3.keep qb g2) | (go_at_call_of 50 (Value.int .i64 4); refine (hE2 _ _ _ _ _ ok _).mono ?_; rintro e w3 ⟨rfl, g3⟩; have k3 : Kp w w3 := Kp.trans k2 g3))
    exact bodyPost_ret (v := .bool _) (by simp [results, Try.results31, go_sem]) rfl ⟨rfl, (by first | exact k3 | exact k2)⟩)
theorem rless9_ (X1 X2 Y1 Y2 L1 H1 L2 H2 : Int) (d1 : VdZ L1 H1) (d2 : VdZ L2 H2) (hx : ∀ w : World, Calls Try.prog 10 #[.agg #[.int .u64 X1, .int .u64 X2]] w fun e w' => e = .returned (.agg #[.int .u64 (pI L1), .int .u64 (pI H1)]) ∧ Kp w w') (hy : ∀ w : World, Calls Try.prog 10 #[.agg #[.int .u64 Y1, .int .u64 Y2]] w fun e w' => e = .returned (.agg #[.int .u64 (pI L2), .int .u64 (pI H2)]) ∧ Kp w w') (w : World) : Calls Try.prog 31 #[.agg #[.int .u64 X1, .int .u64 X2], .agg #[.int .u64 Y1, .int .u64 Y2]] w fun e w' => e = .returned (.bool (decide (L1 ≤ L2 ∧ H1 ≤ H2))) ∧ Kp w w' := by
  have h := rlessA_ X1 X2 Y1 Y2 _ _ (RowOk L1 H1 L2 H2) (rowsZ_ X1 X2 Y1 Y2 L1 H1 L2 H2 d1 d2 hx hy) _ _ (fun P1 Q1 P2 Q2 n ok w => es1_ L1 H1 L2 H2 d1 d2 P1 Q1 P2 Q2 n ok w) (fun P1 Q1 P2 Q2 n ok w => es4_ L2 H2 L1 H1 d2 d1 P2 Q2 P1 Q1 n ok.swap w) w
  rw [← Bool.decide_and, show decide ((L1 = 9218868437227405312 ∨ (L2 ≠ 9218868437227405312 ∧ H1 ≤ H2)) ∧ (L2 = 9218868437227405312 ∨ (L1 ≠ 9218868437227405312 ∧ L1 ≤ L2))) = decide (L1 ≤ L2 ∧ H1 ≤ H2) from by
    congr 1; apply propext
    unfold VdZ at d1 d2
    omega] at h
  exact h
set_option maxRecDepth 20000 in
set_option maxHeartbeats 2000000 in
theorem rslessA_ (X1 X2 Y1 Y2 : Int) (N1 N2 : Bool) (OK : Nat → Nat → Nat → Nat → Nat → Prop) (hr : ∀ w : World, Calls Try.prog 49 #[.agg #[.int .u64 X1, .int .u64 X2], .agg #[.int .u64 Y1, .int .u64 Y2]] w fun e w' => ∃ P1 Q1 P2 Q2 n : Nat, e = .returned (.tuple #[.agg #[.bool N1, .int .i64 ((P1 : Nat) : Int), .int .i64 ((Q1 : Nat) : Int)], .agg #[.bool N2, .int .i64 ((P2 : Nat) : Int), .int .i64 ((Q2 : Nat) : Int)], .int .i64 (n : Int)]) ∧ OK P1 Q1 P2 Q2 n ∧ Kp w w') (V1 V2 : Bool) (hE1 : ∀ (P1 Q1 P2 Q2 n : Nat), OK P1 Q1 P2 Q2 n → ∀ w : World, Calls Try.prog 50 #[.int .i64 2, .agg #[.bool N1, .int .i64 ((P1 : Nat) : Int), .int .i64 ((Q1 : Nat) : Int)], .agg #[.bool N2, .int .i64 ((P2 : Nat) : Int), .int .i64 ((Q2 : Nat) : Int)], .int .i64 (n : Int)] w fun e w' => e = .returned (.bool V1) ∧ Kp w w') (hE2 : ∀ (P1 Q1 P2 Q2 n : Nat), OK P1 Q1 P2 Q2 n → ∀ w : World, Calls Try.prog 50 #[.int .i64 3, .agg #[.bool N2, .int .i64 ((P2 : Nat) : Int), .int .i64 ((Q2 : Nat) : Int)], .agg #[.bool N1, .int .i64 ((P1 : Nat) : Int), .int .i64 ((Q1 : Nat) : Int)], .int .i64 (n : Int)] w fun e w' => e = .returned (.bool V2) ∧ Kp w w') (w : World) : Calls Try.prog 33 #[.agg #[.int .u64 X1, .int .u64 X2], .agg #[.int .u64 Y1, .int .u64 Y2]] w fun e w' => e = .returned (.bool (V1 && V2)) ∧ Kp w w' := by
  cases V1
  all_goals (
    go_enter Try.func33, Try.ntmps33
    go_wp2_with (first | (go_at_call 49; refine (hr _).mono ?_; rintro e w1 ⟨P1, Q1, P2, Q2, n, rfl, ok, g1⟩; have k1 : Kp w w1 := Kp.trans (((Kp.refl w).alloc _).alloc _) g1) | (go_at_call_of 50 (Value.int .i64 2); refine (hE1 _ _ _ _ _ ok _).mono ?_; rintro e w2 ⟨rfl, g2⟩; have k2 : Kp w w2 := Kp.trans ((k1.alloc _).alloc _) g2; have qa : H3 ((w1.alloc (.cells #[.bool N1, .int .i64 ((P1 : Nat) : Int), .int .i64 ((Q1 : Nat) : Int)] 50)).alloc (.cells #[.bool N2, .int .i64 ((P2 : Nat) : Int), .int .i64 ((Q2 : Nat) : Int)] 50)) w1.heap.size (.bool N1) (.int .i64 ((P1 : Nat) : Int)) (.int .i64 ((Q1 : Nat) : Int)) := H3.past (H3.new w1 _ _ _ 50) _ _; have qb : H3 ((w1.alloc (.cells #[.bool N1, .int .i64 ((P1 : Nat) : Int), .int .i64 ((Q1 : Nat) : Int)] 50)).alloc (.cells #[.bool N2, .int .i64 ((P2 : Nat) : Int), .int .i64 ((Q2 : Nat) : Int)] 50)) (w1.heap.size + 1) (.bool N2) (.int .i64 ((P2 : Nat) : Int)) (.int .i64 ((Q2 : Nat) : Int)) := (by unfold H3; simp [go_sem]); obtain ⟨a0, a1, a2, a3, a4, a5⟩ := H3.keep qa g2; obtain ⟨b0, b1, b2, b3, b4, b5⟩ := H3.keep qb g2) | (go_at_call_of 50 (Value.int .i64 3); refine (hE2 _ _ _ _ _ ok _).mono ?_; rintro e w3 ⟨rfl, g3⟩; have k3 : Kp w w3 := Kp.trans k2 g3))
    exact bodyPost_ret (v := .bool _) (by simp [results, Try.results33, go_sem]) rfl ⟨rfl, (by first | exact k3 | exact k2)⟩)
theorem rsless9_ (X1 X2 Y1 Y2 L1 H1 L2 H2 : Int) (d1 : VdZ L1 H1) (d2 : VdZ L2 H2) (hx : ∀ w : World, Calls Try.prog 10 #[.agg #[.int .u64 X1, .int .u64 X2]] w fun e w' => e = .returned (.agg #[.int .u64 (pI L1), .int .u64 (pI H1)]) ∧ Kp w w') (hy : ∀ w : World, Calls Try.prog 10 #[.agg #[.int .u64 Y1, .int .u64 Y2]] w fun e w' => e = .returned (.agg #[.int .u64 (pI L2), .int .u64 (pI H2)]) ∧ Kp w w') (w : World) : Calls Try.prog 33 #[.agg #[.int .u64 X1, .int .u64 X2], .agg #[.int .u64 Y1, .int .u64 Y2]] w fun e w' => e = .returned (.bool (decide ((L1 = 9218868437227405312 ∨ H1 < H2 ∨ H2 = 9218868437227405312) ∧ (L2 = 9218868437227405312 ∨ L1 < L2 ∨ L1 = -9218868437227405312)))) ∧ Kp w w' := by
  have h := rslessA_ X1 X2 Y1 Y2 _ _ (RowOk L1 H1 L2 H2) (rowsZ_ X1 X2 Y1 Y2 L1 H1 L2 H2 d1 d2 hx hy) _ _ (fun P1 Q1 P2 Q2 n ok w => es2_ L1 H1 L2 H2 d1 d2 P1 Q1 P2 Q2 n ok w) (fun P1 Q1 P2 Q2 n ok w => es3_ L2 H2 L1 H1 d2 d1 P2 Q2 P1 Q1 n ok.swap w) w
  rw [← Bool.decide_and, show decide ((L1 = 9218868437227405312 ∨ (L2 ≠ 9218868437227405312 ∧ (H1 < H2 ∨ H2 = 9218868437227405312))) ∧ (L2 = 9218868437227405312 ∨ (L1 ≠ 9218868437227405312 ∧ (L1 < L2 ∨ L1 = -9218868437227405312)))) = decide ((L1 = 9218868437227405312 ∨ H1 < H2 ∨ H2 = 9218868437227405312) ∧ (L2 = 9218868437227405312 ∨ L1 < L2 ∨ L1 = -9218868437227405312)) from by
    congr 1; apply propext
    unfold VdZ at d1 d2
    omega] at h
  exact h
end Go.Proofs.Ythajkngngdnidaa
