import Derived.Test.YthajkngngdnidaaProg
import Derived.Test.YthajkngngdnidaaKXA0
import Derived.Test.YthajkngngdnidaaKQM
import Derived.Test.YthajkngngdnidaaKQA
import Derived.Test.YthajkngngdnidaaKXQU
import Derived.Test.YthajkngngdnidaaKEM
import Derived.Test.YthajkngngdnidaaKEN
import Derived.Test.YthajkngngdnidaaKEA
import Derived.Test.YthajkngngdnidaaKEB
import Derived.Test.YthajkngngdnidaaKEH
import Derived.Test.YthajkngngdnidaaKEK
import Derived.Test.YthajkngngdnidaaKEO
import Derived.Test.YthajkngngdnidaaKER
import Derived.Test.YthajkngngdnidaaKES
import Derived.Test.YthajkngngdnidaaKNRv
import Derived.Test.YthajkngngdnidaaKNRm
import Derived.Test.YthajkngngdnidaaKNRa
import Derived.Test.YthajkngngdnidaaKNRj
import Derived.Test.YthajkngngdnidaaKNCo
import Derived.Test.YthajkngngdnidaaKNCm
import Derived.Test.YthajkngngdnidaaKNCa
import Derived.Test.YthajkngngdnidaaKNCb
import Derived.Test.YthajkngngdnidaaKNCc
import Derived.Test.YthajkngngdnidaaKNCd
import Derived.Test.YthajkngngdnidaaKNCe
import Derived.Test.YthajkngngdnidaaKNCf
import Derived.Test.YthajkngngdnidaaKNCg
import Derived.Test.YthajkngngdnidaaKNCh
import Derived.WalkKit
import Derived.ProofKit
import Derived.RowKit3
import Derived.WalkSpells
import Derived.StillTactics
import Derived.Deep.QuietTactic
import Derived.BigQuiet
import Derived.Below
import Derived.Deep.OwnRows
import Derived.OwnWalk
import Derived.Laws.BitsAllLaws
import Derived.Laws.Slices
import Derived.Laws.Bits64b
import Derived.Laws.FloatArith
import Derived.Deep.RegionHeld3
import Derived.Deep.CutRange
import Derived.Deep.DeepCutAuto
namespace Go.Proofs.Ythajkngngdnidaa
open Go.RowKit
set_option maxRecDepth 20000 in
set_option maxHeartbeats 2000000 in
theorem rsubsetA_ (X1 X2 Y1 Y2 : Int) (N1 N2 : Bool) (OK : Nat → Nat → Nat → Nat → Nat → Prop) (hr : ∀ w : World, Calls Try.prog 49 #[.agg #[.int .u64 X1, .int .u64 X2], .agg #[.int .u64 Y1, .int .u64 Y2]] w fun e w' => ∃ P1 Q1 P2 Q2 n : Nat, e = .returned (.tuple #[.agg #[.bool N1, .int .i64 ((P1 : Nat) : Int), .int .i64 ((Q1 : Nat) : Int)], .agg #[.bool N2, .int .i64 ((P2 : Nat) : Int), .int .i64 ((Q2 : Nat) : Int)], .int .i64 (n : Int)]) ∧ OK P1 Q1 P2 Q2 n ∧ Kp w w') (V : Bool) (hE1 : ∀ (P1 Q1 P2 Q2 n : Nat), OK P1 Q1 P2 Q2 n → ∀ w : World, Calls Try.prog 50 #[.int .i64 0, .agg #[.bool N1, .int .i64 ((P1 : Nat) : Int), .int .i64 ((Q1 : Nat) : Int)], .agg #[.bool N2, .int .i64 ((P2 : Nat) : Int), .int .i64 ((Q2 : Nat) : Int)], .int .i64 (n : Int)] w fun e w' => e = .returned (.bool V) ∧ Kp w w') (w : World) : Calls Try.prog 25 #[.agg #[.int .u64 X1, .int .u64 X2], .agg #[.int .u64 Y1, .int .u64 Y2]] w fun e w' => e = .returned (.bool V) ∧ Kp w w' := by
  go_enter Try.func25, Try.ntmps25
  go_wp2_with (first | (go_at_call 49; refine (hr _).mono ?_; rintro e w1 ⟨P1, Q1, P2, Q2, n, rfl, ok, g1⟩; have k1 : Kp w w1 := Kp.trans (((Kp.refl w).alloc _).alloc _) g1) | (go_at_call 50; refine (hE1 _ _ _ _ _ ok _).mono ?_; rintro e w2 ⟨rfl, g2⟩; have k2 : Kp w w2 := Kp.trans ((k1.alloc _).alloc _) g2))
  exact bodyPost_ret (v := .bool V) (by simp [results, Try.results25, go_sem]) rfl ⟨rfl, k2⟩
theorem rsubset9_ (X1 X2 Y1 Y2 L1 H1 L2 H2 : Int) (d1 : VdZ L1 H1) (d2 : VdZ L2 H2) (hx : ∀ w : World, Calls Try.prog 10 #[.agg #[.int .u64 X1, .int .u64 X2]] w fun e w' => e = .returned (.agg #[.int .u64 (pI L1), .int .u64 (pI H1)]) ∧ Kp w w') (hy : ∀ w : World, Calls Try.prog 10 #[.agg #[.int .u64 Y1, .int .u64 Y2]] w fun e w' => e = .returned (.agg #[.int .u64 (pI L2), .int .u64 (pI H2)]) ∧ Kp w w') (w : World) : Calls Try.prog 25 #[.agg #[.int .u64 X1, .int .u64 X2], .agg #[.int .u64 Y1, .int .u64 Y2]] w fun e w' => e = .returned (.bool (decide (L2 ≤ L1 ∧ H1 ≤ H2))) ∧ Kp w w' :=
  rsubsetA_ X1 X2 Y1 Y2 _ _ (RowOk L1 H1 L2 H2) (rowsZ_ X1 X2 Y1 Y2 L1 H1 L2 H2 d1 d2 hx hy) _ (fun P1 Q1 P2 Q2 n ok w => es0_ L1 H1 L2 H2 d1 d2 P1 Q1 P2 Q2 n ok w) w
set_option maxRecDepth 20000 in
set_option maxHeartbeats 2000000 in
theorem rdisjA_ (X1 X2 Y1 Y2 : Int) (N1 N2 : Bool) (OK : Nat → Nat → Nat → Nat → Nat → Prop) (hr : ∀ w : World, Calls Try.prog 49 #[.agg #[.int .u64 X1, .int .u64 X2], .agg #[.int .u64 Y1, .int .u64 Y2]] w fun e w' => ∃ P1 Q1 P2 Q2 n : Nat, e = .returned (.tuple #[.agg #[.bool N1, .int .i64 ((P1 : Nat) : Int), .int .i64 ((Q1 : Nat) : Int)], .agg #[.bool N2, .int .i64 ((P2 : Nat) : Int), .int .i64 ((Q2 : Nat) : Int)], .int .i64 (n : Int)]) ∧ OK P1 Q1 P2 Q2 n ∧ Kp w w') (V : Bool) (hE1 : ∀ (P1 Q1 P2 Q2 n : Nat), OK P1 Q1 P2 Q2 n → ∀ w : World, Calls Try.prog 53 #[.int .i64 5, .agg #[.bool N1, .int .i64 ((P1 : Nat) : Int), .int .i64 ((Q1 : Nat) : Int)], .agg #[.bool N2, .int .i64 ((P2 : Nat) : Int), .int .i64 ((Q2 : Nat) : Int)], .int .i64 (n : Int)] w fun e w' => e = .returned (.bool V) ∧ Kp w w') (w : World) : Calls Try.prog 29 #[.agg #[.int .u64 X1, .int .u64 X2], .agg #[.int .u64 Y1, .int .u64 Y2]] w fun e w' => e = .returned (.bool V) ∧ Kp w w' := by
  go_enter Try.func29, Try.ntmps29
  go_wp2_with (first | (go_at_call 49; refine (hr _).mono ?_; rintro e w1 ⟨P1, Q1, P2, Q2, n, rfl, ok, g1⟩; have k1 : Kp w w1 := Kp.trans (((Kp.refl w).alloc _).alloc _) g1) | (go_at_call 53; refine (hE1 _ _ _ _ _ ok _).mono ?_; rintro e w2 ⟨rfl, g2⟩; have k2 : Kp w w2 := Kp.trans ((k1.alloc _).alloc _) g2))
  exact bodyPost_ret (v := .bool V) (by simp [results, Try.results29, go_sem]) rfl ⟨rfl, k2⟩
theorem rdisj9_ (X1 X2 Y1 Y2 L1 H1 L2 H2 : Int) (d1 : VdZ L1 H1) (d2 : VdZ L2 H2) (hx : ∀ w : World, Calls Try.prog 10 #[.agg #[.int .u64 X1, .int .u64 X2]] w fun e w' => e = .returned (.agg #[.int .u64 (pI L1), .int .u64 (pI H1)]) ∧ Kp w w') (hy : ∀ w : World, Calls Try.prog 10 #[.agg #[.int .u64 Y1, .int .u64 Y2]] w fun e w' => e = .returned (.agg #[.int .u64 (pI L2), .int .u64 (pI H2)]) ∧ Kp w w') (w : World) : Calls Try.prog 29 #[.agg #[.int .u64 X1, .int .u64 X2], .agg #[.int .u64 Y1, .int .u64 Y2]] w fun e w' => e = .returned (.bool (decide (¬ max L1 L2 ≤ min H1 H2))) ∧ Kp w w' :=
  rdisjA_ X1 X2 Y1 Y2 _ _ (RowOk L1 H1 L2 H2) (rowsZ_ X1 X2 Y1 Y2 L1 H1 L2 H2 d1 d2 hx hy) _ (fun P1 Q1 P2 Q2 n ok w => ee5_ L1 H1 L2 H2 d1 d2 P1 Q1 P2 Q2 n ok w) w
set_option maxRecDepth 20000 in
set_option maxHeartbeats 2000000 in
theorem rprecA_ (X1 X2 Y1 Y2 : Int) (N1 N2 : Bool) (OK : Nat → Nat → Nat → Nat → Nat → Prop) (hr : ∀ w : World, Calls Try.prog 49 #[.agg #[.int .u64 X1, .int .u64 X2], .agg #[.int .u64 Y1, .int .u64 Y2]] w fun e w' => ∃ P1 Q1 P2 Q2 n : Nat, e = .returned (.tuple #[.agg #[.bool N1, .int .i64 ((P1 : Nat) : Int), .int .i64 ((Q1 : Nat) : Int)], .agg #[.bool N2, .int .i64 ((P2 : Nat) : Int), .int .i64 ((Q2 : Nat) : Int)], .int .i64 (n : Int)]) ∧ OK P1 Q1 P2 Q2 n ∧ Kp w w') (V : Bool) (hE1 : ∀ (P1 Q1 P2 Q2 n : Nat), OK P1 Q1 P2 Q2 n → ∀ w : World, Calls Try.prog 53 #[.int .i64 1, .agg #[.bool N1, .int .i64 ((P1 : Nat) : Int), .int .i64 ((Q1 : Nat) : Int)], .agg #[.bool N2, .int .i64 ((P2 : Nat) : Int), .int .i64 ((Q2 : Nat) : Int)], .int .i64 (n : Int)] w fun e w' => e = .returned (.bool V) ∧ Kp w w') (w : World) : Calls Try.prog 35 #[.agg #[.int .u64 X1, .int .u64 X2], .agg #[.int .u64 Y1, .int .u64 Y2]] w fun e w' => e = .returned (.bool V) ∧ Kp w w' := by
  go_enter Try.func35, Try.ntmps35
  go_wp2_with (first | (go_at_call 49; refine (hr _).mono ?_; rintro e w1 ⟨P1, Q1, P2, Q2, n, rfl, ok, g1⟩; have k1 : Kp w w1 := Kp.trans (((Kp.refl w).alloc _).alloc _) g1) | (go_at_call 53; refine (hE1 _ _ _ _ _ ok _).mono ?_; rintro e w2 ⟨rfl, g2⟩; have k2 : Kp w w2 := Kp.trans ((k1.alloc _).alloc _) g2))
  exact bodyPost_ret (v := .bool V) (by simp [results, Try.results35, go_sem]) rfl ⟨rfl, k2⟩
theorem rprec9_ (X1 X2 Y1 Y2 L1 H1 L2 H2 : Int) (d1 : VdZ L1 H1) (d2 : VdZ L2 H2) (hx : ∀ w : World, Calls Try.prog 10 #[.agg #[.int .u64 X1, .int .u64 X2]] w fun e w' => e = .returned (.agg #[.int .u64 (pI L1), .int .u64 (pI H1)]) ∧ Kp w w') (hy : ∀ w : World, Calls Try.prog 10 #[.agg #[.int .u64 Y1, .int .u64 Y2]] w fun e w' => e = .returned (.agg #[.int .u64 (pI L2), .int .u64 (pI H2)]) ∧ Kp w w') (w : World) : Calls Try.prog 35 #[.agg #[.int .u64 X1, .int .u64 X2], .agg #[.int .u64 Y1, .int .u64 Y2]] w fun e w' => e = .returned (.bool (decide (H1 ≤ L2))) ∧ Kp w w' :=
  rprecA_ X1 X2 Y1 Y2 _ _ (RowOk L1 H1 L2 H2) (rowsZ_ X1 X2 Y1 Y2 L1 H1 L2 H2 d1 d2 hx hy) _ (fun P1 Q1 P2 Q2 n ok w => ee1_ L1 H1 L2 H2 d1 d2 P1 Q1 P2 Q2 n ok w) w
set_option maxRecDepth 20000 in
set_option maxHeartbeats 2000000 in
theorem rsprecA_ (X1 X2 Y1 Y2 : Int) (N1 N2 : Bool) (OK : Nat → Nat → Nat → Nat → Nat → Prop) (hr : ∀ w : World, Calls Try.prog 49 #[.agg #[.int .u64 X1, .int .u64 X2], .agg #[.int .u64 Y1, .int .u64 Y2]] w fun e w' => ∃ P1 Q1 P2 Q2 n : Nat, e = .returned (.tuple #[.agg #[.bool N1, .int .i64 ((P1 : Nat) : Int), .int .i64 ((Q1 : Nat) : Int)], .agg #[.bool N2, .int .i64 ((P2 : Nat) : Int), .int .i64 ((Q2 : Nat) : Int)], .int .i64 (n : Int)]) ∧ OK P1 Q1 P2 Q2 n ∧ Kp w w') (V : Bool) (hE1 : ∀ (P1 Q1 P2 Q2 n : Nat), OK P1 Q1 P2 Q2 n → ∀ w : World, Calls Try.prog 53 #[.int .i64 2, .agg #[.bool N1, .int .i64 ((P1 : Nat) : Int), .int .i64 ((Q1 : Nat) : Int)], .agg #[.bool N2, .int .i64 ((P2 : Nat) : Int), .int .i64 ((Q2 : Nat) : Int)], .int .i64 (n : Int)] w fun e w' => e = .returned (.bool V) ∧ Kp w w') (w : World) : Calls Try.prog 37 #[.agg #[.int .u64 X1, .int .u64 X2], .agg #[.int .u64 Y1, .int .u64 Y2]] w fun e w' => e = .returned (.bool V) ∧ Kp w w' := by
  go_enter Try.func37, Try.ntmps37
  go_wp2_with (first | (go_at_call 49; refine (hr _).mono ?_; rintro e w1 ⟨P1, Q1, P2, Q2, n, rfl, ok, g1⟩; have k1 : Kp w w1 := Kp.trans (((Kp.refl w).alloc _).alloc _) g1) | (go_at_call 53; refine (hE1 _ _ _ _ _ ok _).mono ?_; rintro e w2 ⟨rfl, g2⟩; have k2 : Kp w w2 := Kp.trans ((k1.alloc _).alloc _) g2))
  exact bodyPost_ret (v := .bool V) (by simp [results, Try.results37, go_sem]) rfl ⟨rfl, k2⟩
theorem rsprec9_ (X1 X2 Y1 Y2 L1 H1 L2 H2 : Int) (d1 : VdZ L1 H1) (d2 : VdZ L2 H2) (hx : ∀ w : World, Calls Try.prog 10 #[.agg #[.int .u64 X1, .int .u64 X2]] w fun e w' => e = .returned (.agg #[.int .u64 (pI L1), .int .u64 (pI H1)]) ∧ Kp w w') (hy : ∀ w : World, Calls Try.prog 10 #[.agg #[.int .u64 Y1, .int .u64 Y2]] w fun e w' => e = .returned (.agg #[.int .u64 (pI L2), .int .u64 (pI H2)]) ∧ Kp w w') (w : World) : Calls Try.prog 37 #[.agg #[.int .u64 X1, .int .u64 X2], .agg #[.int .u64 Y1, .int .u64 Y2]] w fun e w' => e = .returned (.bool (decide (L1 = 9218868437227405312 ∨ L2 = 9218868437227405312 ∨ H1 < L2))) ∧ Kp w w' :=
  rsprecA_ X1 X2 Y1 Y2 _ _ (RowOk L1 H1 L2 H2) (rowsZ_ X1 X2 Y1 Y2 L1 H1 L2 H2 d1 d2 hx hy) _ (fun P1 Q1 P2 Q2 n ok w => ee2_ L1 H1 L2 H2 d1 d2 P1 Q1 P2 Q2 n ok w) w
end Go.Proofs.Ythajkngngdnidaa
