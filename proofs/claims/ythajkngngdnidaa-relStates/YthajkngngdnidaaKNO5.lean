import Derived.Test.YthajkngngdnidaaProg
import Derived.Test.YthajkngngdnidaaKXA0
import Derived.Test.YthajkngngdnidaaKQM
import Derived.Test.YthajkngngdnidaaKQA
import Derived.Test.YthajkngngdnidaaKXQU
import Derived.Test.YthajkngngdnidaaKEM
import Derived.Test.YthajkngngdnidaaKEN
import Derived.Test.YthajkngngdnidaaKEA
import Derived.Test.YthajkngngdnidaaKEB
import Derived.Test.YthajkngngdnidaaKEH
import Derived.Test.YthajkngngdnidaaKEK
import Derived.Test.YthajkngngdnidaaKEO
import Derived.Test.YthajkngngdnidaaKER
import Derived.Test.YthajkngngdnidaaKES
import Derived.Test.YthajkngngdnidaaKNRv
import Derived.Test.YthajkngngdnidaaKNRm
import Derived.Test.YthajkngngdnidaaKNRa
import Derived.Test.YthajkngngdnidaaKNRj
import Derived.Test.YthajkngngdnidaaKNCo
import Derived.Test.YthajkngngdnidaaKNCm
import Derived.Test.YthajkngngdnidaaKNCa
import Derived.Test.YthajkngngdnidaaKNCb
import Derived.Test.YthajkngngdnidaaKNCc
import Derived.Test.YthajkngngdnidaaKNCd
import Derived.Test.YthajkngngdnidaaKNCe
import Derived.Test.YthajkngngdnidaaKNCf
import Derived.Test.YthajkngngdnidaaKNCg
import Derived.Test.YthajkngngdnidaaKNCh
import Derived.WalkKit
import Derived.ProofKit
import Derived.RowKit3
import Derived.WalkSpells
import Derived.StillTactics
import Derived.Deep.QuietTactic
import Derived.BigQuiet
import Derived.Below
import Derived.Deep.OwnRows
import Derived.OwnWalk
import Derived.Laws.BitsAllLaws
import Derived.Laws.Slices
import Derived.Laws.Bits64b
import Derived.Laws.FloatArith
import Derived.Deep.RegionHeld3
import Derived.Deep.CutRange
import Derived.Deep.DeepCutAuto
namespace Go.Proofs.Ythajkngngdnidaa
open Go.RowKit
set_option linter.unusedVariables false
set_option maxRecDepth 20000 in
set_option maxHeartbeats 4000000 in
theorem rovk5_ (X1 X2 Y1 Y2 : Int) (hr : ∀ w : World, Calls Try.prog 49 #[.agg #[.int .u64 X1, .int .u64 X2], .agg #[.int .u64 Y1, .int .u64 Y2]] w fun e w' => ∃ P1 Q1 P2 Q2 n : Nat, e = .returned (.tuple #[.agg #[.bool false, .int .i64 ((P1 : Nat) : Int), .int .i64 ((Q1 : Nat) : Int)], .agg #[.bool false, .int .i64 ((P2 : Nat) : Int), .int .i64 ((Q2 : Nat) : Int)], .int .i64 (n : Int)]) ∧ (P1 < Q1 ∧ P1 = P2 ∧ P1 < Q2 ∧ P2 < Q1 ∧ Q1 = Q2 ∧ P2 < Q2) ∧ Kp w w') (w : World) : Calls Try.prog 39 #[.agg #[.int .u64 X1, .int .u64 X2], .agg #[.int .u64 Y1, .int .u64 Y2]] w fun e w' => e = .returned (.int .i64 9) ∧ Kp w w' := by
  go_enter Try.func39, Try.ntmps39
  go_upto_region 2 with (first | (go_at_call 49; refine (hr _).mono ?_; rintro e w1 ⟨P1, Q1, P2, Q2, n, rfl, ok, g1⟩; have k1 : Kp w w1 := Kp.trans (((Kp.refl w).alloc _).alloc _) g1))
  obtain ⟨z1, z2, z3, z4, z5, z6⟩ := ok
  have l01 : ((P1 : Int) < (Q1 : Int)) := by omega
  have l10 : ¬ ((Q1 : Int) < (P1 : Int)) := by omega
  have q01 : ((P1 : Int) == (Q1 : Int)) = false := by simp; omega
  have q10 : ((Q1 : Int) == (P1 : Int)) = false := by simp; omega
  have l02 : ¬ ((P1 : Int) < (P2 : Int)) := by omega
  have l20 : ¬ ((P2 : Int) < (P1 : Int)) := by omega
  have q02 : ((P1 : Int) == (P2 : Int)) = true := by simp; omega
  have q20 : ((P2 : Int) == (P1 : Int)) = true := by simp; omega
  have l03 : ((P1 : Int) < (Q2 : Int)) := by omega
  have l30 : ¬ ((Q2 : Int) < (P1 : Int)) := by omega
  have q03 : ((P1 : Int) == (Q2 : Int)) = false := by simp; omega
  have q30 : ((Q2 : Int) == (P1 : Int)) = false := by simp; omega
  have l12 : ¬ ((Q1 : Int) < (P2 : Int)) := by omega
  have l21 : ((P2 : Int) < (Q1 : Int)) := by omega
  have q12 : ((Q1 : Int) == (P2 : Int)) = false := by simp; omega
  have q21 : ((P2 : Int) == (Q1 : Int)) = false := by simp; omega
  have l13 : ¬ ((Q1 : Int) < (Q2 : Int)) := by omega
  have l31 : ¬ ((Q2 : Int) < (Q1 : Int)) := by omega
  have q13 : ((Q1 : Int) == (Q2 : Int)) = true := by simp; omega
  have q31 : ((Q2 : Int) == (Q1 : Int)) = true := by simp; omega
  have l23 : ((P2 : Int) < (Q2 : Int)) := by omega
  have l32 : ¬ ((Q2 : Int) < (P2 : Int)) := by omega
  have q23 : ((P2 : Int) == (Q2 : Int)) = false := by simp; omega
  have q32 : ((Q2 : Int) == (P2 : Int)) = false := by simp; omega
  clear z1 z2 z3 z4 z5 z6
  have HT : Hid (∀ (o1 o2 : Obj) (k : Nat), k < 7 → (((w1.alloc o1).alloc o2).alloc (.cells #[.bool false, .bool false, .bool false, .bool false, .bool false, .bool false, .bool true, .bool false, .bool false, .bool false, .bool false, .bool false] 4)).cell? ⟨w1.heap.size + 1 + 1, k, none⟩ = some (.bool (k == 6))) := by
    intro o1 o2 k hk
    rcases (by omega : k = 0 ∨ k = 1 ∨ k = 2 ∨ k = 3 ∨ k = 4 ∨ k = 5 ∨ k = 6) with rfl | rfl | rfl | rfl | rfl | rfl | rfl <;> simp [go_sem]
  go_wp2
  go_loop [13] (fun i => ∃ k : Nat, i = .int .i64 k ∧ k ≤ 6) (fun i => 12 - (intOf i).toNat)
  case atStart => exact ⟨0, rfl, Nat.zero_le _⟩
  case round =>
    obtain ⟨k, rfl, hk⟩ := hrel
    by_cases ck : k < 6
    · have e1 : ∀ (o1 o2 : Obj), (((w1.alloc o1).alloc o2).alloc (.cells #[.bool false, .bool false, .bool false, .bool false, .bool false, .bool false, .bool true, .bool false, .bool false, .bool false, .bool false, .bool false] 4)).cell? ⟨w1.heap.size + 1 + 1, k, none⟩ = some (.bool false) := fun o1 o2 => by
        have h := HT.out o1 o2 k (by omega)
        rw [show (k == 6) = false from by simp; omega] at h
        exact h
      clear HT
      go_wp2
      exact ⟨⟨k + 1, by go_num, by omega⟩, by simp [intOf]; omega⟩
    · obtain rfl : k = 6 := by omega
      have e1 : ∀ (o1 o2 : Obj), (((w1.alloc o1).alloc o2).alloc (.cells #[.bool false, .bool false, .bool false, .bool false, .bool false, .bool false, .bool true, .bool false, .bool false, .bool false, .bool false, .bool false] 4)).cell? ⟨w1.heap.size + 1 + 1, 6, none⟩ = some (.bool true) := fun o1 o2 => HT.out o1 o2 6 (by omega)
      clear HT
      go_wp2
      exact bodyPost_ret (v := .int .i64 9) (by simp [results, Try.results39, go_sem]) rfl ⟨rfl, (by repeat (with_reducible (first | assumption | exact Kp.refl _ | apply Kp.drew | apply Kp.alloc | apply Kp.drewN | (refine Kp.setCell ?_ (by first | omega | (simp <;> omega)) _) | (refine Kp.trans ?_ (by assumption)))))⟩
set_option maxRecDepth 20000 in
set_option maxHeartbeats 4000000 in
theorem rovk11_ (X1 X2 Y1 Y2 : Int) (hr : ∀ w : World, Calls Try.prog 49 #[.agg #[.int .u64 X1, .int .u64 X2], .agg #[.int .u64 Y1, .int .u64 Y2]] w fun e w' => ∃ P1 Q1 P2 Q2 n : Nat, e = .returned (.tuple #[.agg #[.bool false, .int .i64 ((P1 : Nat) : Int), .int .i64 ((Q1 : Nat) : Int)], .agg #[.bool false, .int .i64 ((P2 : Nat) : Int), .int .i64 ((Q2 : Nat) : Int)], .int .i64 (n : Int)]) ∧ (P1 < Q1 ∧ P1 = P2 ∧ P1 < Q2 ∧ P2 < Q1 ∧ Q2 < Q1 ∧ P2 < Q2) ∧ Kp w w') (w : World) : Calls Try.prog 39 #[.agg #[.int .u64 X1, .int .u64 X2], .agg #[.int .u64 Y1, .int .u64 Y2]] w fun e w' => e = .returned (.int .i64 12) ∧ Kp w w' := by
  go_enter Try.func39, Try.ntmps39
  go_upto_region 2 with (first | (go_at_call 49; refine (hr _).mono ?_; rintro e w1 ⟨P1, Q1, P2, Q2, n, rfl, ok, g1⟩; have k1 : Kp w w1 := Kp.trans (((Kp.refl w).alloc _).alloc _) g1))
  obtain ⟨z1, z2, z3, z4, z5, z6⟩ := ok
  have l01 : ((P1 : Int) < (Q1 : Int)) := by omega
  have l10 : ¬ ((Q1 : Int) < (P1 : Int)) := by omega
  have q01 : ((P1 : Int) == (Q1 : Int)) = false := by simp; omega
  have q10 : ((Q1 : Int) == (P1 : Int)) = false := by simp; omega
  have l02 : ¬ ((P1 : Int) < (P2 : Int)) := by omega
  have l20 : ¬ ((P2 : Int) < (P1 : Int)) := by omega
  have q02 : ((P1 : Int) == (P2 : Int)) = true := by simp; omega
  have q20 : ((P2 : Int) == (P1 : Int)) = true := by simp; omega
  have l03 : ((P1 : Int) < (Q2 : Int)) := by omega
  have l30 : ¬ ((Q2 : Int) < (P1 : Int)) := by omega
  have q03 : ((P1 : Int) == (Q2 : Int)) = false := by simp; omega
  have q30 : ((Q2 : Int) == (P1 : Int)) = false := by simp; omega
  have l12 : ¬ ((Q1 : Int) < (P2 : Int)) := by omega
  have l21 : ((P2 : Int) < (Q1 : Int)) := by omega
  have q12 : ((Q1 : Int) == (P2 : Int)) = false := by simp; omega
  have q21 : ((P2 : Int) == (Q1 : Int)) = false := by simp; omega
  have l13 : ¬ ((Q1 : Int) < (Q2 : Int)) := by omega
  have l31 : ((Q2 : Int) < (Q1 : Int)) := by omega
  have q13 : ((Q1 : Int) == (Q2 : Int)) = false := by simp; omega
  have q31 : ((Q2 : Int) == (Q1 : Int)) = false := by simp; omega
  have l23 : ((P2 : Int) < (Q2 : Int)) := by omega
  have l32 : ¬ ((Q2 : Int) < (P2 : Int)) := by omega
  have q23 : ((P2 : Int) == (Q2 : Int)) = false := by simp; omega
  have q32 : ((Q2 : Int) == (P2 : Int)) = false := by simp; omega
  clear z1 z2 z3 z4 z5 z6
  have HT : Hid (∀ (o1 o2 : Obj) (k : Nat), k < 10 → (((w1.alloc o1).alloc o2).alloc (.cells #[.bool false, .bool false, .bool false, .bool false, .bool false, .bool false, .bool false, .bool false, .bool false, .bool true, .bool false, .bool false] 4)).cell? ⟨w1.heap.size + 1 + 1, k, none⟩ = some (.bool (k == 9))) := by
    intro o1 o2 k hk
    rcases (by omega : k = 0 ∨ k = 1 ∨ k = 2 ∨ k = 3 ∨ k = 4 ∨ k = 5 ∨ k = 6 ∨ k = 7 ∨ k = 8 ∨ k = 9) with rfl | rfl | rfl | rfl | rfl | rfl | rfl | rfl | rfl | rfl <;> simp [go_sem]
  go_wp2
  go_loop [13] (fun i => ∃ k : Nat, i = .int .i64 k ∧ k ≤ 9) (fun i => 12 - (intOf i).toNat)
  case atStart => exact ⟨0, rfl, Nat.zero_le _⟩
  case round =>
    obtain ⟨k, rfl, hk⟩ := hrel
    by_cases ck : k < 9
    · have e1 : ∀ (o1 o2 : Obj), (((w1.alloc o1).alloc o2).alloc (.cells #[.bool false, .bool false, .bool false, .bool false, .bool false, .bool false, .bool false, .bool false, .bool false, .bool true, .bool false, .bool false] 4)).cell? ⟨w1.heap.size + 1 + 1, k, none⟩ = some (.bool false) := fun o1 o2 => by
        have h := HT.out o1 o2 k (by omega)
        rw [show (k == 9) = false from by simp; omega] at h
        exact h
      clear HT
      go_wp2
      exact ⟨⟨k + 1, by go_num, by omega⟩, by simp [intOf]; omega⟩
    · obtain rfl : k = 9 := by omega
      have e1 : ∀ (o1 o2 : Obj), (((w1.alloc o1).alloc o2).alloc (.cells #[.bool false, .bool false, .bool false, .bool false, .bool false, .bool false, .bool false, .bool false, .bool false, .bool true, .bool false, .bool false] 4)).cell? ⟨w1.heap.size + 1 + 1, 9, none⟩ = some (.bool true) := fun o1 o2 => HT.out o1 o2 9 (by omega)
      clear HT
      go_wp2
      exact bodyPost_ret (v := .int .i64 12) (by simp [results, Try.results39, go_sem]) rfl ⟨rfl, (by repeat (with_reducible (first | assumption | exact Kp.refl _ | apply Kp.drew | apply Kp.alloc | apply Kp.drewN | (refine Kp.setCell ?_ (by first | omega | (simp <;> omega)) _) | (refine Kp.trans ?_ (by assumption)))))⟩
set_option maxRecDepth 20000 in
set_option maxHeartbeats 4000000 in
theorem rovk17_ (X1 X2 Y1 Y2 : Int) (hr : ∀ w : World, Calls Try.prog 49 #[.agg #[.int .u64 X1, .int .u64 X2], .agg #[.int .u64 Y1, .int .u64 Y2]] w fun e w' => ∃ P1 Q1 P2 Q2 n : Nat, e = .returned (.tuple #[.agg #[.bool false, .int .i64 ((P1 : Nat) : Int), .int .i64 ((Q1 : Nat) : Int)], .agg #[.bool false, .int .i64 ((P2 : Nat) : Int), .int .i64 ((Q2 : Nat) : Int)], .int .i64 (n : Int)]) ∧ (P1 = Q1 ∧ P2 < P1 ∧ P1 = Q2 ∧ P2 < Q1 ∧ Q1 = Q2 ∧ P2 < Q2) ∧ Kp w w') (w : World) : Calls Try.prog 39 #[.agg #[.int .u64 X1, .int .u64 X2], .agg #[.int .u64 Y1, .int .u64 Y2]] w fun e w' => e = .returned (.int .i64 8) ∧ Kp w w' := by
  go_enter Try.func39, Try.ntmps39
  go_upto_region 2 with (first | (go_at_call 49; refine (hr _).mono ?_; rintro e w1 ⟨P1, Q1, P2, Q2, n, rfl, ok, g1⟩; have k1 : Kp w w1 := Kp.trans (((Kp.refl w).alloc _).alloc _) g1))
  obtain ⟨z1, z2, z3, z4, z5, z6⟩ := ok
  have l01 : ¬ ((P1 : Int) < (Q1 : Int)) := by omega
  have l10 : ¬ ((Q1 : Int) < (P1 : Int)) := by omega
  have q01 : ((P1 : Int) == (Q1 : Int)) = true := by simp; omega
  have q10 : ((Q1 : Int) == (P1 : Int)) = true := by simp; omega
  have l02 : ¬ ((P1 : Int) < (P2 : Int)) := by omega
  have l20 : ((P2 : Int) < (P1 : Int)) := by omega
  have q02 : ((P1 : Int) == (P2 : Int)) = false := by simp; omega
  have q20 : ((P2 : Int) == (P1 : Int)) = false := by simp; omega
  have l03 : ¬ ((P1 : Int) < (Q2 : Int)) := by omega
  have l30 : ¬ ((Q2 : Int) < (P1 : Int)) := by omega
  have q03 : ((P1 : Int) == (Q2 : Int)) = true := by simp; omega
  have q30 : ((Q2 : Int) == (P1 : Int)) = true := by simp; omega
  have l12 : ¬ ((Q1 : Int) < (P2 : Int)) := by omega
  have l21 : ((P2 : Int) < (Q1 : Int)) := by omega
  have q12 : ((Q1 : Int) == (P2 : Int)) = false := by simp; omega
  have q21 : ((P2 : Int) == (Q1 : Int)) = false := by simp; omega
  have l13 : ¬ ((Q1 : Int) < (Q2 : Int)) := by omega
  have l31 : ¬ ((Q2 : Int) < (Q1 : Int)) := by omega
  have q13 : ((Q1 : Int) == (Q2 : Int)) = true := by simp; omega
  have q31 : ((Q2 : Int) == (Q1 : Int)) = true := by simp; omega
  have l23 : ((P2 : Int) < (Q2 : Int)) := by omega
  have l32 : ¬ ((Q2 : Int) < (P2 : Int)) := by omega
  have q23 : ((P2 : Int) == (Q2 : Int)) = false := by simp; omega
  have q32 : ((Q2 : Int) == (P2 : Int)) = false := by simp; omega
  clear z1 z2 z3 z4 z5 z6
  have HT : Hid (∀ (o1 o2 : Obj) (k : Nat), k < 6 → (((w1.alloc o1).alloc o2).alloc (.cells #[.bool false, .bool false, .bool false, .bool false, .bool false, .bool true, .bool false, .bool false, .bool false, .bool false, .bool false, .bool false] 4)).cell? ⟨w1.heap.size + 1 + 1, k, none⟩ = some (.bool (k == 5))) := by
    intro o1 o2 k hk
    rcases (by omega : k = 0 ∨ k = 1 ∨ k = 2 ∨ k = 3 ∨ k = 4 ∨ k = 5) with rfl | rfl | rfl | rfl | rfl | rfl <;> simp [go_sem]
  go_wp2
  go_loop [13] (fun i => ∃ k : Nat, i = .int .i64 k ∧ k ≤ 5) (fun i => 12 - (intOf i).toNat)
  case atStart => exact ⟨0, rfl, Nat.zero_le _⟩
  case round =>
    obtain ⟨k, rfl, hk⟩ := hrel
    by_cases ck : k < 5
    · have e1 : ∀ (o1 o2 : Obj), (((w1.alloc o1).alloc o2).alloc (.cells #[.bool false, .bool false, .bool false, .bool false, .bool false, .bool true, .bool false, .bool false, .bool false, .bool false, .bool false, .bool false] 4)).cell? ⟨w1.heap.size + 1 + 1, k, none⟩ = some (.bool false) := fun o1 o2 => by
        have h := HT.out o1 o2 k (by omega)
        rw [show (k == 5) = false from by simp; omega] at h
        exact h
      clear HT
      go_wp2
      exact ⟨⟨k + 1, by go_num, by omega⟩, by simp [intOf]; omega⟩
    · obtain rfl : k = 5 := by omega
      have e1 : ∀ (o1 o2 : Obj), (((w1.alloc o1).alloc o2).alloc (.cells #[.bool false, .bool false, .bool false, .bool false, .bool false, .bool true, .bool false, .bool false, .bool false, .bool false, .bool false, .bool false] 4)).cell? ⟨w1.heap.size + 1 + 1, 5, none⟩ = some (.bool true) := fun o1 o2 => HT.out o1 o2 5 (by omega)
      clear HT
      go_wp2
      exact bodyPost_ret (v := .int .i64 8) (by simp [results, Try.results39, go_sem]) rfl ⟨rfl, (by repeat (with_reducible (first | assumption | exact Kp.refl _ | apply Kp.drew | apply Kp.alloc | apply Kp.drewN | (refine Kp.setCell ?_ (by first | omega | (simp <;> omega)) _) | (refine Kp.trans ?_ (by assumption)))))⟩
set_option maxRecDepth 20000 in
set_option maxHeartbeats 4000000 in
theorem rovk23_ (X1 X2 Y1 Y2 : Int) (hr : ∀ w : World, Calls Try.prog 49 #[.agg #[.int .u64 X1, .int .u64 X2], .agg #[.int .u64 Y1, .int .u64 Y2]] w fun e w' => ∃ P1 Q1 P2 Q2 n : Nat, e = .returned (.tuple #[.agg #[.bool false, .int .i64 ((P1 : Nat) : Int), .int .i64 ((Q1 : Nat) : Int)], .agg #[.bool false, .int .i64 ((P2 : Nat) : Int), .int .i64 ((Q2 : Nat) : Int)], .int .i64 (n : Int)]) ∧ (P1 < Q1 ∧ P2 < P1 ∧ P1 < Q2 ∧ P2 < Q1 ∧ Q2 < Q1 ∧ P2 < Q2) ∧ Kp w w') (w : World) : Calls Try.prog 39 #[.agg #[.int .u64 X1, .int .u64 X2], .agg #[.int .u64 Y1, .int .u64 Y2]] w fun e w' => e = .returned (.int .i64 13) ∧ Kp w w' := by
  go_enter Try.func39, Try.ntmps39
  go_upto_region 2 with (first | (go_at_call 49; refine (hr _).mono ?_; rintro e w1 ⟨P1, Q1, P2, Q2, n, rfl, ok, g1⟩; have k1 : Kp w w1 := Kp.trans (((Kp.refl w).alloc _).alloc _) g1))
  obtain ⟨z1, z2, z3, z4, z5, z6⟩ := ok
  have l01 : ((P1 : Int) < (Q1 : Int)) := by omega
  have l10 : ¬ ((Q1 : Int) < (P1 : Int)) := by omega
  have q01 : ((P1 : Int) == (Q1 : Int)) = false := by simp; omega
  have q10 : ((Q1 : Int) == (P1 : Int)) = false := by simp; omega
  have l02 : ¬ ((P1 : Int) < (P2 : Int)) := by omega
  have l20 : ((P2 : Int) < (P1 : Int)) := by omega
  have q02 : ((P1 : Int) == (P2 : Int)) = false := by simp; omega
  have q20 : ((P2 : Int) == (P1 : Int)) = false := by simp; omega
  have l03 : ((P1 : Int) < (Q2 : Int)) := by omega
  have l30 : ¬ ((Q2 : Int) < (P1 : Int)) := by omega
  have q03 : ((P1 : Int) == (Q2 : Int)) = false := by simp; omega
  have q30 : ((Q2 : Int) == (P1 : Int)) = false := by simp; omega
  have l12 : ¬ ((Q1 : Int) < (P2 : Int)) := by omega
  have l21 : ((P2 : Int) < (Q1 : Int)) := by omega
  have q12 : ((Q1 : Int) == (P2 : Int)) = false := by simp; omega
  have q21 : ((P2 : Int) == (Q1 : Int)) = false := by simp; omega
  have l13 : ¬ ((Q1 : Int) < (Q2 : Int)) := by omega
  have l31 : ((Q2 : Int) < (Q1 : Int)) := by omega
  have q13 : ((Q1 : Int) == (Q2 : Int)) = false := by simp; omega
  have q31 : ((Q2 : Int) == (Q1 : Int)) = false := by simp; omega
  have l23 : ((P2 : Int) < (Q2 : Int)) := by omega
  have l32 : ¬ ((Q2 : Int) < (P2 : Int)) := by omega
  have q23 : ((P2 : Int) == (Q2 : Int)) = false := by simp; omega
  have q32 : ((Q2 : Int) == (P2 : Int)) = false := by simp; omega
  clear z1 z2 z3 z4 z5 z6
  have HT : Hid (∀ (o1 o2 : Obj) (k : Nat), k < 11 → (((w1.alloc o1).alloc o2).alloc (.cells #[.bool false, .bool false, .bool false, .bool false, .bool false, .bool false, .bool false, .bool false, .bool false, .bool false, .bool true, .bool false] 4)).cell? ⟨w1.heap.size + 1 + 1, k, none⟩ = some (.bool (k == 10))) := by
    intro o1 o2 k hk
    rcases (by omega : k = 0 ∨ k = 1 ∨ k = 2 ∨ k = 3 ∨ k = 4 ∨ k = 5 ∨ k = 6 ∨ k = 7 ∨ k = 8 ∨ k = 9 ∨ k = 10) with rfl | rfl | rfl | rfl | rfl | rfl | rfl | rfl | rfl | rfl | rfl <;> simp [go_sem]
  go_wp2
  go_loop [13] (fun i => ∃ k : Nat, i = .int .i64 k ∧ k ≤ 10) (fun i => 12 - (intOf i).toNat)
  case atStart => exact ⟨0, rfl, Nat.zero_le _⟩
  case round =>
    obtain ⟨k, rfl, hk⟩ := hrel
    by_cases ck : k < 10
    · have e1 : ∀ (o1 o2 : Obj), (((w1.alloc o1).alloc o2).alloc (.cells #[.bool false, .bool false, .bool false, .bool false, .bool false, .bool false, .bool false, .bool false, .bool false, .bool false, .bool true, .bool false] 4)).cell? ⟨w1.heap.size + 1 + 1, k, none⟩ = some (.bool false) := fun o1 o2 => by
        have h := HT.out o1 o2 k (by omega)
        rw [show (k == 10) = false from by simp; omega] at h
        exact h
      clear HT
      go_wp2
      exact ⟨⟨k + 1, by go_num, by omega⟩, by simp [intOf]; omega⟩
    · obtain rfl : k = 10 := by omega
      have e1 : ∀ (o1 o2 : Obj), (((w1.alloc o1).alloc o2).alloc (.cells #[.bool false, .bool false, .bool false, .bool false, .bool false, .bool false, .bool false, .bool false, .bool false, .bool false, .bool true, .bool false] 4)).cell? ⟨w1.heap.size + 1 + 1, 10, none⟩ = some (.bool true) := fun o1 o2 => HT.out o1 o2 10 (by omega)
      clear HT
      go_wp2
      exact bodyPost_ret (v := .int .i64 13) (by simp [results, Try.results39, go_sem]) rfl ⟨rfl, (by repeat (with_reducible (first | assumption | exact Kp.refl _ | apply Kp.drew | apply Kp.alloc | apply Kp.drewN | (refine Kp.setCell ?_ (by first | omega | (simp <;> omega)) _) | (refine Kp.trans ?_ (by assumption)))))⟩
end Go.Proofs.Ythajkngngdnidaa
