import Derived.Test.YthajkngngdnidaaProg
import Derived.Test.YthajkngngdnidaaKXA0
import Derived.Test.YthajkngngdnidaaKQM
import Derived.Test.YthajkngngdnidaaKQA
import Derived.Test.YthajkngngdnidaaKXQU
import Derived.Test.YthajkngngdnidaaKEM
import Derived.Test.YthajkngngdnidaaKEN
import Derived.Test.YthajkngngdnidaaKEA
import Derived.Test.YthajkngngdnidaaKEB
import Derived.Test.YthajkngngdnidaaKEH
import Derived.Test.YthajkngngdnidaaKEK
import Derived.Test.YthajkngngdnidaaKEO
import Derived.Test.YthajkngngdnidaaKER
import Derived.Test.YthajkngngdnidaaKES
import Derived.Test.YthajkngngdnidaaKNRv
import Derived.Test.YthajkngngdnidaaKNRm
import Derived.Test.YthajkngngdnidaaKNRa
import Derived.Test.YthajkngngdnidaaKNRj
import Derived.Test.YthajkngngdnidaaKNCo
import Derived.Test.YthajkngngdnidaaKNCm
import Derived.Test.YthajkngngdnidaaKNCa
import Derived.Test.YthajkngngdnidaaKNCb
import Derived.Test.YthajkngngdnidaaKNCc
import Derived.Test.YthajkngngdnidaaKNCd
import Derived.Test.YthajkngngdnidaaKNCe
import Derived.Test.YthajkngngdnidaaKNCf
import Derived.Test.YthajkngngdnidaaKNCg
import Derived.Test.YthajkngngdnidaaKNCh
import Derived.WalkKit
import Derived.ProofKit
import Derived.RowKit3
import Derived.WalkSpells
import Derived.StillTactics
import Derived.Deep.QuietTactic
import Derived.BigQuiet
import Derived.Below
import Derived.Deep.OwnRows
import Derived.OwnWalk
import Derived.Laws.BitsAllLaws
import Derived.Laws.Slices
import Derived.Laws.Bits64b
import Derived.Laws.FloatArith
import Derived.Deep.RegionHeld3
import Derived.Deep.CutRange
import Derived.Deep.DeepCutAuto
namespace Go.Proofs.Ythajkngngdnidaa
open Go.RowKit
set_option linter.unusedVariables false
set_option maxRecDepth 20000 in
set_option maxHeartbeats 2000000 in
theorem rover0_ (X1 X2 Y1 Y2 : Int) (OK : Nat → Nat → Nat → Nat → Prop) (hr : ∀ w : World, Calls Try.prog 49 #[.agg #[.int .u64 X1, .int .u64 X2], .agg #[.int .u64 Y1, .int .u64 Y2]] w fun e w' => ∃ P1 Q1 P2 Q2 n : Nat, e = .returned (.tuple #[.agg #[.bool true, .int .i64 ((P1 : Nat) : Int), .int .i64 ((Q1 : Nat) : Int)], .agg #[.bool true, .int .i64 ((P2 : Nat) : Int), .int .i64 ((Q2 : Nat) : Int)], .int .i64 (n : Int)]) ∧ OK P1 Q1 P2 Q2 ∧ Kp w w') (w : World) : Calls Try.prog 39 #[.agg #[.int .u64 X1, .int .u64 X2], .agg #[.int .u64 Y1, .int .u64 Y2]] w fun e w' => e = .returned (.int .i64 0) ∧ Kp w w' := by
  go_enter Try.func39, Try.ntmps39
  go_wp2_with (first | (go_at_call 49; refine (hr _).mono ?_; rintro e w1 ⟨P1, Q1, P2, Q2, n, rfl, ok, g1⟩; have k1 : Kp w w1 := Kp.trans (((Kp.refl w).alloc _).alloc _) g1))
  exact bodyPost_ret (v := .int .i64 0) (by simp [results, Try.results39, go_sem]) rfl ⟨rfl, ((k1.alloc _).alloc _)⟩
set_option maxRecDepth 20000 in
set_option maxHeartbeats 2000000 in
theorem rover1_ (X1 X2 Y1 Y2 : Int) (OK : Nat → Nat → Nat → Nat → Prop) (hr : ∀ w : World, Calls Try.prog 49 #[.agg #[.int .u64 X1, .int .u64 X2], .agg #[.int .u64 Y1, .int .u64 Y2]] w fun e w' => ∃ P1 Q1 P2 Q2 n : Nat, e = .returned (.tuple #[.agg #[.bool true, .int .i64 ((P1 : Nat) : Int), .int .i64 ((Q1 : Nat) : Int)], .agg #[.bool false, .int .i64 ((P2 : Nat) : Int), .int .i64 ((Q2 : Nat) : Int)], .int .i64 (n : Int)]) ∧ OK P1 Q1 P2 Q2 ∧ Kp w w') (w : World) : Calls Try.prog 39 #[.agg #[.int .u64 X1, .int .u64 X2], .agg #[.int .u64 Y1, .int .u64 Y2]] w fun e w' => e = .returned (.int .i64 1) ∧ Kp w w' := by
  go_enter Try.func39, Try.ntmps39
  go_wp2_with (first | (go_at_call 49; refine (hr _).mono ?_; rintro e w1 ⟨P1, Q1, P2, Q2, n, rfl, ok, g1⟩; have k1 : Kp w w1 := Kp.trans (((Kp.refl w).alloc _).alloc _) g1))
  exact bodyPost_ret (v := .int .i64 1) (by simp [results, Try.results39, go_sem]) rfl ⟨rfl, ((k1.alloc _).alloc _)⟩
set_option maxRecDepth 20000 in
set_option maxHeartbeats 2000000 in
theorem rover2_ (X1 X2 Y1 Y2 : Int) (OK : Nat → Nat → Nat → Nat → Prop) (hr : ∀ w : World, Calls Try.prog 49 #[.agg #[.int .u64 X1, .int .u64 X2], .agg #[.int .u64 Y1, .int .u64 Y2]] w fun e w' => ∃ P1 Q1 P2 Q2 n : Nat, e = .returned (.tuple #[.agg #[.bool false, .int .i64 ((P1 : Nat) : Int), .int .i64 ((Q1 : Nat) : Int)], .agg #[.bool true, .int .i64 ((P2 : Nat) : Int), .int .i64 ((Q2 : Nat) : Int)], .int .i64 (n : Int)]) ∧ OK P1 Q1 P2 Q2 ∧ Kp w w') (w : World) : Calls Try.prog 39 #[.agg #[.int .u64 X1, .int .u64 X2], .agg #[.int .u64 Y1, .int .u64 Y2]] w fun e w' => e = .returned (.int .i64 2) ∧ Kp w w' := by
  go_enter Try.func39, Try.ntmps39
  go_wp2_with (first | (go_at_call 49; refine (hr _).mono ?_; rintro e w1 ⟨P1, Q1, P2, Q2, n, rfl, ok, g1⟩; have k1 : Kp w w1 := Kp.trans (((Kp.refl w).alloc _).alloc _) g1))
  exact bodyPost_ret (v := .int .i64 2) (by simp [results, Try.results39, go_sem]) rfl ⟨rfl, ((k1.alloc _).alloc _)⟩
end Go.Proofs.Ythajkngngdnidaa
