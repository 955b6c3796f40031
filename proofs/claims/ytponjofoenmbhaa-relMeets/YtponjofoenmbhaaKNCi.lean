import Derived.Test.YtponjofoenmbhaaProg
import Derived.Test.YtponjofoenmbhaaKXA0
import Derived.Test.YtponjofoenmbhaaKQM
import Derived.Test.YtponjofoenmbhaaKQA
import Derived.Test.YtponjofoenmbhaaKXQU
import Derived.Test.YtponjofoenmbhaaKEM
import Derived.Test.YtponjofoenmbhaaKEN
import Derived.Test.YtponjofoenmbhaaKEA
import Derived.Test.YtponjofoenmbhaaKEB
import Derived.Test.YtponjofoenmbhaaKEH
import Derived.Test.YtponjofoenmbhaaKEK
import Derived.Test.YtponjofoenmbhaaKEO
import Derived.Test.YtponjofoenmbhaaKER
import Derived.Test.YtponjofoenmbhaaKES
import Derived.Test.YtponjofoenmbhaaKNRv
import Derived.Test.YtponjofoenmbhaaKNRm
import Derived.Test.YtponjofoenmbhaaKNRa
import Derived.Test.YtponjofoenmbhaaKNRj
import Derived.Test.YtponjofoenmbhaaKNCo
import Derived.Test.YtponjofoenmbhaaKNCm
import Derived.Test.YtponjofoenmbhaaKNCa
import Derived.Test.YtponjofoenmbhaaKNCb
import Derived.Test.YtponjofoenmbhaaKNCc
import Derived.Test.YtponjofoenmbhaaKNCe
import Derived.Test.YtponjofoenmbhaaKNCf
import Derived.Test.YtponjofoenmbhaaKNCg
import Derived.Test.YtponjofoenmbhaaKNCh
import Derived.WalkKit
import Derived.ProofKit
import Derived.RowKit3
import Derived.WalkSpells
import Derived.StillTactics
import Derived.Deep.QuietTactic
import Derived.BigQuiet
import Derived.Below
import Derived.Deep.OwnRows
import Derived.OwnWalk
import Derived.Laws.BitsAllLaws
import Derived.Laws.Slices
import Derived.Laws.Bits64b
import Derived.Laws.FloatArith
import Derived.Deep.RegionHeld3
import Derived.Deep.CutRange
import Derived.Deep.DeepCutAuto
namespace Go.Proofs.Ytponjofoenmbhaa
open Go.RowKit
set_option maxRecDepth 20000 in
set_option maxHeartbeats 2000000 in
theorem rdisjA_ (X1 X2 Y1 Y2 : Int) (N1 N2 : Bool) (OK : Nat → Nat → Nat → Nat → Nat → Prop) (hr : ∀ w : World, Calls Try.prog 41 #[.agg #[.int .u64 X1, .int .u64 X2], .agg #[.int .u64 Y1, .int .u64 Y2]] w fun e w' => ∃ P1 Q1 P2 Q2 n : Nat, e = .returned (.tuple #[.agg #[.bool N1, .int .i64 ((P1 : Nat) : Int), .int .i64 ((Q1 : Nat) : Int)], .agg #[.bool N2, .int .i64 ((P2 : Nat) : Int), .int .i64 ((Q2 : Nat) : Int)], .int .i64 (n : Int)]) ∧ OK P1 Q1 P2 Q2 n ∧ Kp w w') (V : Bool) (hE1 : ∀ (P1 Q1 P2 Q2 n : Nat), OK P1 Q1 P2 Q2 n → ∀ w : World, Calls Try.prog 42 #[.int .i64 5, .agg #[.bool N1, .int .i64 ((P1 : Nat) : Int), .int .i64 ((Q1 : Nat) : Int)], .agg #[.bool N2, .int .i64 ((P2 : Nat) : Int), .int .i64 ((Q2 : Nat) : Int)], .int .i64 (n : Int)] w fun e w' => e = .returned (.bool V) ∧ Kp w w') (w : World) : Calls Try.prog 28 #[.agg #[.int .u64 X1, .int .u64 X2], .agg #[.int .u64 Y1, .int .u64 Y2]] w fun e w' => e = .returned (.bool V) ∧ Kp w w' := by
  go_enter Try.func28, Try.ntmps28
  go_wp2_with (first | (go_at_call 41; refine (hr _).mono ?_; rintro e w1 ⟨P1, Q1, P2, Q2, n, rfl, ok, g1⟩; have k1 : Kp w w1 := Kp.trans (((Kp.refl w).alloc _).alloc _) g1) | (go_at_call 42; refine (hE1 _ _ _ _ _ ok _).mono ?_; rintro e w2 ⟨rfl, g2⟩; have k2 : Kp w w2 := Kp.trans ((k1.alloc _).alloc _) g2))
  exact bodyPost_ret (v := .bool V) (by simp [results, Try.results28, go_sem]) rfl ⟨rfl, k2⟩
theorem rdisj9_ (X1 X2 Y1 Y2 L1 H1 L2 H2 : Int) (d1 : VdZ L1 H1) (d2 : VdZ L2 H2) (hx : ∀ w : World, Calls Try.prog 27 #[.agg #[.int .u64 X1, .int .u64 X2]] w fun e w' => e = .returned (.agg #[.int .u64 (pI L1), .int .u64 (pI H1)]) ∧ Kp w w') (hy : ∀ w : World, Calls Try.prog 27 #[.agg #[.int .u64 Y1, .int .u64 Y2]] w fun e w' => e = .returned (.agg #[.int .u64 (pI L2), .int .u64 (pI H2)]) ∧ Kp w w') (w : World) : Calls Try.prog 28 #[.agg #[.int .u64 X1, .int .u64 X2], .agg #[.int .u64 Y1, .int .u64 Y2]] w fun e w' => e = .returned (.bool (decide (¬ max L1 L2 ≤ min H1 H2))) ∧ Kp w w' :=
  rdisjA_ X1 X2 Y1 Y2 _ _ (RowOk L1 H1 L2 H2) (rowsZ_ X1 X2 Y1 Y2 L1 H1 L2 H2 d1 d2 hx hy) _ (fun P1 Q1 P2 Q2 n ok w => ee5_ L1 H1 L2 H2 d1 d2 P1 Q1 P2 Q2 n ok w) w
end Go.Proofs.Ytponjofoenmbhaa
