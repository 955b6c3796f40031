import Derived.Test.YtponjofoenmbhaaProg
import Derived.Test.YtponjofoenmbhaaKXA0
import Derived.Test.YtponjofoenmbhaaKQM
import Derived.Test.YtponjofoenmbhaaKQA
import Derived.Test.YtponjofoenmbhaaKXQU
import Derived.Test.YtponjofoenmbhaaKEM
import Derived.Test.YtponjofoenmbhaaKEN
import Derived.Test.YtponjofoenmbhaaKEA
import Derived.Test.YtponjofoenmbhaaKEB
import Derived.Test.YtponjofoenmbhaaKEH
import Derived.Test.YtponjofoenmbhaaKEK
import Derived.Test.YtponjofoenmbhaaKEO
import Derived.Test.YtponjofoenmbhaaKER
import Derived.Test.YtponjofoenmbhaaKES
import Derived.Test.YtponjofoenmbhaaKNRv
import Derived.Test.YtponjofoenmbhaaKNRm
import Derived.Test.YtponjofoenmbhaaKNRa
import Derived.Test.YtponjofoenmbhaaKNRb
import Derived.Test.YtponjofoenmbhaaKNRc
import Derived.Test.YtponjofoenmbhaaKNRd
import Derived.Test.YtponjofoenmbhaaKNRe
import Derived.Test.YtponjofoenmbhaaKNRf
import Derived.Test.YtponjofoenmbhaaKNRg
import Derived.Test.YtponjofoenmbhaaKNRh
import Derived.Test.YtponjofoenmbhaaKNRi
import Derived.Test.YtponjofoenmbhaaKNRj
import Derived.Test.YtponjofoenmbhaaKNCo
import Derived.Test.YtponjofoenmbhaaKNCm
import Derived.Test.YtponjofoenmbhaaKNCa
import Derived.Test.YtponjofoenmbhaaKNCb
import Derived.Test.YtponjofoenmbhaaKNCc
import Derived.Test.YtponjofoenmbhaaKNCe
import Derived.Test.YtponjofoenmbhaaKNCf
import Derived.Test.YtponjofoenmbhaaKNCg
import Derived.Test.YtponjofoenmbhaaKNCh
import Derived.Test.YtponjofoenmbhaaKNCi
import Derived.WalkKit
import Derived.ProofKit
import Derived.RowKit3
import Derived.WalkSpells
import Derived.StillTactics
import Derived.Deep.QuietTactic
import Derived.BigQuiet
import Derived.Below
import Derived.Deep.OwnRows
import Derived.OwnWalk
import Derived.Laws.BitsAllLaws
import Derived.Laws.Slices
import Derived.Laws.Bits64b
import Derived.Laws.FloatArith
import Derived.Deep.RegionHeld3
import Derived.Deep.CutRange
import Derived.Deep.DeepCutAuto
namespace Go.Proofs.Ytponjofoenmbhaa
open Go.RowKit
set_option linter.unusedVariables false
set_option maxRecDepth 20000 in
set_option maxHeartbeats 2000000 in
theorem rmeetE_ (X1 X2 Y1 Y2 A1 A2 B1 B2 : Int) (hx : ∀ w : World, Calls Try.prog 27 #[.agg #[.int .u64 X1, .int .u64 X2]] w fun e w' => e = .returned (.agg #[.int .u64 A1, .int .u64 A2]) ∧ Kp w w') (hy : ∀ w : World, Calls Try.prog 27 #[.agg #[.int .u64 Y1, .int .u64 Y2]] w fun e w' => e = .returned (.agg #[.int .u64 B1, .int .u64 B2]) ∧ Kp w w') (hd : ∀ w : World, Calls Try.prog 28 #[.agg #[.int .u64 A1, .int .u64 A2], .agg #[.int .u64 B1, .int .u64 B2]] w fun e w' => e = .returned (.bool true) ∧ Kp w w') (w : World) : Calls Try.prog 10 #[.agg #[.int .u64 X1, .int .u64 X2], .agg #[.int .u64 Y1, .int .u64 Y2]] w fun e w' => e = .returned (.agg #[.int .u64 9218868437227405312, .int .u64 18442240474082181120]) ∧ Kp w w' := by
  go_enter Try.func10, Try.ntmps10
  go_wp2_with (first | (go_at_call_of 27 (Value.agg #[.int .u64 X1, .int .u64 X2]); refine (hx _).mono ?_; rintro e w1 ⟨rfl, g1⟩; have k1 : Kp w w1 := Kp.trans ((((Kp.refl w).alloc _).alloc _).alloc _) g1; have s1 := H6.keep (H6.new w (.int .u64 X1) (.int .u64 X2) (.int .u64 Y1) (.int .u64 Y2) (.int .u64 0) (.int .u64 0) 24 24 24) g1; have y00 := fun o => (H6.keep s1 ((Kp.refl w1).alloc o)).2.1.1; have y01 := fun o => (H6.keep s1 ((Kp.refl w1).alloc o)).2.1.2.1) | (go_at_call_of 27 (Value.agg #[.int .u64 Y1, .int .u64 Y2]); refine (hy _).mono ?_; rintro e w2 ⟨rfl, g2⟩; have k2 := Kp.trans (k1.alloc _) g2; have s2 := H6.keep (H6.keep s1 ((Kp.refl w1).alloc _)) g2; have qa := Fq.H2.keep (Fq.H2.new w1 (.int .u64 A1) (.int .u64 A2) 24) g2; have a00 := fun o => (Fq.H2.keep qa ((Kp.refl w2).alloc o)).1; have a01 := fun o => (Fq.H2.keep qa ((Kp.refl w2).alloc o)).2.1) | (go_at_call 28; refine (hd _).mono ?_; rintro e w3 ⟨rfl, g3⟩; have k3 := Kp.trans (k2.alloc _) g3; have s3 := H6.keep (H6.keep s2 ((Kp.refl w2).alloc _)) g3; have qA := Fq.H2.keep (Fq.H2.past qa #[.int .u64 B1, .int .u64 B2] 24) g3; have qB := Fq.H2.keep (Fq.H2.new w2 (.int .u64 B1) (.int .u64 B2) 24) g3; obtain ⟨a0, a1, a2, a3⟩ := id qA; obtain ⟨b0, b1, b2, b3⟩ := id qB; obtain ⟨_, _, z0, z1, z2, z3⟩ := id s3; have A0 := fun o => (Fq.H2.keep qA ((Kp.refl w3).alloc o)).1; have A1' := fun o => (Fq.H2.keep qA ((Kp.refl w3).alloc o)).2.1; have B0 := fun o => (Fq.H2.keep qB ((Kp.refl w3).alloc o)).1; have B1' := fun o => (Fq.H2.keep qB ((Kp.refl w3).alloc o)).2.1; have Z0 := fun o => (H6.keep s3 ((Kp.refl w3).alloc o)).2.2.1; have Z1 := fun o => (H6.keep s3 ((Kp.refl w3).alloc o)).2.2.2.1; have Z2 := fun o => (H6.keep s3 ((Kp.refl w3).alloc o)).2.2.2.2.1; have Z3 := fun o => (H6.keep s3 ((Kp.refl w3).alloc o)).2.2.2.2.2) | (go_at_call 29; refine (rempty9_ _).mono ?_; rintro e w4 ⟨rfl, g4⟩; have k4 := Kp.trans k3 g4; obtain ⟨_, _, y0, y1, y2, y3⟩ := H6.keep s3 g4))
  exact bodyPost_ret (v := .agg #[.int .u64 9218868437227405312, .int .u64 18442240474082181120]) (by simp [results, Try.results10, go_sem, y0, y1]) rfl ⟨rfl, (k4.setCell (by simp <;> omega) _).setCell (by simp <;> omega) _⟩
set_option maxRecDepth 20000 in
set_option maxHeartbeats 2000000 in
theorem rmeettt_ (X1 X2 Y1 Y2 A1 A2 B1 B2 : Int) (hx : ∀ w : World, Calls Try.prog 27 #[.agg #[.int .u64 X1, .int .u64 X2]] w fun e w' => e = .returned (.agg #[.int .u64 A1, .int .u64 A2]) ∧ Kp w w') (hy : ∀ w : World, Calls Try.prog 27 #[.agg #[.int .u64 Y1, .int .u64 Y2]] w fun e w' => e = .returned (.agg #[.int .u64 B1, .int .u64 B2]) ∧ Kp w w') (hd : ∀ w : World, Calls Try.prog 28 #[.agg #[.int .u64 A1, .int .u64 A2], .agg #[.int .u64 B1, .int .u64 B2]] w fun e w' => e = .returned (.bool false) ∧ Kp w w') (h1 : ∀ w : World, Calls Try.prog 30 #[.int .u64 B1, .int .u64 A1] w fun e w' => e = .returned (.bool true) ∧ w' = w) (h2 : ∀ w : World, Calls Try.prog 30 #[.int .u64 A2, .int .u64 B2] w fun e w' => e = .returned (.bool true) ∧ w' = w) (w : World) : Calls Try.prog 10 #[.agg #[.int .u64 X1, .int .u64 X2], .agg #[.int .u64 Y1, .int .u64 Y2]] w fun e w' => e = .returned (.agg #[.int .u64 B1, .int .u64 B2]) ∧ Kp w w' := by
  go_enter Try.func10, Try.ntmps10
  go_wp2_with (first | (go_at_call_of 27 (Value.agg #[.int .u64 X1, .int .u64 X2]); refine (hx _).mono ?_; rintro e w1 ⟨rfl, g1⟩; have k1 : Kp w w1 := Kp.trans ((((Kp.refl w).alloc _).alloc _).alloc _) g1; have s1 := H6.keep (H6.new w (.int .u64 X1) (.int .u64 X2) (.int .u64 Y1) (.int .u64 Y2) (.int .u64 0) (.int .u64 0) 24 24 24) g1; have y00 := fun o => (H6.keep s1 ((Kp.refl w1).alloc o)).2.1.1; have y01 := fun o => (H6.keep s1 ((Kp.refl w1).alloc o)).2.1.2.1) | (go_at_call_of 27 (Value.agg #[.int .u64 Y1, .int .u64 Y2]); refine (hy _).mono ?_; rintro e w2 ⟨rfl, g2⟩; have k2 := Kp.trans (k1.alloc _) g2; have s2 := H6.keep (H6.keep s1 ((Kp.refl w1).alloc _)) g2; have qa := Fq.H2.keep (Fq.H2.new w1 (.int .u64 A1) (.int .u64 A2) 24) g2; have a00 := fun o => (Fq.H2.keep qa ((Kp.refl w2).alloc o)).1; have a01 := fun o => (Fq.H2.keep qa ((Kp.refl w2).alloc o)).2.1) | (go_at_call 28; refine (hd _).mono ?_; rintro e w3 ⟨rfl, g3⟩; have k3 := Kp.trans (k2.alloc _) g3; have s3 := H6.keep (H6.keep s2 ((Kp.refl w2).alloc _)) g3; have qA := Fq.H2.keep (Fq.H2.past qa #[.int .u64 B1, .int .u64 B2] 24) g3; have qB := Fq.H2.keep (Fq.H2.new w2 (.int .u64 B1) (.int .u64 B2) 24) g3; obtain ⟨a0, a1, a2, a3⟩ := id qA; obtain ⟨b0, b1, b2, b3⟩ := id qB; obtain ⟨_, _, z0, z1, z2, z3⟩ := id s3; have A0 := fun o => (Fq.H2.keep qA ((Kp.refl w3).alloc o)).1; have A1' := fun o => (Fq.H2.keep qA ((Kp.refl w3).alloc o)).2.1; have B0 := fun o => (Fq.H2.keep qB ((Kp.refl w3).alloc o)).1; have B1' := fun o => (Fq.H2.keep qB ((Kp.refl w3).alloc o)).2.1; have Z0 := fun o => (H6.keep s3 ((Kp.refl w3).alloc o)).2.2.1; have Z1 := fun o => (H6.keep s3 ((Kp.refl w3).alloc o)).2.2.2.1; have Z2 := fun o => (H6.keep s3 ((Kp.refl w3).alloc o)).2.2.2.2.1; have Z3 := fun o => (H6.keep s3 ((Kp.refl w3).alloc o)).2.2.2.2.2) | (go_at_call_of 30 (Value.int .u64 B1); (first | (refine (h1 _).mono ?_; rintro e wq ⟨rfl, hwq⟩; obtain rfl := hwq.symm; clear hwq))) | (go_at_call_of 30 (Value.int .u64 B2); refine (h2 _).mono ?_; rintro e wq ⟨rfl, hwq⟩; obtain rfl := hwq.symm; clear hwq))
  exact bodyPost_ret (v := .agg #[.int .u64 B1, .int .u64 B2]) (by simp [results, Try.results10, go_sem, Z0, Z1]) rfl ⟨rfl, ((k3.alloc _).setCell (by simp <;> omega) _).setCell (by simp <;> omega) _⟩
set_option maxRecDepth 20000 in
set_option maxHeartbeats 2000000 in
theorem rmeettf_ (X1 X2 Y1 Y2 A1 A2 B1 B2 : Int) (hx : ∀ w : World, Calls Try.prog 27 #[.agg #[.int .u64 X1, .int .u64 X2]] w fun e w' => e = .returned (.agg #[.int .u64 A1, .int .u64 A2]) ∧ Kp w w') (hy : ∀ w : World, Calls Try.prog 27 #[.agg #[.int .u64 Y1, .int .u64 Y2]] w fun e w' => e = .returned (.agg #[.int .u64 B1, .int .u64 B2]) ∧ Kp w w') (hd : ∀ w : World, Calls Try.prog 28 #[.agg #[.int .u64 A1, .int .u64 A2], .agg #[.int .u64 B1, .int .u64 B2]] w fun e w' => e = .returned (.bool false) ∧ Kp w w') (h1 : ∀ w : World, Calls Try.prog 30 #[.int .u64 B1, .int .u64 A1] w fun e w' => e = .returned (.bool true) ∧ w' = w) (h2 : ∀ w : World, Calls Try.prog 30 #[.int .u64 A2, .int .u64 B2] w fun e w' => e = .returned (.bool false) ∧ w' = w) (w : World) : Calls Try.prog 10 #[.agg #[.int .u64 X1, .int .u64 X2], .agg #[.int .u64 Y1, .int .u64 Y2]] w fun e w' => e = .returned (.agg #[.int .u64 B1, .int .u64 A2]) ∧ Kp w w' := by
  go_enter Try.func10, Try.ntmps10
  go_wp2_with (first | (go_at_call_of 27 (Value.agg #[.int .u64 X1, .int .u64 X2]); refine (hx _).mono ?_; rintro e w1 ⟨rfl, g1⟩; have k1 : Kp w w1 := Kp.trans ((((Kp.refl w).alloc _).alloc _).alloc _) g1; have s1 := H6.keep (H6.new w (.int .u64 X1) (.int .u64 X2) (.int .u64 Y1) (.int .u64 Y2) (.int .u64 0) (.int .u64 0) 24 24 24) g1; have y00 := fun o => (H6.keep s1 ((Kp.refl w1).alloc o)).2.1.1; have y01 := fun o => (H6.keep s1 ((Kp.refl w1).alloc o)).2.1.2.1) | (go_at_call_of 27 (Value.agg #[.int .u64 Y1, .int .u64 Y2]); refine (hy _).mono ?_; rintro e w2 ⟨rfl, g2⟩; have k2 := Kp.trans (k1.alloc _) g2; have s2 := H6.keep (H6.keep s1 ((Kp.refl w1).alloc _)) g2; have qa := Fq.H2.keep (Fq.H2.new w1 (.int .u64 A1) (.int .u64 A2) 24) g2; have a00 := fun o => (Fq.H2.keep qa ((Kp.refl w2).alloc o)).1; have a01 := fun o => (Fq.H2.keep qa ((Kp.refl w2).alloc o)).2.1) | (go_at_call 28; refine (hd _).mono ?_; rintro e w3 ⟨rfl, g3⟩; have k3 := Kp.trans (k2.alloc _) g3; have s3 := H6.keep (H6.keep s2 ((Kp.refl w2).alloc _)) g3; have qA := Fq.H2.keep (Fq.H2.past qa #[.int .u64 B1, .int .u64 B2] 24) g3; have qB := Fq.H2.keep (Fq.H2.new w2 (.int .u64 B1) (.int .u64 B2) 24) g3; obtain ⟨a0, a1, a2, a3⟩ := id qA; obtain ⟨b0, b1, b2, b3⟩ := id qB; obtain ⟨_, _, z0, z1, z2, z3⟩ := id s3; have A0 := fun o => (Fq.H2.keep qA ((Kp.refl w3).alloc o)).1; have A1' := fun o => (Fq.H2.keep qA ((Kp.refl w3).alloc o)).2.1; have B0 := fun o => (Fq.H2.keep qB ((Kp.refl w3).alloc o)).1; have B1' := fun o => (Fq.H2.keep qB ((Kp.refl w3).alloc o)).2.1; have Z0 := fun o => (H6.keep s3 ((Kp.refl w3).alloc o)).2.2.1; have Z1 := fun o => (H6.keep s3 ((Kp.refl w3).alloc o)).2.2.2.1; have Z2 := fun o => (H6.keep s3 ((Kp.refl w3).alloc o)).2.2.2.2.1; have Z3 := fun o => (H6.keep s3 ((Kp.refl w3).alloc o)).2.2.2.2.2) | (go_at_call_of 30 (Value.int .u64 B1); (first | (refine (h1 _).mono ?_; rintro e wq ⟨rfl, hwq⟩; obtain rfl := hwq.symm; clear hwq))) | (go_at_call_of 30 (Value.int .u64 B2); refine (h2 _).mono ?_; rintro e wq ⟨rfl, hwq⟩; obtain rfl := hwq.symm; clear hwq))
  exact bodyPost_ret (v := .agg #[.int .u64 B1, .int .u64 A2]) (by simp [results, Try.results10, go_sem, Z0, Z1]) rfl ⟨rfl, ((k3.alloc _).setCell (by simp <;> omega) _).setCell (by simp <;> omega) _⟩
set_option maxRecDepth 20000 in
set_option maxHeartbeats 2000000 in
theorem rmeetft_ (X1 X2 Y1 Y2 A1 A2 B1 B2 : Int) (hx : ∀ w : World, Calls Try.prog 27 #[.agg #[.int .u64 X1, .int .u64 X2]] w fun e w' => e = .returned (.agg #[.int .u64 A1, .int .u64 A2]) ∧ Kp w w') (hy : ∀ w : World, Calls Try.prog 27 #[.agg #[.int .u64 Y1, .int .u64 Y2]] w fun e w' => e = .returned (.agg #[.int .u64 B1, .int .u64 B2]) ∧ Kp w w') (hd : ∀ w : World, Calls Try.prog 28 #[.agg #[.int .u64 A1, .int .u64 A2], .agg #[.int .u64 B1, .int .u64 B2]] w fun e w' => e = .returned (.bool false) ∧ Kp w w') (h1 : ∀ w : World, Calls Try.prog 30 #[.int .u64 B1, .int .u64 A1] w fun e w' => e = .returned (.bool false) ∧ w' = w) (h2 : ∀ w : World, Calls Try.prog 30 #[.int .u64 A2, .int .u64 B2] w fun e w' => e = .returned (.bool true) ∧ w' = w) (w : World) : Calls Try.prog 10 #[.agg #[.int .u64 X1, .int .u64 X2], .agg #[.int .u64 Y1, .int .u64 Y2]] w fun e w' => e = .returned (.agg #[.int .u64 A1, .int .u64 B2]) ∧ Kp w w' := by
  go_enter Try.func10, Try.ntmps10
  go_wp2_with (first | (go_at_call_of 27 (Value.agg #[.int .u64 X1, .int .u64 X2]); refine (hx _).mono ?_; rintro e w1 ⟨rfl, g1⟩; have k1 : Kp w w1 := Kp.trans ((((Kp.refl w).alloc _).alloc _).alloc _) g1; have s1 := H6.keep (H6.new w (.int .u64 X1) (.int .u64 X2) (.int .u64 Y1) (.int .u64 Y2) (.int .u64 0) (.int .u64 0) 24 24 24) g1; have y00 := fun o => (H6.keep s1 ((Kp.refl w1).alloc o)).2.1.1; have y01 := fun o => (H6.keep s1 ((Kp.refl w1).alloc o)).2.1.2.1) | (go_at_call_of 27 (Value.agg #[.int .u64 Y1, .int .u64 Y2]); refine (hy _).mono ?_; rintro e w2 ⟨rfl, g2⟩; have k2 := Kp.trans (k1.alloc _) g2; have s2 := H6.keep (H6.keep s1 ((Kp.refl w1).alloc _)) g2; have qa := Fq.H2.keep (Fq.H2.new w1 (.int .u64 A1) (.int .u64 A2) 24) g2; have a00 := fun o => (Fq.H2.keep qa ((Kp.refl w2).alloc o)).1; have a01 := fun o => (Fq.H2.keep qa ((Kp.refl w2).alloc o)).2.1) | (go_at_call 28; refine (hd _).mono ?_; rintro e w3 ⟨rfl, g3⟩; have k3 := Kp.trans (k2.alloc _) g3; have s3 := H6.keep (H6.keep s2 ((Kp.refl w2).alloc _)) g3; have qA := Fq.H2.keep (Fq.H2.past qa #[.int .u64 B1, .int .u64 B2] 24) g3; have qB := Fq.H2.keep (Fq.H2.new w2 (.int .u64 B1) (.int .u64 B2) 24) g3; obtain ⟨a0, a1, a2, a3⟩ := id qA; obtain ⟨b0, b1, b2, b3⟩ := id qB; obtain ⟨_, _, z0, z1, z2, z3⟩ := id s3; have A0 := fun o => (Fq.H2.keep qA ((Kp.refl w3).alloc o)).1; have A1' := fun o => (Fq.H2.keep qA ((Kp.refl w3).alloc o)).2.1; have B0 := fun o => (Fq.H2.keep qB ((Kp.refl w3).alloc o)).1; have B1' := fun o => (Fq.H2.keep qB ((Kp.refl w3).alloc o)).2.1; have Z0 := fun o => (H6.keep s3 ((Kp.refl w3).alloc o)).2.2.1; have Z1 := fun o => (H6.keep s3 ((Kp.refl w3).alloc o)).2.2.2.1; have Z2 := fun o => (H6.keep s3 ((Kp.refl w3).alloc o)).2.2.2.2.1; have Z3 := fun o => (H6.keep s3 ((Kp.refl w3).alloc o)).2.2.2.2.2) | (go_at_call_of 30 (Value.int .u64 B1); (first | (refine (h1 _).mono ?_; rintro e wq ⟨rfl, hwq⟩; obtain rfl := hwq.symm; clear hwq))) | (go_at_call_of 30 (Value.int .u64 B2); refine (h2 _).mono ?_; rintro e wq ⟨rfl, hwq⟩; obtain rfl := hwq.symm; clear hwq))
  exact bodyPost_ret (v := .agg #[.int .u64 A1, .int .u64 B2]) (by simp [results, Try.results10, go_sem, Z0, Z1]) rfl ⟨rfl, ((k3.alloc _).setCell (by simp <;> omega) _).setCell (by simp <;> omega) _⟩
set_option maxRecDepth 20000 in
set_option maxHeartbeats 2000000 in
theorem rmeetff_ (X1 X2 Y1 Y2 A1 A2 B1 B2 : Int) (hx : ∀ w : World, Calls Try.prog 27 #[.agg #[.int .u64 X1, .int .u64 X2]] w fun e w' => e = .returned (.agg #[.int .u64 A1, .int .u64 A2]) ∧ Kp w w') (hy : ∀ w : World, Calls Try.prog 27 #[.agg #[.int .u64 Y1, .int .u64 Y2]] w fun e w' => e = .returned (.agg #[.int .u64 B1, .int .u64 B2]) ∧ Kp w w') (hd : ∀ w : World, Calls Try.prog 28 #[.agg #[.int .u64 A1, .int .u64 A2], .agg #[.int .u64 B1, .int .u64 B2]] w fun e w' => e = .returned (.bool false) ∧ Kp w w') (h1 : ∀ w : World, Calls Try.prog 30 #[.int .u64 B1, .int .u64 A1] w fun e w' => e = .returned (.bool false) ∧ w' = w) (h2 : ∀ w : World, Calls Try.prog 30 #[.int .u64 A2, .int .u64 B2] w fun e w' => e = .returned (.bool false) ∧ w' = w) (w : World) : Calls Try.prog 10 #[.agg #[.int .u64 X1, .int .u64 X2], .agg #[.int .u64 Y1, .int .u64 Y2]] w fun e w' => e = .returned (.agg #[.int .u64 A1, .int .u64 A2]) ∧ Kp w w' := by
  go_enter Try.func10, Try.ntmps10
  go_wp2_with (first | (go_at_call_of 27 (Value.agg #[.int .u64 X1, .int .u64 X2]); refine (hx _).mono ?_; rintro e w1 ⟨rfl, g1⟩; have k1 : Kp w w1 := Kp.trans ((((Kp.refl w).alloc _).alloc _).alloc _) g1; have s1 := H6.keep (H6.new w (.int .u64 X1) (.int .u64 X2) (.int .u64 Y1) (.int .u64 Y2) (.int .u64 0) (.int .u64 0) 24 24 24) g1; have y00 := fun o => (H6.keep s1 ((Kp.refl w1).alloc o)).2.1.1; have y01 := fun o => (H6.keep s1 ((Kp.refl w1).alloc o)).2.1.2.1) | (go_at_call_of 27 (Value.agg #[.int .u64 Y1, .int .u64 Y2]); refine (hy _).mono ?_; rintro e w2 ⟨rfl, g2⟩; have k2 := Kp.trans (k1.alloc _) g2; have s2 := H6.keep (H6.keep s1 ((Kp.refl w1).alloc _)) g2; have qa := Fq.H2.keep (Fq.H2.new w1 (.int .u64 A1) (.int .u64 A2) 24) g2; have a00 := fun o => (Fq.H2.keep qa ((Kp.refl w2).alloc o)).1; have a01 := fun o => (Fq.H2.keep qa ((Kp.refl w2).alloc o)).2.1) | (go_at_call 28; refine (hd _).mono ?_; rintro e w3 ⟨rfl, g3⟩; have k3 := Kp.trans (k2.alloc _) g3; have s3 := H6.keep (H6.keep s2 ((Kp.refl w2).alloc _)) g3; have qA := Fq.H2.keep (Fq.H2.past qa #[.int .u64 B1, .int .u64 B2] 24) g3; have qB := Fq.H2.keep (Fq.H2.new w2 (.int .u64 B1) (.int .u64 B2) 24) g3; obtain ⟨a0, a1, a2, a3⟩ := id qA; obtain ⟨b0, b1, b2, b3⟩ := id qB; obtain ⟨_, _, z0, z1, z2, z3⟩ := id s3; have A0 := fun o => (Fq.H2.keep qA ((Kp.refl w3).alloc o)).1; have A1' := fun o => (Fq.H2.keep qA ((Kp.refl w3).alloc o)).2.1; have B0 := fun o => (Fq.H2.keep qB ((Kp.refl w3).alloc o)).1; have B1' := fun o => (Fq.H2.keep qB ((Kp.refl w3).alloc o)).2.1; have Z0 := fun o => (H6.keep s3 ((Kp.refl w3).alloc o)).2.2.1; have Z1 := fun o => (H6.keep s3 ((Kp.refl w3).alloc o)).2.2.2.1; have Z2 := fun o => (H6.keep s3 ((Kp.refl w3).alloc o)).2.2.2.2.1; have Z3 := fun o => (H6.keep s3 ((Kp.refl w3).alloc o)).2.2.2.2.2) | (go_at_call_of 30 (Value.int .u64 B1); (first | (refine (h1 _).mono ?_; rintro e wq ⟨rfl, hwq⟩; obtain rfl := hwq.symm; clear hwq))) | (go_at_call_of 30 (Value.int .u64 B2); refine (h2 _).mono ?_; rintro e wq ⟨rfl, hwq⟩; obtain rfl := hwq.symm; clear hwq))
  exact bodyPost_ret (v := .agg #[.int .u64 A1, .int .u64 A2]) (by simp [results, Try.results10, go_sem, Z0, Z1]) rfl ⟨rfl, ((k3.alloc _).setCell (by simp <;> omega) _).setCell (by simp <;> omega) _⟩
theorem rmeet9_ (X1 X2 Y1 Y2 L1 H1 L2 H2 : Int) (d1 : VdZ L1 H1) (d2 : VdZ L2 H2) (hx : ∀ w : World, Calls Try.prog 27 #[.agg #[.int .u64 X1, .int .u64 X2]] w fun e w' => e = .returned (.agg #[.int .u64 (pI L1), .int .u64 (pI H1)]) ∧ Kp w w') (hy : ∀ w : World, Calls Try.prog 27 #[.agg #[.int .u64 Y1, .int .u64 Y2]] w fun e w' => e = .returned (.agg #[.int .u64 (pI L2), .int .u64 (pI H2)]) ∧ Kp w w') (w : World) : Calls Try.prog 10 #[.agg #[.int .u64 X1, .int .u64 X2], .agg #[.int .u64 Y1, .int .u64 Y2]] w fun e w' => e = .returned (.agg #[.int .u64 (pI (iL L1 H1 L2 H2)), .int .u64 (pI (iH L1 H1 L2 H2))]) ∧ Kp w w' := by
  have hd := rdisj9_ (pI L1) (pI H1) (pI L2) (pI H2) L1 H1 L2 H2 d1 d2 (rread9_ _ _ _ _ (Rd.of d1)) (rread9_ _ _ _ _ (Rd.of d2))
  have h1 := rabove9_ L2 L1 d2.lo d1.lo
  have h2 := rabove9_ H1 H2 d1.hi d2.hi
  unfold iL iH
  by_cases c : max L1 L2 ≤ min H1 H2
  · rw [decide_eq_false (by simpa using c)] at hd
    rw [if_pos c, if_pos c]
    by_cases c1 : L1 < L2
    · rw [decide_eq_true c1] at h1
      rw [show max L1 L2 = L2 from by omega]
      by_cases c2 : H2 < H1
      · rw [decide_eq_true c2] at h2
        rw [show min H1 H2 = H2 from by omega]
        exact rmeettt_ _ _ _ _ _ _ _ _ hx hy hd h1 h2 w
      · rw [decide_eq_false c2] at h2
        rw [show min H1 H2 = H1 from by omega]
        exact rmeettf_ _ _ _ _ _ _ _ _ hx hy hd h1 h2 w
    · rw [decide_eq_false c1] at h1
      rw [show max L1 L2 = L1 from by omega]
      by_cases c2 : H2 < H1
      · rw [decide_eq_true c2] at h2
        rw [show min H1 H2 = H2 from by omega]
        exact rmeetft_ _ _ _ _ _ _ _ _ hx hy hd h1 h2 w
      · rw [decide_eq_false c2] at h2
        rw [show min H1 H2 = H1 from by omega]
        exact rmeetff_ _ _ _ _ _ _ _ _ hx hy hd h1 h2 w
  · rw [decide_eq_true c] at hd
    rw [if_neg c, if_neg c, show pI 9218868437227405312 = 9218868437227405312 from by decide, pI_MI]
    exact rmeetE_ _ _ _ _ _ _ _ _ hx hy hd w
set_option maxRecDepth 20000 in
set_option maxHeartbeats 4000000 in
theorem meetsA_ (X1 X2 Y1 Y2 Z1 Z2 : Int) (A1 A2 B1 B2 C1 C2 : Nat) (hin1 : ∀ w : World, Calls Try.prog 9 #[.agg #[.int .u64 X1, .int .u64 X2]] w fun e w' => e = .returned (.agg #[.float .f64 A1, .float .f64 A2]) ∧ Kp w w') (hin2 : ∀ w : World, Calls Try.prog 9 #[.agg #[.int .u64 Y1, .int .u64 Y2]] w fun e w' => e = .returned (.agg #[.float .f64 B1, .float .f64 B2]) ∧ Kp w w') (hp : ∀ w : World, Calls Try.prog 8 #[.agg #[.float .f64 A1, .float .f64 A2], .agg #[.float .f64 B1, .float .f64 B2]] w fun e w' => e = .returned (.agg #[.float .f64 C1, .float .f64 C2]) ∧ Kp w w') (ho : ∀ w : World, Calls Try.prog 7 #[.agg #[.float .f64 C1, .float .f64 C2]] w fun e w' => e = .returned (.agg #[.int .u64 Z1, .int .u64 Z2]) ∧ Kp w w') (hr : ∀ w : World, Calls Try.prog 10 #[.agg #[.int .u64 X1, .int .u64 X2], .agg #[.int .u64 Y1, .int .u64 Y2]] w fun e w' => e = .returned (.agg #[.int .u64 Z1, .int .u64 Z2]) ∧ Kp w w') (w : World) : Calls Try.prog 3 #[.agg #[.int .u64 X1, .int .u64 X2], .agg #[.int .u64 Y1, .int .u64 Y2]] w fun e w' => e = .returned (.bool true) ∧ Kp w w' := by
  go_enter Try.func3, Try.ntmps3
  go_wp2
  refine Fq.wp_region_grow (by kernel_rfl) (by kernel_rfl) (fun ι _ G hG hall => ?_)
  have cc0 : ∀ n, (G n).cell? ⟨w.heap.size, 0, none⟩ = some (.int .u64 X1) := fun n => Fq.gkeep (hG n) (by simp [go_sem])
  have cc1 : ∀ n, (G n).cell? ⟨w.heap.size, 1, none⟩ = some (.int .u64 X2) := fun n => Fq.gkeep (hG n) (by simp [go_sem])
  have cc2 : ∀ n, (G n).cell? ⟨w.heap.size + 1, 0, none⟩ = some (.int .u64 Y1) := fun n => Fq.gkeep (hG n) (by simp [go_sem])
  have cc3 : ∀ n, (G n).cell? ⟨w.heap.size + 1, 1, none⟩ = some (.int .u64 Y2) := fun n => Fq.gkeep (hG n) (by simp [go_sem])
  repeat (go_big_quiet_step (first | (go_at_call_of 9 (Value.agg #[.int .u64 X1, .int .u64 X2]); exact (hin1 _).mono (fun e w' h => ⟨h.1, hall _ (Fq.gtrans (hG _) h.2)⟩)) | (go_at_call_of 9 (Value.agg #[.int .u64 Y1, .int .u64 Y2]); exact (hin2 _).mono (fun e w' h => ⟨h.1, hall _ (Fq.gtrans (hG _) h.2)⟩)) | (go_at_call 8; exact (hp _).mono (fun e w' h => ⟨h.1, hall _ (Fq.gtrans (hG _) h.2)⟩)) | (go_at_call 7; exact (ho _).mono (fun e w' h => ⟨h.1, hall _ (Fq.gtrans (hG _) h.2)⟩)) | (go_at_call 10; exact (hr _).mono (fun e w' h => ⟨h.1, hall _ (Fq.gtrans (hG _) h.2)⟩))))
  refine wpQuiet_nil ?_
  rintro _ ⟨nq, rfl⟩
  have gq : Kp _ (G nq) := hG nq
  clear cc0 cc1 cc2 cc3 hall hG
  have gq2 := Kp.trans (((Kp.refl w).alloc _).alloc _) gq
  go_wp2
  exact bodyPost_ret (v := .bool true) (by simp [results, Try.results3, go_sem]) rfl ⟨rfl, gq2⟩
theorem meets_ (a b c d : Nat) (ha : a < 18446744073709551616) (hb : b < 18446744073709551616) (hc : c < 18446744073709551616) (hd : d < 18446744073709551616) (w : World) : Calls Try.prog 3 #[.agg #[.int .u64 ((a : Nat) : Int), .int .u64 ((b : Nat) : Int)], .agg #[.int .u64 ((c : Nat) : Int), .int .u64 ((d : Nat) : Int)]] w fun e w' => e = .returned (.bool true) ∧ Kp w w' := by
  obtain ⟨L1, H1, r1⟩ := Rd.ex a b ha hb
  obtain ⟨L2, H2, r2⟩ := Rd.ex c d hc hd
  exact meetsA_ _ _ _ _ _ _ a b c d _ _ (in9_ a b) (in9_ c d) (meet9_ a b c d L1 H1 L2 H2 r1 r2) (out9_ _ _) (rmeet9_ _ _ _ _ L1 H1 L2 H2 r1.vd r2.vd (rread9_ a b L1 H1 r1) (rread9_ c d L2 H2 r2)) w
end Go.Proofs.Ytponjofoenmbhaa
