import Derived.Test.YtponjofoenmbhaaProg
import Derived.Test.YtponjofoenmbhaaKXA0
import Derived.Test.YtponjofoenmbhaaKQM
import Derived.Test.YtponjofoenmbhaaKQA
import Derived.Test.YtponjofoenmbhaaKXQU
import Derived.Test.YtponjofoenmbhaaKEM
import Derived.Test.YtponjofoenmbhaaKEN
import Derived.Test.YtponjofoenmbhaaKEA
import Derived.Test.YtponjofoenmbhaaKEB
import Derived.Test.YtponjofoenmbhaaKEH
import Derived.Test.YtponjofoenmbhaaKEK
import Derived.Test.YtponjofoenmbhaaKEO
import Derived.Test.YtponjofoenmbhaaKER
import Derived.Test.YtponjofoenmbhaaKES
import Derived.Test.YtponjofoenmbhaaKNRv
import Derived.Test.YtponjofoenmbhaaKNRm
import Derived.Test.YtponjofoenmbhaaKNRa
import Derived.Test.YtponjofoenmbhaaKNRb
import Derived.Test.YtponjofoenmbhaaKNRc
import Derived.Test.YtponjofoenmbhaaKNRd
import Derived.Test.YtponjofoenmbhaaKNRe
import Derived.Test.YtponjofoenmbhaaKNRf
import Derived.Test.YtponjofoenmbhaaKNRg
import Derived.Test.YtponjofoenmbhaaKNRh
import Derived.Test.YtponjofoenmbhaaKNRi
import Derived.WalkKit
import Derived.ProofKit
import Derived.RowKit3
import Derived.WalkSpells
import Derived.StillTactics
import Derived.Deep.QuietTactic
import Derived.BigQuiet
import Derived.Below
import Derived.Deep.OwnRows
import Derived.OwnWalk
import Derived.Laws.BitsAllLaws
import Derived.Laws.Slices
import Derived.Laws.Bits64b
import Derived.Laws.FloatArith
import Derived.Deep.RegionHeld3
import Derived.Deep.CutRange
import Derived.Deep.DeepCutAuto
namespace Go.Proofs.Ytponjofoenmbhaa
open Go.RowKit
set_option linter.unusedVariables false
set_option maxRecDepth 20000 in
set_option maxHeartbeats 1000000 in
theorem acr8_ (w : World) : Calls Try.prog 23 #[.int .i64 8] w fun e w' => e = .returned (.int .i64 10) ∧ Kp w w' := by
  go_enter Try.func23, Try.ntmps23
  go_wp2
  exact bodyPost_ret (v := .int .i64 10) (by simp [results, Try.results23, go_sem]) rfl ⟨rfl, (Kp.refl w)⟩
set_option maxRecDepth 20000 in
set_option maxHeartbeats 4000000 in
theorem across8_ (X1 X2 Y1 Y2 : Int) (A1 A2 B1 B2 : Nat) (PB : Nat → Nat → Nat → Nat → Nat → Bool → Prop) (PE : Nat → Nat → Bool → Prop) (PO : Nat → Nat → Nat → Nat → Int → Prop) (hB : ∀ f x1 x2 y1 y2 V, PB f x1 x2 y1 y2 V → ∀ w : World, Calls Try.prog f #[.agg #[.float .f64 x1, .float .f64 x2], .agg #[.float .f64 y1, .float .f64 y2]] w fun e w' => e = .returned (.bool V) ∧ Kp w w') (hE : ∀ x1 x2 V, PE x1 x2 V → ∀ w : World, Calls Try.prog 16 #[.agg #[.float .f64 x1, .float .f64 x2]] w fun e w' => e = .returned (.bool V) ∧ Kp w w') (hO : ∀ x1 x2 y1 y2 k, PO x1 x2 y1 y2 k → ∀ w : World, Calls Try.prog 22 #[.agg #[.float .f64 x1, .float .f64 x2], .agg #[.float .f64 y1, .float .f64 y2]] w fun e w' => e = .returned (.int .i64 k) ∧ Kp w w') (f1 : PO A1 A2 B1 B2 8) (f2 : PO B1 B2 A1 A2 10) (f3 : PE A1 A2 false) (f4 : PE B1 B2 false) (f5 : PB 15 A1 A2 B1 B2 false) (f6 : PB 14 A1 A2 B1 B2 false) (f7 : PB 13 A1 A2 B1 B2 true) (hin1 : ∀ w : World, Calls Try.prog 9 #[.agg #[.int .u64 X1, .int .u64 X2]] w fun e w' => e = .returned (.agg #[.float .f64 A1, .float .f64 A2]) ∧ Kp w w') (hin2 : ∀ w : World, Calls Try.prog 9 #[.agg #[.int .u64 Y1, .int .u64 Y2]] w fun e w' => e = .returned (.agg #[.float .f64 B1, .float .f64 B2]) ∧ Kp w w') (w : World) : Calls Try.prog 6 #[.agg #[.int .u64 X1, .int .u64 X2], .agg #[.int .u64 Y1, .int .u64 Y2]] w fun e w' => e = .returned (.bool true) ∧ Kp w w' := by
  go_enter Try.func6, Try.ntmps6
  go_upto_region 5 with (first | (go_at_call 11; refine (awake9_ _).mono ?_; rintro e w1 ⟨rfl, g1⟩; have k1 : Kp w w1 := Kp.trans (((Kp.refl w).alloc _).alloc _) g1; have s1 := H48.keep (H48.new w (.int .u64 X1) (.int .u64 X2) (.int .u64 Y1) (.int .u64 Y2) 24 24) g1; have z0 := s1.1.1; have z1 := s1.1.2.1) | (go_at_call_of 9 (Value.agg #[.int .u64 X1, .int .u64 X2]); refine (hin1 _).mono ?_; rintro e w2 ⟨rfl, g2⟩; have k2 := Kp.trans k1 g2; have s2 := H48.keep s1 g2; have y00 := fun o => (H48.keep s2 ((Kp.refl w2).alloc o)).2.1; have y01 := fun o => (H48.keep s2 ((Kp.refl w2).alloc o)).2.2.1) | (go_at_call_of 9 (Value.agg #[.int .u64 Y1, .int .u64 Y2]); refine (hin2 _).mono ?_; rintro e w3 ⟨rfl, g3⟩; have k3 := Kp.trans (k2.alloc _) g3; have s3 := H48.keep (H48.keep s2 ((Kp.refl w2).alloc _)) g3; have q0_3 := Fq.H2.keep (Fq.H2.new w2 (.float .f64 A1) (.float .f64 A2) 28) g3))
  have qa := Fq.H2.past q0_3 #[.float .f64 B1, .float .f64 B2] 28
  have qb := Fq.H2.new w3 (.float .f64 B1) (.float .f64 B2) 28
  have kW := k3.alloc (.cells #[.float .f64 B1, .float .f64 B2] 28)
  generalize hW : w3.alloc (.cells #[.float .f64 B1, .float .f64 B2] 28) = W at qa qb kW ⊢
  generalize w2.heap.size = ba at qa ⊢
  generalize w3.heap.size = bb at qb ⊢
  clear hW k1 s1 g1 k2 s2 g2 k3 s3 g3 z0 z1 y00 y01 q0_3 hin1 hin2
  have gq : Kp W W := Kp.refl W
  obtain ⟨a0, a1, a2, a3⟩ := id qa
  obtain ⟨b0, b1, b2, b3⟩ := id qb
  go_wp2_with (first | (go_at_call 15; refine (hB 15 _ _ _ _ _ f5 _).mono ?_; rintro e wx ⟨rfl, gx⟩; replace gq := Kp.trans gq gx; replace qa := Fq.H2.keep qa gx; replace qb := Fq.H2.keep qb gx; clear gx; obtain ⟨a0, a1, a2, a3⟩ := id qa; obtain ⟨b0, b1, b2, b3⟩ := id qb) | (go_at_call 14; refine (hB 14 _ _ _ _ _ f6 _).mono ?_; rintro e wx ⟨rfl, gx⟩; replace gq := Kp.trans gq gx; replace qa := Fq.H2.keep qa gx; replace qb := Fq.H2.keep qb gx; clear gx; obtain ⟨a0, a1, a2, a3⟩ := id qa; obtain ⟨b0, b1, b2, b3⟩ := id qb) | (go_at_call 13; refine (hB 13 _ _ _ _ _ f7 _).mono ?_; rintro e wx ⟨rfl, gx⟩; replace gq := Kp.trans gq gx; replace qa := Fq.H2.keep qa gx; replace qb := Fq.H2.keep qb gx; clear gx; obtain ⟨a0, a1, a2, a3⟩ := id qa; obtain ⟨b0, b1, b2, b3⟩ := id qb) | (go_at_call 16; refine (hE _ _ _ (by with_reducible first | exact f3 | exact f4) _).mono ?_; rintro e wx ⟨rfl, gx⟩; replace gq := Kp.trans gq gx; replace qa := Fq.H2.keep qa gx; replace qb := Fq.H2.keep qb gx; clear gx; obtain ⟨a0, a1, a2, a3⟩ := id qa; obtain ⟨b0, b1, b2, b3⟩ := id qb) | (go_at_call 22; refine (hO _ _ _ _ _ (by with_reducible first | exact f1 | exact f2) _).mono ?_; rintro e wx ⟨rfl, gx⟩; replace gq := Kp.trans gq gx; replace qa := Fq.H2.keep qa gx; replace qb := Fq.H2.keep qb gx; clear gx; obtain ⟨a0, a1, a2, a3⟩ := id qa; obtain ⟨b0, b1, b2, b3⟩ := id qb) | (go_at_call 23; refine (acr8_ _).mono ?_; rintro e wx ⟨rfl, gx⟩; replace gq := Kp.trans gq gx; replace qa := Fq.H2.keep qa gx; replace qb := Fq.H2.keep qb gx; clear gx; obtain ⟨a0, a1, a2, a3⟩ := id qa; obtain ⟨b0, b1, b2, b3⟩ := id qb))
  exact bodyPost_ret (v := .bool true) (by simp [results, Try.results6, go_sem]) rfl ⟨rfl, (Kp.trans kW gq)⟩
set_option maxRecDepth 20000 in
set_option maxHeartbeats 1000000 in
theorem acr9_ (w : World) : Calls Try.prog 23 #[.int .i64 9] w fun e w' => e = .returned (.int .i64 9) ∧ Kp w w' := by
  go_enter Try.func23, Try.ntmps23
  go_wp2
  exact bodyPost_ret (v := .int .i64 9) (by simp [results, Try.results23, go_sem]) rfl ⟨rfl, (Kp.refl w)⟩
set_option maxRecDepth 20000 in
set_option maxHeartbeats 4000000 in
theorem across9_ (X1 X2 Y1 Y2 : Int) (A1 A2 B1 B2 : Nat) (PB : Nat → Nat → Nat → Nat → Nat → Bool → Prop) (PE : Nat → Nat → Bool → Prop) (PO : Nat → Nat → Nat → Nat → Int → Prop) (hB : ∀ f x1 x2 y1 y2 V, PB f x1 x2 y1 y2 V → ∀ w : World, Calls Try.prog f #[.agg #[.float .f64 x1, .float .f64 x2], .agg #[.float .f64 y1, .float .f64 y2]] w fun e w' => e = .returned (.bool V) ∧ Kp w w') (hE : ∀ x1 x2 V, PE x1 x2 V → ∀ w : World, Calls Try.prog 16 #[.agg #[.float .f64 x1, .float .f64 x2]] w fun e w' => e = .returned (.bool V) ∧ Kp w w') (hO : ∀ x1 x2 y1 y2 k, PO x1 x2 y1 y2 k → ∀ w : World, Calls Try.prog 22 #[.agg #[.float .f64 x1, .float .f64 x2], .agg #[.float .f64 y1, .float .f64 y2]] w fun e w' => e = .returned (.int .i64 k) ∧ Kp w w') (f1 : PO A1 A2 B1 B2 9) (f2 : PO B1 B2 A1 A2 9) (f3 : PE A1 A2 false) (f4 : PE B1 B2 false) (f5 : PB 15 A1 A2 B1 B2 false) (f6 : PB 14 A1 A2 B1 B2 true) (f7 : PB 13 A1 A2 B1 B2 true) (hin1 : ∀ w : World, Calls Try.prog 9 #[.agg #[.int .u64 X1, .int .u64 X2]] w fun e w' => e = .returned (.agg #[.float .f64 A1, .float .f64 A2]) ∧ Kp w w') (hin2 : ∀ w : World, Calls Try.prog 9 #[.agg #[.int .u64 Y1, .int .u64 Y2]] w fun e w' => e = .returned (.agg #[.float .f64 B1, .float .f64 B2]) ∧ Kp w w') (w : World) : Calls Try.prog 6 #[.agg #[.int .u64 X1, .int .u64 X2], .agg #[.int .u64 Y1, .int .u64 Y2]] w fun e w' => e = .returned (.bool true) ∧ Kp w w' := by
  go_enter Try.func6, Try.ntmps6
  go_upto_region 5 with (first | (go_at_call 11; refine (awake9_ _).mono ?_; rintro e w1 ⟨rfl, g1⟩; have k1 : Kp w w1 := Kp.trans (((Kp.refl w).alloc _).alloc _) g1; have s1 := H48.keep (H48.new w (.int .u64 X1) (.int .u64 X2) (.int .u64 Y1) (.int .u64 Y2) 24 24) g1; have z0 := s1.1.1; have z1 := s1.1.2.1) | (go_at_call_of 9 (Value.agg #[.int .u64 X1, .int .u64 X2]); refine (hin1 _).mono ?_; rintro e w2 ⟨rfl, g2⟩; have k2 := Kp.trans k1 g2; have s2 := H48.keep s1 g2; have y00 := fun o => (H48.keep s2 ((Kp.refl w2).alloc o)).2.1; have y01 := fun o => (H48.keep s2 ((Kp.refl w2).alloc o)).2.2.1) | (go_at_call_of 9 (Value.agg #[.int .u64 Y1, .int .u64 Y2]); refine (hin2 _).mono ?_; rintro e w3 ⟨rfl, g3⟩; have k3 := Kp.trans (k2.alloc _) g3; have s3 := H48.keep (H48.keep s2 ((Kp.refl w2).alloc _)) g3; have q0_3 := Fq.H2.keep (Fq.H2.new w2 (.float .f64 A1) (.float .f64 A2) 28) g3))
  have qa := Fq.H2.past q0_3 #[.float .f64 B1, .float .f64 B2] 28
  have qb := Fq.H2.new w3 (.float .f64 B1) (.float .f64 B2) 28
  have kW := k3.alloc (.cells #[.float .f64 B1, .float .f64 B2] 28)
  generalize hW : w3.alloc (.cells #[.float .f64 B1, .float .f64 B2] 28) = W at qa qb kW ⊢
  generalize w2.heap.size = ba at qa ⊢
  generalize w3.heap.size = bb at qb ⊢
  clear hW k1 s1 g1 k2 s2 g2 k3 s3 g3 z0 z1 y00 y01 q0_3 hin1 hin2
  have gq : Kp W W := Kp.refl W
  obtain ⟨a0, a1, a2, a3⟩ := id qa
  obtain ⟨b0, b1, b2, b3⟩ := id qb
  go_wp2_with (first | (go_at_call 15; refine (hB 15 _ _ _ _ _ f5 _).mono ?_; rintro e wx ⟨rfl, gx⟩; replace gq := Kp.trans gq gx; replace qa := Fq.H2.keep qa gx; replace qb := Fq.H2.keep qb gx; clear gx; obtain ⟨a0, a1, a2, a3⟩ := id qa; obtain ⟨b0, b1, b2, b3⟩ := id qb) | (go_at_call 14; refine (hB 14 _ _ _ _ _ f6 _).mono ?_; rintro e wx ⟨rfl, gx⟩; replace gq := Kp.trans gq gx; replace qa := Fq.H2.keep qa gx; replace qb := Fq.H2.keep qb gx; clear gx; obtain ⟨a0, a1, a2, a3⟩ := id qa; obtain ⟨b0, b1, b2, b3⟩ := id qb) | (go_at_call 13; refine (hB 13 _ _ _ _ _ f7 _).mono ?_; rintro e wx ⟨rfl, gx⟩; replace gq := Kp.trans gq gx; replace qa := Fq.H2.keep qa gx; replace qb := Fq.H2.keep qb gx; clear gx; obtain ⟨a0, a1, a2, a3⟩ := id qa; obtain ⟨b0, b1, b2, b3⟩ := id qb) | (go_at_call 16; refine (hE _ _ _ (by with_reducible first | exact f3 | exact f4) _).mono ?_; rintro e wx ⟨rfl, gx⟩; replace gq := Kp.trans gq gx; replace qa := Fq.H2.keep qa gx; replace qb := Fq.H2.keep qb gx; clear gx; obtain ⟨a0, a1, a2, a3⟩ := id qa; obtain ⟨b0, b1, b2, b3⟩ := id qb) | (go_at_call 22; refine (hO _ _ _ _ _ (by with_reducible first | exact f1 | exact f2) _).mono ?_; rintro e wx ⟨rfl, gx⟩; replace gq := Kp.trans gq gx; replace qa := Fq.H2.keep qa gx; replace qb := Fq.H2.keep qb gx; clear gx; obtain ⟨a0, a1, a2, a3⟩ := id qa; obtain ⟨b0, b1, b2, b3⟩ := id qb) | (go_at_call 23; refine (acr9_ _).mono ?_; rintro e wx ⟨rfl, gx⟩; replace gq := Kp.trans gq gx; replace qa := Fq.H2.keep qa gx; replace qb := Fq.H2.keep qb gx; clear gx; obtain ⟨a0, a1, a2, a3⟩ := id qa; obtain ⟨b0, b1, b2, b3⟩ := id qb))
  exact bodyPost_ret (v := .bool true) (by simp [results, Try.results6, go_sem]) rfl ⟨rfl, (Kp.trans kW gq)⟩
set_option maxRecDepth 20000 in
set_option maxHeartbeats 1000000 in
theorem acr10_ (w : World) : Calls Try.prog 23 #[.int .i64 10] w fun e w' => e = .returned (.int .i64 8) ∧ Kp w w' := by
  go_enter Try.func23, Try.ntmps23
  go_wp2
  exact bodyPost_ret (v := .int .i64 8) (by simp [results, Try.results23, go_sem]) rfl ⟨rfl, (Kp.refl w)⟩
set_option maxRecDepth 20000 in
set_option maxHeartbeats 4000000 in
theorem across10_ (X1 X2 Y1 Y2 : Int) (A1 A2 B1 B2 : Nat) (PB : Nat → Nat → Nat → Nat → Nat → Bool → Prop) (PE : Nat → Nat → Bool → Prop) (PO : Nat → Nat → Nat → Nat → Int → Prop) (hB : ∀ f x1 x2 y1 y2 V, PB f x1 x2 y1 y2 V → ∀ w : World, Calls Try.prog f #[.agg #[.float .f64 x1, .float .f64 x2], .agg #[.float .f64 y1, .float .f64 y2]] w fun e w' => e = .returned (.bool V) ∧ Kp w w') (hE : ∀ x1 x2 V, PE x1 x2 V → ∀ w : World, Calls Try.prog 16 #[.agg #[.float .f64 x1, .float .f64 x2]] w fun e w' => e = .returned (.bool V) ∧ Kp w w') (hO : ∀ x1 x2 y1 y2 k, PO x1 x2 y1 y2 k → ∀ w : World, Calls Try.prog 22 #[.agg #[.float .f64 x1, .float .f64 x2], .agg #[.float .f64 y1, .float .f64 y2]] w fun e w' => e = .returned (.int .i64 k) ∧ Kp w w') (f1 : PO A1 A2 B1 B2 10) (f2 : PO B1 B2 A1 A2 8) (f3 : PE A1 A2 false) (f4 : PE B1 B2 false) (f5 : PB 15 A1 A2 B1 B2 false) (f6 : PB 14 A1 A2 B1 B2 false) (f7 : PB 13 A1 A2 B1 B2 false) (hin1 : ∀ w : World, Calls Try.prog 9 #[.agg #[.int .u64 X1, .int .u64 X2]] w fun e w' => e = .returned (.agg #[.float .f64 A1, .float .f64 A2]) ∧ Kp w w') (hin2 : ∀ w : World, Calls Try.prog 9 #[.agg #[.int .u64 Y1, .int .u64 Y2]] w fun e w' => e = .returned (.agg #[.float .f64 B1, .float .f64 B2]) ∧ Kp w w') (w : World) : Calls Try.prog 6 #[.agg #[.int .u64 X1, .int .u64 X2], .agg #[.int .u64 Y1, .int .u64 Y2]] w fun e w' => e = .returned (.bool true) ∧ Kp w w' := by
  go_enter Try.func6, Try.ntmps6
  go_upto_region 5 with (first | (go_at_call 11; refine (awake9_ _).mono ?_; rintro e w1 ⟨rfl, g1⟩; have k1 : Kp w w1 := Kp.trans (((Kp.refl w).alloc _).alloc _) g1; have s1 := H48.keep (H48.new w (.int .u64 X1) (.int .u64 X2) (.int .u64 Y1) (.int .u64 Y2) 24 24) g1; have z0 := s1.1.1; have z1 := s1.1.2.1) | (go_at_call_of 9 (Value.agg #[.int .u64 X1, .int .u64 X2]); refine (hin1 _).mono ?_; rintro e w2 ⟨rfl, g2⟩; have k2 := Kp.trans k1 g2; have s2 := H48.keep s1 g2; have y00 := fun o => (H48.keep s2 ((Kp.refl w2).alloc o)).2.1; have y01 := fun o => (H48.keep s2 ((Kp.refl w2).alloc o)).2.2.1) | (go_at_call_of 9 (Value.agg #[.int .u64 Y1, .int .u64 Y2]); refine (hin2 _).mono ?_; rintro e w3 ⟨rfl, g3⟩; have k3 := Kp.trans (k2.alloc _) g3; have s3 := H48.keep (H48.keep s2 ((Kp.refl w2).alloc _)) g3; have q0_3 := Fq.H2.keep (Fq.H2.new w2 (.float .f64 A1) (.float .f64 A2) 28) g3))
  have qa := Fq.H2.past q0_3 #[.float .f64 B1, .float .f64 B2] 28
  have qb := Fq.H2.new w3 (.float .f64 B1) (.float .f64 B2) 28
  have kW := k3.alloc (.cells #[.float .f64 B1, .float .f64 B2] 28)
  generalize hW : w3.alloc (.cells #[.float .f64 B1, .float .f64 B2] 28) = W at qa qb kW ⊢
  generalize w2.heap.size = ba at qa ⊢
  generalize w3.heap.size = bb at qb ⊢
  clear hW k1 s1 g1 k2 s2 g2 k3 s3 g3 z0 z1 y00 y01 q0_3 hin1 hin2
  have gq : Kp W W := Kp.refl W
  obtain ⟨a0, a1, a2, a3⟩ := id qa
  obtain ⟨b0, b1, b2, b3⟩ := id qb
  go_wp2_with (first | (go_at_call 15; refine (hB 15 _ _ _ _ _ f5 _).mono ?_; rintro e wx ⟨rfl, gx⟩; replace gq := Kp.trans gq gx; replace qa := Fq.H2.keep qa gx; replace qb := Fq.H2.keep qb gx; clear gx; obtain ⟨a0, a1, a2, a3⟩ := id qa; obtain ⟨b0, b1, b2, b3⟩ := id qb) | (go_at_call 14; refine (hB 14 _ _ _ _ _ f6 _).mono ?_; rintro e wx ⟨rfl, gx⟩; replace gq := Kp.trans gq gx; replace qa := Fq.H2.keep qa gx; replace qb := Fq.H2.keep qb gx; clear gx; obtain ⟨a0, a1, a2, a3⟩ := id qa; obtain ⟨b0, b1, b2, b3⟩ := id qb) | (go_at_call 13; refine (hB 13 _ _ _ _ _ f7 _).mono ?_; rintro e wx ⟨rfl, gx⟩; replace gq := Kp.trans gq gx; replace qa := Fq.H2.keep qa gx; replace qb := Fq.H2.keep qb gx; clear gx; obtain ⟨a0, a1, a2, a3⟩ := id qa; obtain ⟨b0, b1, b2, b3⟩ := id qb) | (go_at_call 16; refine (hE _ _ _ (by with_reducible first | exact f3 | exact f4) _).mono ?_; rintro e wx ⟨rfl, gx⟩; replace gq := Kp.trans gq gx; replace qa := Fq.H2.keep qa gx; replace qb := Fq.H2.keep qb gx; clear gx; obtain ⟨a0, a1, a2, a3⟩ := id qa; obtain ⟨b0, b1, b2, b3⟩ := id qb) | (go_at_call 22; refine (hO _ _ _ _ _ (by with_reducible first | exact f1 | exact f2) _).mono ?_; rintro e wx ⟨rfl, gx⟩; replace gq := Kp.trans gq gx; replace qa := Fq.H2.keep qa gx; replace qb := Fq.H2.keep qb gx; clear gx; obtain ⟨a0, a1, a2, a3⟩ := id qa; obtain ⟨b0, b1, b2, b3⟩ := id qb) | (go_at_call 23; refine (acr10_ _).mono ?_; rintro e wx ⟨rfl, gx⟩; replace gq := Kp.trans gq gx; replace qa := Fq.H2.keep qa gx; replace qb := Fq.H2.keep qb gx; clear gx; obtain ⟨a0, a1, a2, a3⟩ := id qa; obtain ⟨b0, b1, b2, b3⟩ := id qb))
  exact bodyPost_ret (v := .bool true) (by simp [results, Try.results6, go_sem]) rfl ⟨rfl, (Kp.trans kW gq)⟩
set_option maxRecDepth 20000 in
set_option maxHeartbeats 1000000 in
theorem acr11_ (w : World) : Calls Try.prog 23 #[.int .i64 11] w fun e w' => e = .returned (.int .i64 7) ∧ Kp w w' := by
  go_enter Try.func23, Try.ntmps23
  go_wp2
  exact bodyPost_ret (v := .int .i64 7) (by simp [results, Try.results23, go_sem]) rfl ⟨rfl, (Kp.refl w)⟩
set_option maxRecDepth 20000 in
set_option maxHeartbeats 4000000 in
theorem across11_ (X1 X2 Y1 Y2 : Int) (A1 A2 B1 B2 : Nat) (PB : Nat → Nat → Nat → Nat → Nat → Bool → Prop) (PE : Nat → Nat → Bool → Prop) (PO : Nat → Nat → Nat → Nat → Int → Prop) (hB : ∀ f x1 x2 y1 y2 V, PB f x1 x2 y1 y2 V → ∀ w : World, Calls Try.prog f #[.agg #[.float .f64 x1, .float .f64 x2], .agg #[.float .f64 y1, .float .f64 y2]] w fun e w' => e = .returned (.bool V) ∧ Kp w w') (hE : ∀ x1 x2 V, PE x1 x2 V → ∀ w : World, Calls Try.prog 16 #[.agg #[.float .f64 x1, .float .f64 x2]] w fun e w' => e = .returned (.bool V) ∧ Kp w w') (hO : ∀ x1 x2 y1 y2 k, PO x1 x2 y1 y2 k → ∀ w : World, Calls Try.prog 22 #[.agg #[.float .f64 x1, .float .f64 x2], .agg #[.float .f64 y1, .float .f64 y2]] w fun e w' => e = .returned (.int .i64 k) ∧ Kp w w') (f1 : PO A1 A2 B1 B2 11) (f2 : PO B1 B2 A1 A2 7) (f3 : PE A1 A2 false) (f4 : PE B1 B2 false) (f5 : PB 15 A1 A2 B1 B2 false) (f6 : PB 14 A1 A2 B1 B2 false) (f7 : PB 13 A1 A2 B1 B2 false) (hin1 : ∀ w : World, Calls Try.prog 9 #[.agg #[.int .u64 X1, .int .u64 X2]] w fun e w' => e = .returned (.agg #[.float .f64 A1, .float .f64 A2]) ∧ Kp w w') (hin2 : ∀ w : World, Calls Try.prog 9 #[.agg #[.int .u64 Y1, .int .u64 Y2]] w fun e w' => e = .returned (.agg #[.float .f64 B1, .float .f64 B2]) ∧ Kp w w') (w : World) : Calls Try.prog 6 #[.agg #[.int .u64 X1, .int .u64 X2], .agg #[.int .u64 Y1, .int .u64 Y2]] w fun e w' => e = .returned (.bool true) ∧ Kp w w' := by
  go_enter Try.func6, Try.ntmps6
  go_upto_region 5 with (first | (go_at_call 11; refine (awake9_ _).mono ?_; rintro e w1 ⟨rfl, g1⟩; have k1 : Kp w w1 := Kp.trans (((Kp.refl w).alloc _).alloc _) g1; have s1 := H48.keep (H48.new w (.int .u64 X1) (.int .u64 X2) (.int .u64 Y1) (.int .u64 Y2) 24 24) g1; have z0 := s1.1.1; have z1 := s1.1.2.1) | (go_at_call_of 9 (Value.agg #[.int .u64 X1, .int .u64 X2]); refine (hin1 _).mono ?_; rintro e w2 ⟨rfl, g2⟩; have k2 := Kp.trans k1 g2; have s2 := H48.keep s1 g2; have y00 := fun o => (H48.keep s2 ((Kp.refl w2).alloc o)).2.1; have y01 := fun o => (H48.keep s2 ((Kp.refl w2).alloc o)).2.2.1) | (go_at_call_of 9 (Value.agg #[.int .u64 Y1, .int .u64 Y2]); refine (hin2 _).mono ?_; rintro e w3 ⟨rfl, g3⟩; have k3 := Kp.trans (k2.alloc _) g3; have s3 := H48.keep (H48.keep s2 ((Kp.refl w2).alloc _)) g3; have q0_3 := Fq.H2.keep (Fq.H2.new w2 (.float .f64 A1) (.float .f64 A2) 28) g3))
  have qa := Fq.H2.past q0_3 #[.float .f64 B1, .float .f64 B2] 28
  have qb := Fq.H2.new w3 (.float .f64 B1) (.float .f64 B2) 28
  have kW := k3.alloc (.cells #[.float .f64 B1, .float .f64 B2] 28)
  generalize hW : w3.alloc (.cells #[.float .f64 B1, .float .f64 B2] 28) = W at qa qb kW ⊢
  generalize w2.heap.size = ba at qa ⊢
  generalize w3.heap.size = bb at qb ⊢
  clear hW k1 s1 g1 k2 s2 g2 k3 s3 g3 z0 z1 y00 y01 q0_3 hin1 hin2
  have gq : Kp W W := Kp.refl W
  obtain ⟨a0, a1, a2, a3⟩ := id qa
  obtain ⟨b0, b1, b2, b3⟩ := id qb
  go_wp2_with (first | (go_at_call 15; refine (hB 15 _ _ _ _ _ f5 _).mono ?_; rintro e wx ⟨rfl, gx⟩; replace gq := Kp.trans gq gx; replace qa := Fq.H2.keep qa gx; replace qb := Fq.H2.keep qb gx; clear gx; obtain ⟨a0, a1, a2, a3⟩ := id qa; obtain ⟨b0, b1, b2, b3⟩ := id qb) | (go_at_call 14; refine (hB 14 _ _ _ _ _ f6 _).mono ?_; rintro e wx ⟨rfl, gx⟩; replace gq := Kp.trans gq gx; replace qa := Fq.H2.keep qa gx; replace qb := Fq.H2.keep qb gx; clear gx; obtain ⟨a0, a1, a2, a3⟩ := id qa; obtain ⟨b0, b1, b2, b3⟩ := id qb) | (go_at_call 13; refine (hB 13 _ _ _ _ _ f7 _).mono ?_; rintro e wx ⟨rfl, gx⟩; replace gq := Kp.trans gq gx; replace qa := Fq.H2.keep qa gx; replace qb := Fq.H2.keep qb gx; clear gx; obtain ⟨a0, a1, a2, a3⟩ := id qa; obtain ⟨b0, b1, b2, b3⟩ := id qb) | (go_at_call 16; refine (hE _ _ _ (by with_reducible first | exact f3 | exact f4) _).mono ?_; rintro e wx ⟨rfl, gx⟩; replace gq := Kp.trans gq gx; replace qa := Fq.H2.keep qa gx; replace qb := Fq.H2.keep qb gx; clear gx; obtain ⟨a0, a1, a2, a3⟩ := id qa; obtain ⟨b0, b1, b2, b3⟩ := id qb) | (go_at_call 22; refine (hO _ _ _ _ _ (by with_reducible first | exact f1 | exact f2) _).mono ?_; rintro e wx ⟨rfl, gx⟩; replace gq := Kp.trans gq gx; replace qa := Fq.H2.keep qa gx; replace qb := Fq.H2.keep qb gx; clear gx; obtain ⟨a0, a1, a2, a3⟩ := id qa; obtain ⟨b0, b1, b2, b3⟩ := id qb) | (go_at_call 23; refine (acr11_ _).mono ?_; rintro e wx ⟨rfl, gx⟩; replace gq := Kp.trans gq gx; replace qa := Fq.H2.keep qa gx; replace qb := Fq.H2.keep qb gx; clear gx; obtain ⟨a0, a1, a2, a3⟩ := id qa; obtain ⟨b0, b1, b2, b3⟩ := id qb))
  exact bodyPost_ret (v := .bool true) (by simp [results, Try.results6, go_sem]) rfl ⟨rfl, (Kp.trans kW gq)⟩
end Go.Proofs.Ytponjofoenmbhaa
