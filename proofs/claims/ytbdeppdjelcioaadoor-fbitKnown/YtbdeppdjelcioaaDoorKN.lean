import Derived.Test.YtbdeppdjelcioaaDoorProg
import Derived.Test.YtbdeppdjelcioaaDoorM
import Derived.Test.YtbdeppdjelcioaaDoorM5
import Derived.Test.YtbdeppdjelcioaaDoorM6
import Derived.Test.YtbdeppdjelcioaaDoorM7
import Derived.Test.YtbdeppdjelcioaaDoorM8
import Derived.Test.YtbdeppdjelcioaaDoorMJ
import Derived.Test.YtbdeppdjelcioaaDoorA
import Derived.Test.YtbdeppdjelcioaaDoorB
import Derived.Test.YtbdeppdjelcioaaDoorBT
import Derived.Test.YtbdeppdjelcioaaDoorCd
import Derived.Test.YtbdeppdjelcioaaDoorCs
import Derived.Test.YtbdeppdjelcioaaDoorP
import Derived.Test.YtbdeppdjelcioaaDoorTd
import Derived.Test.YtbdeppdjelcioaaDoorTs
import Derived.Test.YtbdeppdjelcioaaDoorSD
import Derived.Test.YtbdeppdjelcioaaDoorZd
import Derived.Test.YtbdeppdjelcioaaDoorOd
import Derived.Test.YtbdeppdjelcioaaDoorOs
import Derived.Test.YtbdeppdjelcioaaDoorJd
import Derived.WalkKit
import Derived.ProofKit
import Derived.RowKit3
import Derived.Deep.RegionHeld3
import Derived.WalkSpells
import Derived.StillTactics
import Derived.Laws.FloatArith
import Derived.Deep.QuietTactic
import Derived.BigQuiet
namespace Go.Proofs.YtbdeppdjelcioaaDoor
open Go.RowKit
open Ieee
set_option maxRecDepth 20000 in
set_option maxHeartbeats 400000 in
theorem k1 (w : World) : Calls Tryd.prog 7 #[.int .i64 1] w fun e w' => e = .returned (.float .f64 9218868437227405312) ∧ w' = w := by
  have hf : ∀ w : World, (callFunc 38 #[.int .u64 9218868437227405312]).run Tryd.prog w = .ok (.value (.float .f64 9218868437227405312)) w := ff64 9218868437227405312
  go_enter Tryd.func7, Tryd.ntmps7
  go_wp2_with (first | (simp only [hf]))
  exact bodyPost_ret (v := .float .f64 9218868437227405312) (by simp [results, Tryd.results7, go_sem] <;> simp only [*]) rfl ⟨rfl, rfl⟩

set_option maxRecDepth 20000 in
set_option maxHeartbeats 400000 in
theorem k12 (w : World) : Calls Tryd.prog 14 #[] w fun e w' => e = .returned (.float .f64 9221120237041090561) ∧ w' = w := by
  have hf : ∀ w : World, (callFunc 38 #[.int .u64 9221120237041090561]).run Tryd.prog w = .ok (.value (.float .f64 9221120237041090561)) w := ff64 9221120237041090561
  go_enter Tryd.func14, Tryd.ntmps14
  go_wp2_with (first | (simp only [hf]))
  exact bodyPost_ret (v := .float .f64 9221120237041090561) (by simp [results, Tryd.results14, go_sem] <;> simp only [*]) rfl ⟨rfl, rfl⟩

set_option maxRecDepth 20000 in
set_option maxHeartbeats 400000 in
theorem k2 (w : World) : Calls Tryd.prog 8 #[.float .f64 0, .float .f64 13830554455654793216] w fun e w' => e = .returned (.float .f64 9223372036854775808) ∧ w' = w := by
  have hf : ∀ w : World, (callFunc 38 #[.int .u64 9223372036854775808]).run Tryd.prog w = .ok (.value (.float .f64 9223372036854775808)) w := ff64 9223372036854775808
  have h1 : ∀ w : World, (callFunc 39 #[.float .f64 0]).run Tryd.prog w = .ok (.value (.int .u64 0)) w := fb64 0
  have h2 : ∀ w : World, (callFunc 39 #[.float .f64 13830554455654793216]).run Tryd.prog w = .ok (.value (.int .u64 13830554455654793216)) w := fb64 13830554455654793216
  have b1 : bits BinOp.andNot IntKind.u64 0 9223372036854775808 = 0 := by decide +kernel
  have b2 : bits BinOp.and IntKind.u64 13830554455654793216 9223372036854775808 = 9223372036854775808 := by decide +kernel
  have b3 : bits BinOp.or IntKind.u64 0 9223372036854775808 = 9223372036854775808 := by decide +kernel
  go_enter Tryd.func8, Tryd.ntmps8
  go_wp2_with (first | (simp only [hf]) | (simp only [h1]) | (simp only [h2]))
  exact bodyPost_ret (v := .float .f64 9223372036854775808) (by simp [results, Tryd.results8, go_sem] <;> simp only [*]) rfl ⟨rfl, rfl⟩

theorem k3 (w : World) : Calls Tryd.prog 9 #[.float .f64 9223372036854775808] w fun e w' => e = .returned (.int .i64 4) ∧ Grown w w' := by
  have h := class_d true 0 (by decide) w
  have e0 : wD true 0 = 9223372036854775808 := by decide +kernel
  have e1 : clsD true 0 = 4 := by decide +kernel
  rw [e0, e1] at h
  exact h

theorem k4 (w : World) : Calls Tryd.prog 10 #[.float .f32 71362] w fun e w' => e = .returned (.int .i64 6) ∧ Grown w w' := by
  have h := class_s false 71362 (by decide) w
  have e0 : wS false 71362 = 71362 := by decide +kernel
  have e1 : clsS false 71362 = 6 := by decide +kernel
  rw [e0, e1] at h
  exact h

theorem k5 (w : World) : Calls Tryd.prog 9 #[.float .f64 4008604054463141788] w fun e w' => e = .returned (.int .i64 7) ∧ Grown w w' := by
  have h := class_d false 4008604054463141788 (by decide) w
  have e0 : wD false 4008604054463141788 = 4008604054463141788 := by decide +kernel
  have e1 : clsD false 4008604054463141788 = 7 := by decide +kernel
  rw [e0, e1] at h
  exact h

theorem k6 (w : World) : Calls Tryd.prog 11 #[.float .f64 9223372036854775808] w fun e w' => e = .returned (.float .f64 1) ∧ Grown w w' := by
  have h := up_d true 0 (by decide) (by decide) w
  have e0 : fD (plz true 0 + 1) = 1 := by decide +kernel
  have e1 : wD true 0 = 9223372036854775808 := by decide +kernel
  rw [e0, e1] at h
  exact h

theorem k7 (w : World) : Calls Tryd.prog 11 #[.float .f64 9218868437227405311] w fun e w' => e = .returned (.float .f64 9218868437227405312) ∧ Grown w w' := by
  have h := up_d false 9218868437227405311 (by decide) (by decide +kernel) w
  have e0 : fD (plz false 9218868437227405311 + 1) = 9218868437227405312 := by decide +kernel
  have e1 : wD false 9218868437227405311 = 9218868437227405311 := by decide +kernel
  rw [e0, e1] at h
  exact h

theorem k8 (w : World) : Calls Tryd.prog 11 #[.float .f64 18442240474082181120] w fun e w' => e = .returned (.float .f64 18442240474082181119) ∧ Grown w w' := by
  have h := up_d true 9218868437227405312 (by decide) (by decide +kernel) w
  have e0 : fD (plz true 9218868437227405312 + 1) = 18442240474082181119 := by decide +kernel
  have e1 : wD true 9218868437227405312 = 18442240474082181120 := by decide +kernel
  rw [e0, e1] at h
  exact h

theorem k9 (w : World) : Calls Tryd.prog 11 #[.float .f64 9223372036854775809] w fun e w' => e = .returned (.float .f64 0) ∧ Grown w w' := by
  have h := up_d true 1 (by decide) (by decide +kernel) w
  have e0 : fD (plz true 1 + 1) = 0 := by decide +kernel
  have e1 : wD true 1 = 9223372036854775809 := by decide +kernel
  rw [e0, e1] at h
  exact h

theorem k10 (w : World) : Calls Tryd.prog 12 #[.float .f64 0, .int .u64 0] w fun e w' => e = .returned (.bool true) ∧ Grown w w' := ise_D false 0 (by decide) w

theorem k11 (w : World) : Calls Tryd.prog 13 #[.float .f64 9223372036854775808, .float .f64 0] w fun e w' => e = .returned (.int .i64 (-1)) ∧ Grown w w' := by
  have h := order_d true false 0 0 (by decide) (by decide) w
  have e0 : cmpz (rkD true 0) (rkD false 0) = -1 := by decide +kernel
  have e1 : wD true 0 = 9223372036854775808 := by decide +kernel
  have e2 : wD false 0 = 0 := by decide +kernel
  rw [e0, e1, e2] at h
  exact h

theorem k13 (w : World) : Calls Tryd.prog 13 #[.float .f64 9221120237041090561, .float .f64 9218868437227405312] w fun e w' => e = .returned (.int .i64 1) ∧ Grown w w' := by
  have h := order_d false false 9221120237041090561 9218868437227405312 (by decide) (by decide) w
  have e0 : cmpz (rkD false 9221120237041090561) (rkD false 9218868437227405312) = 1 := by decide +kernel
  have e1 : wD false 9221120237041090561 = 9221120237041090561 := by decide +kernel
  have e2 : wD false 9218868437227405312 = 9218868437227405312 := by decide +kernel
  rw [e0, e1, e2] at h
  exact h

theorem k16 (w : World) : Calls Tryd.prog 13 #[.float .f64 9221120237041090561, .float .f64 9221120237041090561] w fun e w' => e = .returned (.int .i64 0) ∧ Grown w w' := by
  have h := order_d false false 9221120237041090561 9221120237041090561 (by decide) (by decide) w
  have e0 : cmpz (rkD false 9221120237041090561) (rkD false 9221120237041090561) = 0 := by decide +kernel
  have e1 : wD false 9221120237041090561 = 9221120237041090561 := by decide +kernel
  rw [e0, e1] at h
  exact h

theorem k17 (w : World) : Calls Tryd.prog 15 #[.float .f64 4607182418800017408] w fun e w' => e = .returned (.tuple #[.int .i64 4607182418800017408, .bool true]) ∧ Grown w w' := by
  have h := place_d false 4607182418800017408 (by decide) w
  have e0 : plz false 4607182418800017408 = 4607182418800017408 := by decide +kernel
  have e1 : wD false 4607182418800017408 = 4607182418800017408 := by decide +kernel
  rw [e0, e1] at h
  exact h

theorem k18 (w : World) : Calls Tryd.prog 16 #[.int .i64 9218868437227405312] w fun e w' => e = .returned (.tuple #[.float .f64 9218868437227405312, .bool true]) ∧ Grown w w' := by
  have h := at_d 9218868437227405312 (by decide) (by decide) w
  have e0 : fD 9218868437227405312 = 9218868437227405312 := by decide +kernel
  rw [e0] at h
  exact h

theorem k19 (w : World) : Calls Tryd.prog 16 #[.int .i64 9218868437227405313] w fun e w' => e = .returned (.tuple #[.float .f64 0, .bool false]) ∧ Grown w w' := by
  have h := atx_d 9218868437227405313 (Or.inr (by decide)) w
  have e0 : wD false 0 = 0 := by decide +kernel
  rw [e0] at h
  exact h

theorem k21 (w : World) : Calls Tryd.prog 17 #[.float .f64 18442240474082181120, .float .f64 9218868437227405312] w fun e w' => e = .returned (.tuple #[.int .i64 0, .bool false]) ∧ Grown w w' := by
  have h := steps_d true false 9218868437227405312 9218868437227405312 (by decide) (by decide) w
  have e0 : sti 9218868437227405312 true 9218868437227405312 false 9218868437227405312 = 0 := by decide +kernel
  have e1 : stb 9218868437227405312 true 9218868437227405312 false 9218868437227405312 = false := by decide +kernel
  have e2 : wD true 9218868437227405312 = 18442240474082181120 := by decide +kernel
  have e3 : wD false 9218868437227405312 = 9218868437227405312 := by decide +kernel
  rw [e0, e1, e2, e3] at h
  exact h

theorem k22 (w : World) : Calls Tryd.prog 18 #[.float .f32 4286578688, .float .f32 2139095040] w fun e w' => e = .returned (.tuple #[.int .i64 4278190080, .bool true]) ∧ Grown w w' := by
  have h := steps_s true false 2139095040 2139095040 (by decide) (by decide) w
  have e0 : sti 2139095040 true 2139095040 false 2139095040 = 4278190080 := by decide +kernel
  have e1 : stb 2139095040 true 2139095040 false 2139095040 = true := by decide +kernel
  have e2 : wS true 2139095040 = 4286578688 := by decide +kernel
  have e3 : wS false 2139095040 = 2139095040 := by decide +kernel
  rw [e0, e1, e2, e3] at h
  exact h

theorem k23 (w : World) (hT : Tab w) : Calls Tryd.prog 19 #[.bool false, .int .u64 6, .int .i64 (-1075)] w fun e w' => e = .returned (.tuple #[.float .f64 3, .int .i64 0]) ∧ Grown w w' := by
  have h := join_d false 3 1 (by decide) (by decide) (-1075) (by omega) (by omega) (by decide) w hT
  have e0 : wD false (jrD 3 (-1075 + ((1 : Nat) : Int))) = 3 := by decide +kernel
  rw [e0] at h
  exact h

theorem k24 (w : World) (hT : Tab w) : Calls Tryd.prog 19 #[.bool false, .int .u64 9007199254740993, .int .i64 0] w fun e w' => e = .returned (.tuple #[.float .f64 0, .int .i64 1]) ∧ Grown w w' := by
  exact joinx_d false 9007199254740993 0 (by decide) (by decide) 0 (by omega) (by omega) (by decide) w hT

theorem k25 (w : World) : Calls Tryd.prog 20 #[.float .f64 14114281232179134464] w fun e w' => e = .returned (.tuple #[.int .i64 (-9223372036854775808), .bool true]) ∧ w' = w := by
  have h := whole_d true 4890909195324358656 (by decide) w
  have e0 : wokD true 4890909195324358656 = true := by decide +kernel
  have e1 : wvD true 4890909195324358656 = -9223372036854775808 := by decide +kernel
  have e2 : wD true 4890909195324358656 = 14114281232179134464 := by decide +kernel
  rw [e0, e1, e2] at h
  rw [if_pos rfl] at h
  exact h

theorem k26 (w : World) : Calls Tryd.prog 20 #[.float .f64 4890909195324358656] w fun e w' => e = .returned (.tuple #[.int .i64 0, .bool false]) ∧ w' = w := by
  have h := whole_d false 4890909195324358656 (by decide) w
  have e0 : wokD false 4890909195324358656 = false := by decide +kernel
  have e1 : wD false 4890909195324358656 = 4890909195324358656 := by decide +kernel
  rw [e0, e1] at h
  rw [if_neg (by decide)] at h
  exact h

theorem k27 (w : World) : Calls Tryd.prog 21 #[.int .i64 (-9223372036854775808)] w fun e w' => e = .returned (.tuple #[.float .f64 14114281232179134464, .bool true]) ∧ w' = w := by
  have h := of_d (-9223372036854775808) (by omega) (by omega) w
  have e0 : wD (decide ((-9223372036854775808 : Int) < 0)) (zr double (-9223372036854775808)) = 14114281232179134464 := by decide +kernel
  have e1 : exqD (-9223372036854775808) = true := by decide +kernel
  rw [e0, e1] at h
  exact h

theorem k28 (w : World) : Calls Tryd.prog 21 #[.int .i64 9223372036854775807] w fun e w' => e = .returned (.tuple #[.float .f64 4890909195324358656, .bool false]) ∧ w' = w := by
  have h := of_d 9223372036854775807 (by omega) (by omega) w
  have e0 : wD (decide ((9223372036854775807 : Int) < 0)) (zr double 9223372036854775807) = 4890909195324358656 := by decide +kernel
  have e1 : exqD 9223372036854775807 = false := by decide +kernel
  rw [e0, e1] at h
  exact h

theorem k29 (w : World) : Calls Tryd.prog 22 #[.int .i64 9007199791611905] w fun e w' => e = .returned (.tuple #[.float .f32 1509949441, .bool false]) ∧ w' = w := by
  have h := of_s 9007199791611905 (by omega) (by omega) w
  have e0 : wS (decide ((9007199791611905 : Int) < 0)) (zr single 9007199791611905) = 1509949441 := by decide +kernel
  have e1 : exqS 9007199791611905 = false := by decide +kernel
  rw [e0, e1] at h
  exact h
end Go.Proofs.YtbdeppdjelcioaaDoor
