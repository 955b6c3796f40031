import Derived.Test.YthdnajcgdngmcaaGreatDoorKWKc
namespace Go.Proofs.YthdnajcgdngmcaaGreatDoor
open Go.RowKit
set_option linter.unusedVariables false
theorem kvp0_ (w : World) (hT : TU7 w) : Calls Tryz.prog 11 #[.agg #[.float .f64 13835058055282163712, .float .f64 4613937818241073152], .int .i64 (2)] w fun e w' => e = .returned (.agg #[.float .f64 0, .float .f64 4621256167635550208]) ∧ Kp w w' := by
  have h := pown9_ 1074 rfl 13835058055282163712 4613937818241073152 (-4611686018427387904 : Int) (4613937818241073152 : Int) (2) (Rd.lit 13835058055282163712 4613937818241073152 (-4611686018427387904 : Int) (4613937818241073152 : Int) (by decide) (by decide) (by decide)) w hT
  rw [show pw (nLo 1074 (2) (-4611686018427387904 : Int) (4613937818241073152 : Int)) = 0 from by decide +kernel, show pw (nHi 1074 (2) (-4611686018427387904 : Int) (4613937818241073152 : Int)) = 4621256167635550208 from by decide +kernel] at h
  exact h
theorem kvp1_ (w : World) (hT : TU7 w) : Calls Tryz.prog 11 #[.agg #[.float .f64 18442240474082181120, .float .f64 9218868437227405312], .int .i64 (0)] w fun e w' => e = .returned (.agg #[.float .f64 4607182418800017408, .float .f64 4607182418800017408]) ∧ Kp w w' := by
  have h := pown9_ 1074 rfl 18442240474082181120 9218868437227405312 (-9218868437227405312 : Int) (9218868437227405312 : Int) (0) (Rd.lit 18442240474082181120 9218868437227405312 (-9218868437227405312 : Int) (9218868437227405312 : Int) (by decide) (by decide) (by decide)) w hT
  rw [show pw (nLo 1074 (0) (-9218868437227405312 : Int) (9218868437227405312 : Int)) = 4607182418800017408 from by decide +kernel, show pw (nHi 1074 (0) (-9218868437227405312 : Int) (9218868437227405312 : Int)) = 4607182418800017408 from by decide +kernel] at h
  exact h
theorem kvp2_ (w : World) (hT : TU7 w) : Calls Tryz.prog 11 #[.agg #[.float .f64 0, .float .f64 4616189618054758400], .int .i64 (-1)] w fun e w' => e = .returned (.agg #[.float .f64 4598175219545276416, .float .f64 9218868437227405312]) ∧ Kp w w' := by
  have h := pown9_ 1074 rfl 0 4616189618054758400 (0 : Int) (4616189618054758400 : Int) (-1) (Rd.lit 0 4616189618054758400 (0 : Int) (4616189618054758400 : Int) (by decide) (by decide) (by decide)) w hT
  rw [show pw (nLo 1074 (-1) (0 : Int) (4616189618054758400 : Int)) = 4598175219545276416 from by decide +kernel, show pw (nHi 1074 (-1) (0 : Int) (4616189618054758400 : Int)) = 9218868437227405312 from by decide +kernel] at h
  exact h
theorem kvp3_ (w : World) (hT : TU7 w) : Calls Tryz.prog 11 #[.agg #[.float .f64 13835058055282163712, .float .f64 4616189618054758400], .int .i64 (-2)] w fun e w' => e = .returned (.agg #[.float .f64 4589168020290535424, .float .f64 9218868437227405312]) ∧ Kp w w' := by
  have h := pown9_ 1074 rfl 13835058055282163712 4616189618054758400 (-4611686018427387904 : Int) (4616189618054758400 : Int) (-2) (Rd.lit 13835058055282163712 4616189618054758400 (-4611686018427387904 : Int) (4616189618054758400 : Int) (by decide) (by decide) (by decide)) w hT
  rw [show pw (nLo 1074 (-2) (-4611686018427387904 : Int) (4616189618054758400 : Int)) = 4589168020290535424 from by decide +kernel, show pw (nHi 1074 (-2) (-4611686018427387904 : Int) (4616189618054758400 : Int)) = 9218868437227405312 from by decide +kernel] at h
  exact h
theorem kvp4_ (w : World) (hT : TU7 w) : Calls Tryz.prog 11 #[.agg #[.float .f64 0, .float .f64 0], .int .i64 (-2)] w fun e w' => e = .returned (.agg #[.float .f64 9218868437227405312, .float .f64 18442240474082181120]) ∧ Kp w w' := by
  have h := pown9_ 1074 rfl 0 0 (0 : Int) (0 : Int) (-2) (Rd.lit 0 0 (0 : Int) (0 : Int) (by decide) (by decide) (by decide)) w hT
  rw [show pw (nLo 1074 (-2) (0 : Int) (0 : Int)) = 9218868437227405312 from by decide +kernel, show pw (nHi 1074 (-2) (0 : Int) (0 : Int)) = 18442240474082181120 from by decide +kernel] at h
  exact h
theorem kvp5_ (w : World) (hT : TU7 w) : Calls Tryz.prog 11 #[.agg #[.float .f64 13839561654909534208, .float .f64 0], .int .i64 (-3)] w fun e w' => e = .returned (.agg #[.float .f64 18442240474082181120, .float .f64 13803532857890570240]) ∧ Kp w w' := by
  have h := pown9_ 1074 rfl 13839561654909534208 0 (-4616189618054758400 : Int) (0 : Int) (-3) (Rd.lit 13839561654909534208 0 (-4616189618054758400 : Int) (0 : Int) (by decide) (by decide) (by decide)) w hT
  rw [show pw (nLo 1074 (-3) (-4616189618054758400 : Int) (0 : Int)) = 18442240474082181120 from by decide +kernel, show pw (nHi 1074 (-3) (-4616189618054758400 : Int) (0 : Int)) = 13803532857890570240 from by decide +kernel] at h
  exact h
theorem kvp6_ (w : World) (hT : TU7 w) : Calls Tryz.prog 11 #[.agg #[.float .f64 4611686018427387904, .float .f64 9218868437227405312], .int .i64 (-2)] w fun e w' => e = .returned (.agg #[.float .f64 0, .float .f64 4598175219545276416]) ∧ Kp w w' := by
  have h := pown9_ 1074 rfl 4611686018427387904 9218868437227405312 (4611686018427387904 : Int) (9218868437227405312 : Int) (-2) (Rd.lit 4611686018427387904 9218868437227405312 (4611686018427387904 : Int) (9218868437227405312 : Int) (by decide) (by decide) (by decide)) w hT
  rw [show pw (nLo 1074 (-2) (4611686018427387904 : Int) (9218868437227405312 : Int)) = 0 from by decide +kernel, show pw (nHi 1074 (-2) (4611686018427387904 : Int) (9218868437227405312 : Int)) = 4598175219545276416 from by decide +kernel] at h
  exact h
theorem kvp7_ (w : World) (hT : TU7 w) : Calls Tryz.prog 11 #[.agg #[.float .f64 4621819117588971520, .float .f64 4621819117588971520], .int .i64 (400)] w fun e w' => e = .returned (.agg #[.float .f64 9218868437227405311, .float .f64 9218868437227405312]) ∧ Kp w w' := by
  have h := pown9_ 1074 rfl 4621819117588971520 4621819117588971520 (4621819117588971520 : Int) (4621819117588971520 : Int) (400) (Rd.lit 4621819117588971520 4621819117588971520 (4621819117588971520 : Int) (4621819117588971520 : Int) (by decide) (by decide) (by decide)) w hT
  rw [show pw (nLo 1074 (400) (4621819117588971520 : Int) (4621819117588971520 : Int)) = 9218868437227405311 from by decide +kernel, show pw (nHi 1074 (400) (4621819117588971520 : Int) (4621819117588971520 : Int)) = 9218868437227405312 from by decide +kernel] at h
  exact h
theorem kvp8_ (w : World) (hT : TU7 w) : Calls Tryz.prog 11 #[.agg #[.float .f64 9223372036854775809, .float .f64 1], .int .i64 (3)] w fun e w' => e = .returned (.agg #[.float .f64 9223372036854775809, .float .f64 1]) ∧ Kp w w' := by
  have h := pown9_ 1074 rfl 9223372036854775809 1 (-1 : Int) (1 : Int) (3) (Rd.lit 9223372036854775809 1 (-1 : Int) (1 : Int) (by decide) (by decide) (by decide)) w hT
  rw [show pw (nLo 1074 (3) (-1 : Int) (1 : Int)) = 9223372036854775809 from by decide +kernel, show pw (nHi 1074 (3) (-1 : Int) (1 : Int)) = 1 from by decide +kernel] at h
  exact h
theorem kvp9_ (w : World) (hT : TU7 w) : Calls Tryz.prog 11 #[.agg #[.float .f64 4591870180066957722, .float .f64 4591870180066957722], .int .i64 (2)] w fun e w' => e = .returned (.agg #[.float .f64 4576918229304087675, .float .f64 4576918229304087676]) ∧ Kp w w' := by
  have h := pown9_ 1074 rfl 4591870180066957722 4591870180066957722 (4591870180066957722 : Int) (4591870180066957722 : Int) (2) (Rd.lit 4591870180066957722 4591870180066957722 (4591870180066957722 : Int) (4591870180066957722 : Int) (by decide) (by decide) (by decide)) w hT
  rw [show pw (nLo 1074 (2) (4591870180066957722 : Int) (4591870180066957722 : Int)) = 4576918229304087675 from by decide +kernel, show pw (nHi 1074 (2) (4591870180066957722 : Int) (4591870180066957722 : Int)) = 4576918229304087676 from by decide +kernel] at h
  exact h
theorem kvp10_ (w : World) (hT : TU7 w) : Calls Tryz.prog 11 #[.agg #[.float .f64 4607182418800017408, .float .f64 4611686018427387904], .int .i64 (1025)] w fun e w' => e = .returned (.agg #[.float .f64 18442240474082181120, .float .f64 9218868437227405312]) ∧ Kp w w' := by
  have h := pown9_ 1074 rfl 4607182418800017408 4611686018427387904 (4607182418800017408 : Int) (4611686018427387904 : Int) (1025) (Rd.lit 4607182418800017408 4611686018427387904 (4607182418800017408 : Int) (4611686018427387904 : Int) (by decide) (by decide) (by decide)) w hT
  rw [show pw (nLo 1074 (1025) (4607182418800017408 : Int) (4611686018427387904 : Int)) = 18442240474082181120 from by decide +kernel, show pw (nHi 1074 (1025) (4607182418800017408 : Int) (4611686018427387904 : Int)) = 9218868437227405312 from by decide +kernel] at h
  exact h
theorem kvp11_ (w : World) (hT : TU7 w) : Calls Tryz.prog 11 #[.agg #[.float .f64 9218868437227405312, .float .f64 18442240474082181120], .int .i64 (1025)] w fun e w' => e = .returned (.agg #[.float .f64 9218868437227405312, .float .f64 18442240474082181120]) ∧ Kp w w' := by
  have h := pown9_ 1074 rfl 9218868437227405312 18442240474082181120 (9218868437227405312 : Int) (-9218868437227405312 : Int) (1025) (Rd.lit 9218868437227405312 18442240474082181120 (9218868437227405312 : Int) (-9218868437227405312 : Int) (by decide) (by decide) (by decide)) w hT
  rw [show pw (nLo 1074 (1025) (9218868437227405312 : Int) (-9218868437227405312 : Int)) = 9218868437227405312 from by decide +kernel, show pw (nHi 1074 (1025) (9218868437227405312 : Int) (-9218868437227405312 : Int)) = 18442240474082181120 from by decide +kernel] at h
  exact h
theorem kvi0_ (w : World) (hT : TU7 w) : Calls Tryz.prog 16 #[.agg #[.float .f64 4607182418800017408, .float .f64 4616189618054758400], .agg #[.float .f64 4611686018427387904, .float .f64 4613937818241073152]] w fun e w' => e = .returned (.agg #[.float .f64 4607182418800017408, .float .f64 4613937818241073152]) ∧ Kp w w' := by
  have h := minP9_ 4607182418800017408 4616189618054758400 4611686018427387904 4613937818241073152 (4607182418800017408 : Int) (4616189618054758400 : Int) (4611686018427387904 : Int) (4613937818241073152 : Int) (Rd.lit 4607182418800017408 4616189618054758400 (4607182418800017408 : Int) (4616189618054758400 : Int) (by decide) (by decide) (by decide)) (Rd.lit 4611686018427387904 4613937818241073152 (4611686018427387904 : Int) (4613937818241073152 : Int) (by decide) (by decide) (by decide)) w
  rw [show pw (minLo (4607182418800017408 : Int) (4616189618054758400 : Int) (4611686018427387904 : Int) (4613937818241073152 : Int)) = 4607182418800017408 from by decide +kernel, show pw (minHi (4607182418800017408 : Int) (4616189618054758400 : Int) (4611686018427387904 : Int) (4613937818241073152 : Int)) = 4613937818241073152 from by decide +kernel] at h
  exact h
theorem kvu0_ (w : World) (hT : TU7 w) : Calls Tryz.prog 12 #[.agg #[.float .f64 0, .float .f64 9218868437227405312]] w fun e w' => e = .returned (.agg #[.float .f64 0, .float .f64 4607182418800017408]) ∧ Kp w w' := by
  have h := stepB0_ 1074 rfl 0 9218868437227405312 (0 : Int) (9218868437227405312 : Int) (Rd.lit 0 9218868437227405312 (0 : Int) (9218868437227405312 : Int) (by decide) (by decide) (by decide)) w
  rw [show pw (gLo 1074 0 (0 : Int) (9218868437227405312 : Int)) = 0 from by decide +kernel, show pw (gHi 1074 0 (0 : Int) (9218868437227405312 : Int)) = 4607182418800017408 from by decide +kernel] at h
  exact h
theorem kvu1_ (w : World) (hT : TU7 w) : Calls Tryz.prog 13 #[.agg #[.float .f64 13826050856027422720, .float .f64 4609434218613702656]] w fun e w' => e = .returned (.agg #[.float .f64 13830554455654793216, .float .f64 4607182418800017408]) ∧ Kp w w' := by
  have h := stepB1_ 1074 rfl 13826050856027422720 4609434218613702656 (-4602678819172646912 : Int) (4609434218613702656 : Int) (Rd.lit 13826050856027422720 4609434218613702656 (-4602678819172646912 : Int) (4609434218613702656 : Int) (by decide) (by decide) (by decide)) w
  rw [show pw (gLo 1074 1 (-4602678819172646912 : Int) (4609434218613702656 : Int)) = 13830554455654793216 from by decide +kernel, show pw (gHi 1074 1 (-4602678819172646912 : Int) (4609434218613702656 : Int)) = 4607182418800017408 from by decide +kernel] at h
  exact h
theorem kvu2_ (w : World) (hT : TU7 w) : Calls Tryz.prog 14 #[.agg #[.float .f64 13826050856027422720, .float .f64 4609434218613702656]] w fun e w' => e = .returned (.agg #[.float .f64 0, .float .f64 4611686018427387904]) ∧ Kp w w' := by
  have h := stepB2_ 1074 rfl 13826050856027422720 4609434218613702656 (-4602678819172646912 : Int) (4609434218613702656 : Int) (Rd.lit 13826050856027422720 4609434218613702656 (-4602678819172646912 : Int) (4609434218613702656 : Int) (by decide) (by decide) (by decide)) w
  rw [show pw (gLo 1074 2 (-4602678819172646912 : Int) (4609434218613702656 : Int)) = 0 from by decide +kernel, show pw (gHi 1074 2 (-4602678819172646912 : Int) (4609434218613702656 : Int)) = 4611686018427387904 from by decide +kernel] at h
  exact h
theorem kvu3_ (w : World) (hT : TU7 w) : Calls Tryz.prog 15 #[.agg #[.float .f64 13832806255468478464, .float .f64 4609434218613702656]] w fun e w' => e = .returned (.agg #[.float .f64 13830554455654793216, .float .f64 4607182418800017408]) ∧ Kp w w' := by
  have h := stepB3_ 1074 rfl 13832806255468478464 4609434218613702656 (-4609434218613702656 : Int) (4609434218613702656 : Int) (Rd.lit 13832806255468478464 4609434218613702656 (-4609434218613702656 : Int) (4609434218613702656 : Int) (by decide) (by decide) (by decide)) w
  rw [show pw (gLo 1074 3 (-4609434218613702656 : Int) (4609434218613702656 : Int)) = 13830554455654793216 from by decide +kernel, show pw (gHi 1074 3 (-4609434218613702656 : Int) (4609434218613702656 : Int)) = 4607182418800017408 from by decide +kernel] at h
  exact h
theorem kvu4_ (w : World) (hT : TU7 w) : Calls Tryz.prog 17 #[.agg #[.float .f64 4602678819172646912, .float .f64 4612811918334230528]] w fun e w' => e = .returned (.agg #[.float .f64 4607182418800017408, .float .f64 4613937818241073152]) ∧ Kp w w' := by
  have h := stepB5_ 1074 rfl 4602678819172646912 4612811918334230528 (4602678819172646912 : Int) (4612811918334230528 : Int) (Rd.lit 4602678819172646912 4612811918334230528 (4602678819172646912 : Int) (4612811918334230528 : Int) (by decide) (by decide) (by decide)) w
  rw [show pw (gLo 1074 5 (4602678819172646912 : Int) (4612811918334230528 : Int)) = 4607182418800017408 from by decide +kernel, show pw (gHi 1074 5 (4602678819172646912 : Int) (4612811918334230528 : Int)) = 4613937818241073152 from by decide +kernel] at h
  exact h
theorem kvu5_ (w : World) (hT : TU7 w) : Calls Tryz.prog 17 #[.agg #[.float .f64 4602678819172646911, .float .f64 4602678819172646911]] w fun e w' => e = .returned (.agg #[.float .f64 0, .float .f64 0]) ∧ Kp w w' := by
  have h := stepB5_ 1074 rfl 4602678819172646911 4602678819172646911 (4602678819172646911 : Int) (4602678819172646911 : Int) (Rd.lit 4602678819172646911 4602678819172646911 (4602678819172646911 : Int) (4602678819172646911 : Int) (by decide) (by decide) (by decide)) w
  rw [show pw (gLo 1074 5 (4602678819172646911 : Int) (4602678819172646911 : Int)) = 0 from by decide +kernel, show pw (gHi 1074 5 (4602678819172646911 : Int) (4602678819172646911 : Int)) = 0 from by decide +kernel] at h
  exact h
theorem kvu6_ (w : World) (hT : TU7 w) : Calls Tryz.prog 18 #[.agg #[.float .f64 9218868437227405311, .float .f64 9218868437227405312]] w fun e w' => e = .returned (.agg #[.float .f64 9218868437227405311, .float .f64 9218868437227405312]) ∧ Kp w w' := by
  have h := stepB4_ 1074 rfl 9218868437227405311 9218868437227405312 (9218868437227405311 : Int) (9218868437227405312 : Int) (Rd.lit 9218868437227405311 9218868437227405312 (9218868437227405311 : Int) (9218868437227405312 : Int) (by decide) (by decide) (by decide)) w
  rw [show pw (gLo 1074 4 (9218868437227405311 : Int) (9218868437227405312 : Int)) = 9218868437227405311 from by decide +kernel, show pw (gHi 1074 4 (9218868437227405311 : Int) (9218868437227405312 : Int)) = 9218868437227405312 from by decide +kernel] at h
  exact h
theorem pknown_ (w : World) (hT : Tab w) (hQ : Fq.Tab w) : Calls Tryz.prog 3 #[] w fun e w' => e = .returned (.bool true) ∧ Kp w w' := known7A_ (fun x1 x2 N z1 z2 => ∀ w : World, TU7 w → Calls Tryz.prog 11 #[.agg #[.float .f64 x1, .float .f64 x2], .int .i64 N] w fun e w' => e = .returned (.agg #[.float .f64 z1, .float .f64 z2]) ∧ Kp w w') (fun f x1 x2 y1 y2 z1 z2 => ∀ w : World, TU7 w → Calls Tryz.prog f #[.agg #[.float .f64 x1, .float .f64 x2], .agg #[.float .f64 y1, .float .f64 y2]] w fun e w' => e = .returned (.agg #[.float .f64 z1, .float .f64 z2]) ∧ Kp w w') (fun f x1 x2 z1 z2 => ∀ w : World, TU7 w → Calls Tryz.prog f #[.agg #[.float .f64 x1, .float .f64 x2]] w fun e w' => e = .returned (.agg #[.float .f64 z1, .float .f64 z2]) ∧ Kp w w') (fun _ _ _ _ _ h => h) (fun _ _ _ _ _ _ _ h => h) (fun _ _ _ _ _ h => h) of7P_ lives7_ kvp0_ kvp1_ kvp2_ kvp3_ kvp4_ kvp5_ kvp6_ kvp7_ kvp8_ kvp9_ kvp10_ kvp11_ kvi0_ kvu0_ kvu1_ kvu2_ kvu3_ kvu4_ kvu5_ kvu6_ w ⟨hT, hQ⟩
end Go.Proofs.YthdnajcgdngmcaaGreatDoor
