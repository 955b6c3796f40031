import Derived.Test.YtgkdncjdekjkpaaDoorProg
import Derived.Test.YtgkdncjdekjkpaaDoorKA
import Derived.Test.YtgkdncjdekjkpaaDoorKA2
import Derived.Test.YtgkdncjdekjkpaaDoorKXM
import Derived.Test.YtgkdncjdekjkpaaDoorKXY
import Derived.Test.YtgkdncjdekjkpaaDoorKFM
import Derived.Test.YtgkdncjdekjkpaaDoorKFA
import Derived.Test.YtgkdncjdekjkpaaDoorKFP
import Derived.Test.YtgkdncjdekjkpaaDoorKXU
import Derived.Test.YtgkdncjdekjkpaaDoorKXF
import Derived.Test.YtgkdncjdekjkpaaDoorKFB
import Derived.Test.YtgkdncjdekjkpaaDoorKFBT
import Derived.Test.YtgkdncjdekjkpaaDoorKXJ
import Derived.WalkKit
import Derived.ProofKit
import Derived.RowKit3
import Derived.WalkSpells
import Derived.StillTactics
import Derived.Deep.QuietTactic
import Derived.BigQuiet
import Derived.Below
import Derived.Deep.OwnRows
import Derived.Laws.BitsAllLaws
import Derived.Laws.Slices
import Derived.Laws.Bits64b
import Derived.Laws.FloatArith
namespace Go.Proofs.YtgkdncjdekjkpaaDoor
open Go.RowKit
set_option maxRecDepth 20000 in
set_option maxHeartbeats 400000 in
theorem minf_ (neg : Bool) (w : World) : Calls Tryd.prog 58 #[.int .i64 (if neg = true then -1 else 1)] w fun e w' => e = .returned (.float .f64 (Fb.wD neg 9218868437227405312)) ∧ w' = w := by
  have h1 : ∀ w : World, (callFunc 38 #[.int .u64 18442240474082181120]).run Tryd.prog w = .ok (.value (.float .f64 18442240474082181120)) w := fun w => Fb.ff64 18442240474082181120 w
  have h2 : ∀ w : World, (callFunc 38 #[.int .u64 9218868437227405312]).run Tryd.prog w = .ok (.value (.float .f64 9218868437227405312)) w := fun w => Fb.ff64 9218868437227405312 w
  cases neg
  · go_enter Tryd.func58, Tryd.ntmps58
    go_wp2
    exact bodyPost_ret (v := .float .f64 9218868437227405312) (by simp [results, Tryd.results58, go_sem]) rfl ⟨rfl, rfl⟩
  · go_enter Tryd.func58, Tryd.ntmps58
    go_wp2
    exact bodyPost_ret (v := .float .f64 18442240474082181120) (by simp [results, Tryd.results58, go_sem]) rfl ⟨rfl, rfl⟩
set_option maxRecDepth 20000 in
set_option maxHeartbeats 400000 in
theorem infD_false (w : World) : Calls Tryd.prog 33 #[.bool false] w fun e w' => e = .returned (.float .f64 (Fb.wD false 9218868437227405312)) ∧ w' = w := by
  have h := minf_ false w
  have h' : Calls Tryd.prog 58 #[.int .i64 (1)] w fun e w' => e = .returned (.float .f64 9218868437227405312) ∧ w' = w := h
  clear h
  go_enter Tryd.func33, Tryd.ntmps33
  go_wp2_with fail
  refine h'.mono ?_; rintro e w' ⟨rfl, hw'⟩; obtain rfl := hw'.symm; clear h' hw'
  go_wp2
  exact bodyPost_ret (v := .float .f64 9218868437227405312) (by simp [results, Tryd.results33, go_sem]) rfl ⟨rfl, rfl⟩
set_option maxRecDepth 20000 in
set_option maxHeartbeats 400000 in
theorem infD_true (w : World) : Calls Tryd.prog 33 #[.bool true] w fun e w' => e = .returned (.float .f64 (Fb.wD true 9218868437227405312)) ∧ w' = w := by
  have h := minf_ true w
  have h' : Calls Tryd.prog 58 #[.int .i64 (-1)] w fun e w' => e = .returned (.float .f64 18442240474082181120) ∧ w' = w := h
  clear h
  go_enter Tryd.func33, Tryd.ntmps33
  go_wp2_with fail
  refine h'.mono ?_; rintro e w' ⟨rfl, hw'⟩; obtain rfl := hw'.symm; clear h' hw'
  go_wp2
  exact bodyPost_ret (v := .float .f64 18442240474082181120) (by simp [results, Tryd.results33, go_sem]) rfl ⟨rfl, rfl⟩
theorem infD_ (neg : Bool) (w : World) : Calls Tryd.prog 33 #[.bool neg] w fun e w' => e = .returned (.float .f64 (Fb.wD neg 9218868437227405312)) ∧ w' = w := by
  cases neg
  · exact infD_false w
  · exact infD_true w
set_option maxRecDepth 20000 in
set_option maxHeartbeats 400000 in
theorem greDp_ (neg : Bool) (w : World) : Calls Tryd.prog 51 #[.bool neg] w fun e w' => e = .returned (.float .f64 (Fb.wD neg 9218868437227405311)) ∧ Grown w w' := by
  have h := infD_ neg w
  obtain ⟨Z, hZ⟩ : ∃ Z, Z = Fb.wD neg 9218868437227405312 := ⟨_, rfl⟩
  obtain ⟨Y, hY⟩ : ∃ Y, Y = Fb.wD neg 9218868437227405311 := ⟨_, rfl⟩
  cases neg
  · have hd := Fb.dn_d false 9218868437227405312 (by decide) (by decide) w
    rw [show Fb.fD (Fb.plz false 9218868437227405312 - 1) = Fb.wD false 9218868437227405311 from rfl, ← hZ, ← hY] at hd
    rw [← hZ] at h
    rw [← hY]
    clear hZ hY
    go_enter Tryd.func51, Tryd.ntmps51
    go_wp2_with fail
    refine h.mono ?_; rintro e w' ⟨rfl, hw'⟩; obtain rfl := hw'.symm; clear h hw'
    go_wp2_with fail
    refine hd.mono ?_; rintro e w1 ⟨rfl, hk⟩; clear hd
    go_wp2
    exact bodyPost_ret (v := .float .f64 Y) (by simp [results, Tryd.results51, go_sem]) rfl ⟨rfl, hk⟩
  · have hd := Fb.up_d true 9218868437227405312 (by decide) (by decide) w
    rw [show Fb.fD (Fb.plz true 9218868437227405312 + 1) = Fb.wD true 9218868437227405311 from rfl, ← hZ, ← hY] at hd
    rw [← hZ] at h
    rw [← hY]
    clear hZ hY
    go_enter Tryd.func51, Tryd.ntmps51
    go_wp2_with fail
    refine h.mono ?_; rintro e w' ⟨rfl, hw'⟩; obtain rfl := hw'.symm; clear h hw'
    go_wp2_with fail
    refine hd.mono ?_; rintro e w1 ⟨rfl, hk⟩; clear hd
    go_wp2
    exact bodyPost_ret (v := .float .f64 Y) (by simp [results, Tryd.results51, go_sem]) rfl ⟨rfl, hk⟩
set_option maxRecDepth 20000 in
set_option maxHeartbeats 400000 in
theorem fmtD_ (w : World) : Calls Tryd.prog 47 #[] w fun e w' => e = .returned (.tuple #[.int .i64 53, .int .i64 (-1074)]) ∧ Grown w w' := by
  have h1 := Fb.split_d false 4607182418800017408 (by decide)
  have h0 := Fb.split_d false 0 (by decide)
  rw [show Fb.wD false 4607182418800017408 = 4607182418800017408 from rfl, show (false && !(4607182418800017408 == 0)) = false from rfl, show (((Fb.sgD 4607182418800017408 : Nat) : Int)) = 4503599627370496 from by decide +kernel] at h1
  rw [show Fb.wD false 0 = 0 from rfl, show (false && !(0 == 0)) = false from rfl, show Fb.epD 0 = -1074 from by decide +kernel] at h0
  obtain ⟨e1, he1⟩ : ∃ e1, e1 = Fb.epD 4607182418800017408 := ⟨_, rfl⟩
  obtain ⟨s0, hs0⟩ : ∃ s0 : Int, s0 = ((Fb.sgD 0 : Nat) : Int) := ⟨_, rfl⟩
  rw [← he1] at h1
  rw [← hs0] at h0
  have hl := Fb.len64_ 4503599627370496 (by decide) (by decide)
  rw [show ((Lib.bitLen (4503599627370496 : Int).toNat : Nat) : Int) = 53 from by decide +kernel] at hl
  have c1 : floatOfInt .f64 1 = 4607182418800017408 := by decide +kernel
  have c0 : floatOfInt .f64 0 = 0 := by decide +kernel
  clear he1 hs0
  go_enter Tryd.func47, Tryd.ntmps47
  go_wp2_with fail
  refine (h1 _).mono ?_; rintro e w1 ⟨rfl, hk⟩; clear h1
  go_wp2_with fail
  refine (h0 _).mono ?_; rintro e w2 ⟨rfl, hk2⟩; clear h0
  have hk3 := Fb.gtrans hk hk2
  have hl2 := hl w2
  clear hl hk hk2
  go_wp2_with fail
  refine hl2.mono ?_; rintro e w' ⟨rfl, hw'⟩; obtain rfl := hw'.symm; clear hl2 hw'
  go_wp2
  exact bodyPost_ret (v := .tuple #[.int .i64 53, .int .i64 (-1074)]) (by simp [results, Tryd.results47, go_sem]) rfl ⟨rfl, hk3⟩
set_option maxRecDepth 20000 in
set_option maxHeartbeats 400000 in
theorem infS_false (w : World) : Calls Tryd.prog 70 #[.bool false] w fun e w' => e = .returned (.float .f32 (Fb.wS false 2139095040)) ∧ w' = w := by
  have h := minf_ false w
  have h' : Calls Tryd.prog 58 #[.int .i64 (1)] w fun e w' => e = .returned (.float .f64 9218868437227405312) ∧ w' = w := h
  clear h
  have hcv : ∀ w : World, (convert 31 38 (.float .f64 9218868437227405312)).run Tryd.prog w = .ok (.float .f32 2139095040) w := fun w => by kernel_rfl
  go_enter Tryd.func70, Tryd.ntmps70
  go_wp2_with fail
  refine h'.mono ?_; rintro e w' ⟨rfl, hw'⟩; obtain rfl := hw'.symm; clear h' hw'
  go_wp2
  exact bodyPost_ret (v := .float .f32 2139095040) (by simp [results, Tryd.results70, go_sem]) rfl ⟨rfl, rfl⟩
set_option maxRecDepth 20000 in
set_option maxHeartbeats 400000 in
theorem infS_true (w : World) : Calls Tryd.prog 70 #[.bool true] w fun e w' => e = .returned (.float .f32 (Fb.wS true 2139095040)) ∧ w' = w := by
  have h := minf_ true w
  have h' : Calls Tryd.prog 58 #[.int .i64 (-1)] w fun e w' => e = .returned (.float .f64 18442240474082181120) ∧ w' = w := h
  clear h
  have hcv : ∀ w : World, (convert 31 38 (.float .f64 18442240474082181120)).run Tryd.prog w = .ok (.float .f32 4286578688) w := fun w => by kernel_rfl
  go_enter Tryd.func70, Tryd.ntmps70
  go_wp2_with fail
  refine h'.mono ?_; rintro e w' ⟨rfl, hw'⟩; obtain rfl := hw'.symm; clear h' hw'
  go_wp2
  exact bodyPost_ret (v := .float .f32 4286578688) (by simp [results, Tryd.results70, go_sem]) rfl ⟨rfl, rfl⟩
theorem infS_ (neg : Bool) (w : World) : Calls Tryd.prog 70 #[.bool neg] w fun e w' => e = .returned (.float .f32 (Fb.wS neg 2139095040)) ∧ w' = w := by
  cases neg
  · exact infS_false w
  · exact infS_true w
set_option maxRecDepth 20000 in
set_option maxHeartbeats 400000 in
theorem greSp_ (neg : Bool) (w : World) : Calls Tryd.prog 69 #[.bool neg] w fun e w' => e = .returned (.float .f32 (Fb.wS neg 2139095039)) ∧ Grown w w' := by
  have h := infS_ neg w
  obtain ⟨Z, hZ⟩ : ∃ Z, Z = Fb.wS neg 2139095040 := ⟨_, rfl⟩
  obtain ⟨Y, hY⟩ : ∃ Y, Y = Fb.wS neg 2139095039 := ⟨_, rfl⟩
  cases neg
  · have hd := Fb.dn_s false 2139095040 (by decide) (by decide) w
    rw [show Fb.fS (Fb.plz false 2139095040 - 1) = Fb.wS false 2139095039 from rfl, ← hZ, ← hY] at hd
    rw [← hZ] at h
    rw [← hY]
    clear hZ hY
    go_enter Tryd.func69, Tryd.ntmps69
    go_wp2_with fail
    refine h.mono ?_; rintro e w' ⟨rfl, hw'⟩; obtain rfl := hw'.symm; clear h hw'
    go_wp2_with fail
    refine hd.mono ?_; rintro e w1 ⟨rfl, hk⟩; clear hd
    go_wp2
    exact bodyPost_ret (v := .float .f32 Y) (by simp [results, Tryd.results69, go_sem]) rfl ⟨rfl, hk⟩
  · have hd := Fb.up_s true 2139095040 (by decide) (by decide) w
    rw [show Fb.fS (Fb.plz true 2139095040 + 1) = Fb.wS true 2139095039 from rfl, ← hZ, ← hY] at hd
    rw [← hZ] at h
    rw [← hY]
    clear hZ hY
    go_enter Tryd.func69, Tryd.ntmps69
    go_wp2_with fail
    refine h.mono ?_; rintro e w' ⟨rfl, hw'⟩; obtain rfl := hw'.symm; clear h hw'
    go_wp2_with fail
    refine hd.mono ?_; rintro e w1 ⟨rfl, hk⟩; clear hd
    go_wp2
    exact bodyPost_ret (v := .float .f32 Y) (by simp [results, Tryd.results69, go_sem]) rfl ⟨rfl, hk⟩
set_option maxRecDepth 20000 in
set_option maxHeartbeats 400000 in
theorem fmtS_ (w : World) : Calls Tryd.prog 67 #[] w fun e w' => e = .returned (.tuple #[.int .i64 24, .int .i64 (-149)]) ∧ Grown w w' := by
  have h1 := Fb.split_s false 1065353216 (by decide)
  have h0 := Fb.split_s false 0 (by decide)
  rw [show Fb.wS false 1065353216 = 1065353216 from rfl, show (false && !(1065353216 == 0)) = false from rfl, show (((Fb.sgS 1065353216 : Nat) : Int)) = 8388608 from by decide +kernel] at h1
  rw [show Fb.wS false 0 = 0 from rfl, show (false && !(0 == 0)) = false from rfl, show Fb.epS 0 = -149 from by decide +kernel] at h0
  obtain ⟨e1, he1⟩ : ∃ e1, e1 = Fb.epS 1065353216 := ⟨_, rfl⟩
  obtain ⟨s0, hs0⟩ : ∃ s0 : Int, s0 = ((Fb.sgS 0 : Nat) : Int) := ⟨_, rfl⟩
  rw [← he1] at h1
  rw [← hs0] at h0
  have hl := Fb.len64_ 8388608 (by decide) (by decide)
  rw [show ((Lib.bitLen (8388608 : Int).toNat : Nat) : Int) = 24 from by decide +kernel] at hl
  have c1 : floatOfInt .f32 1 = 1065353216 := by decide +kernel
  have c0 : floatOfInt .f32 0 = 0 := by decide +kernel
  clear he1 hs0
  go_enter Tryd.func67, Tryd.ntmps67
  go_wp2_with fail
  refine (h1 _).mono ?_; rintro e w1 ⟨rfl, hk⟩; clear h1
  go_wp2_with fail
  refine (h0 _).mono ?_; rintro e w2 ⟨rfl, hk2⟩; clear h0
  have hk3 := Fb.gtrans hk hk2
  have hl2 := hl w2
  clear hl hk hk2
  go_wp2_with fail
  refine hl2.mono ?_; rintro e w' ⟨rfl, hw'⟩; obtain rfl := hw'.symm; clear hl2 hw'
  go_wp2
  exact bodyPost_ret (v := .tuple #[.int .i64 24, .int .i64 (-149)]) (by simp [results, Tryd.results67, go_sem]) rfl ⟨rfl, hk3⟩
end Go.Proofs.YtgkdncjdekjkpaaDoor
