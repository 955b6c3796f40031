import Derived.Test.YthdnajcgdngmcaaGreatDoorKPMa
import Derived.Deep.CutRange
namespace Go.Proofs.YthdnajcgdngmcaaGreatDoor
open Go.RowKit
set_option linter.unusedVariables false
def minLo (L1 H1 L2 H2 : Int) : Int := if L1 = 9218868437227405312 ∨ L2 = 9218868437227405312 then 9218868437227405312 else min L1 L2
def minHi (L1 H1 L2 H2 : Int) : Int := if L1 = 9218868437227405312 ∨ L2 = 9218868437227405312 then -9218868437227405312 else min H1 H2
theorem minP9_ (a b c d : Nat) (L1 H1 L2 H2 : Int) (hx : Rd a b L1 H1) (hy : Rd c d L2 H2) (w : World) : Calls Tryz.prog 16 #[.agg #[.float .f64 a, .float .f64 b], .agg #[.float .f64 c, .float .f64 d]] w fun e w' => e = .returned (.agg #[.float .f64 (pw (minLo L1 H1 L2 H2)), .float .f64 (pw (minHi L1 H1 L2 H2))]) ∧ Kp w w' := by
  have v1 := fun w => voidP9_ L1 H1 hx.vd w
  have v2 := fun w => voidP9_ L2 H2 hy.vd w
  unfold minLo minHi
  by_cases c1 : L1 = 9218868437227405312
  · rw [decide_eq_true c1] at v1
    rw [if_pos (Or.inl c1), if_pos (Or.inl c1), pw_I, pw_MI]
    exact minv1_ a b c d _ _ _ _ hx.call hy.call v1 empty9_ w
  rw [decide_eq_false c1] at v1
  by_cases c2 : L2 = 9218868437227405312
  · rw [decide_eq_true c2] at v2
    rw [if_pos (Or.inr c2), if_pos (Or.inr c2), pw_I, pw_MI]
    exact minv2_ a b c d _ _ _ _ hx.call hy.call v1 v2 empty9_ w
  rw [decide_eq_false c2] at v2
  rw [if_neg (by omega), if_neg (by omega)]
  exact minn_ a b c d _ _ _ _ _ _ hx.call hy.call v1 v2 (min9_ L1 L2 hx.vd.lo hy.vd.lo) (min9_ H1 H2 hx.vd.hi hy.vd.hi) w
def maxLo (L1 H1 L2 H2 : Int) : Int := if L1 = 9218868437227405312 ∨ L2 = 9218868437227405312 then 9218868437227405312 else max L1 L2
def maxHi (L1 H1 L2 H2 : Int) : Int := if L1 = 9218868437227405312 ∨ L2 = 9218868437227405312 then -9218868437227405312 else max H1 H2
theorem maxP9_ (a b c d : Nat) (L1 H1 L2 H2 : Int) (hx : Rd a b L1 H1) (hy : Rd c d L2 H2) (w : World) : Calls Tryz.prog 26 #[.agg #[.float .f64 a, .float .f64 b], .agg #[.float .f64 c, .float .f64 d]] w fun e w' => e = .returned (.agg #[.float .f64 (pw (maxLo L1 H1 L2 H2)), .float .f64 (pw (maxHi L1 H1 L2 H2))]) ∧ Kp w w' := by
  have v1 := fun w => voidP9_ L1 H1 hx.vd w
  have v2 := fun w => voidP9_ L2 H2 hy.vd w
  unfold maxLo maxHi
  by_cases c1 : L1 = 9218868437227405312
  · rw [decide_eq_true c1] at v1
    rw [if_pos (Or.inl c1), if_pos (Or.inl c1), pw_I, pw_MI]
    exact maxv1_ a b c d _ _ _ _ hx.call hy.call v1 empty9_ w
  rw [decide_eq_false c1] at v1
  by_cases c2 : L2 = 9218868437227405312
  · rw [decide_eq_true c2] at v2
    rw [if_pos (Or.inr c2), if_pos (Or.inr c2), pw_I, pw_MI]
    exact maxv2_ a b c d _ _ _ _ hx.call hy.call v1 v2 empty9_ w
  rw [decide_eq_false c2] at v2
  rw [if_neg (by omega), if_neg (by omega)]
  exact maxn_ a b c d _ _ _ _ _ _ hx.call hy.call v1 v2 (max9_ L1 L2 hx.vd.lo hy.vd.lo) (max9_ H1 H2 hx.vd.hi hy.vd.hi) w
set_option linter.unusedVariables false
theorem eq7n (x : Nat) (h : (FloatKind.f64.format.order x x == some Ordering.eq) = true) (w : World) : (Op.equalIn 9999 22 (.float .f64 x) (.float .f64 x)).run Tryz.prog w = .ok true w := by
  have g := Fq.eqIn6 x x w
  rw [h] at g
  exact g
set_option maxRecDepth 20000 in
set_option maxHeartbeats 1000000 in
theorem of7P_ (x y : Nat) (w : World) : Calls Tryz.prog 9 #[.float .f64 x, .float .f64 y] w fun e w' => e = .returned (.agg #[.float .f64 x, .float .f64 y]) ∧ Kp w w' := by
  go_enter Tryz.func9, Tryz.ntmps9
  go_wp2
  exact bodyPost_ret (v := .agg #[.float .f64 x, .float .f64 y]) (by simp [results, Tryz.results9, go_sem]) rfl ⟨rfl, (Kp.refl w).alloc _⟩
set_option maxRecDepth 20000 in
set_option maxHeartbeats 4000000 in
theorem livesA_ (PP : Nat → Nat → Int → Nat → Nat → Prop) (PI : Nat → Nat → Nat → Nat → Nat → Nat → Nat → Prop) (PU : Nat → Nat → Nat → Nat → Nat → Prop) (hP : ∀ x1 x2 N z1 z2, PP x1 x2 N z1 z2 → ∀ w : World, TU7 w → Calls Tryz.prog 11 #[.agg #[.float .f64 x1, .float .f64 x2], .int .i64 N] w fun e w' => e = .returned (.agg #[.float .f64 z1, .float .f64 z2]) ∧ Kp w w') (hI : ∀ f x1 x2 y1 y2 z1 z2, PI f x1 x2 y1 y2 z1 z2 → ∀ w : World, TU7 w → Calls Tryz.prog f #[.agg #[.float .f64 x1, .float .f64 x2], .agg #[.float .f64 y1, .float .f64 y2]] w fun e w' => e = .returned (.agg #[.float .f64 z1, .float .f64 z2]) ∧ Kp w w') (hU : ∀ f x1 x2 z1 z2, PU f x1 x2 z1 z2 → ∀ w : World, TU7 w → Calls Tryz.prog f #[.agg #[.float .f64 x1, .float .f64 x2]] w fun e w' => e = .returned (.agg #[.float .f64 z1, .float .f64 z2]) ∧ Kp w w') (hof : ∀ (x y : Nat) (w : World), Calls Tryz.prog 9 #[.float .f64 x, .float .f64 y] w fun e w' => e = .returned (.agg #[.float .f64 x, .float .f64 y]) ∧ Kp w w') (fp0 : PP 13835058055282163712 4613937818241073152 (3) 13844065254536904704 4628293042053316608) (fi0 : PI 26 4607182418800017408 4616189618054758400 4611686018427387904 4613937818241073152 4611686018427387904 4616189618054758400) (fu0 : PU 25 13837309855095848960 4611686018427387904 0 4613937818241073152) (fu1 : PU 18 4602678819172646912 4612811918334230528 0 4611686018427387904) (w : World) (hTW : TU7 w) : Calls Tryz.prog 10 #[] w fun e w' => e = .returned (.bool true) ∧ Kp w w' := by
  have gq := Kp.refl w
  have e0 := eq7n 0 (by decide +kernel)
  have e4611686018427387904 := eq7n 4611686018427387904 (by decide +kernel)
  have e4613937818241073152 := eq7n 4613937818241073152 (by decide +kernel)
  have e4616189618054758400 := eq7n 4616189618054758400 (by decide +kernel)
  have e4628293042053316608 := eq7n 4628293042053316608 (by decide +kernel)
  have e13844065254536904704 := eq7n 13844065254536904704 (by decide +kernel)
  go_enter Tryz.func10, Tryz.ntmps10
  go_wp2_with (first | (go_at_call 11; refine (hP _ _ _ _ _ (by first | exact fp0) _ hTW).mono ?_; rintro e wx ⟨rfl, gx⟩; replace gq := Kp.trans gq gx; replace hTW := hTW.kp gx; clear gx) | (go_at_call 26; refine (hI 26 _ _ _ _ _ _ (by first | exact fi0) _ hTW).mono ?_; rintro e wx ⟨rfl, gx⟩; replace gq := Kp.trans gq gx; replace hTW := hTW.kp gx; clear gx) | (go_at_call 18; refine (hU 18 _ _ _ _ (by first | exact fu0 | exact fu1) _ hTW).mono ?_; rintro e wx ⟨rfl, gx⟩; replace gq := Kp.trans gq gx; replace hTW := hTW.kp gx; clear gx) | (go_at_call 25; refine (hU 25 _ _ _ _ (by first | exact fu0 | exact fu1) _ hTW).mono ?_; rintro e wx ⟨rfl, gx⟩; replace gq := Kp.trans gq gx; replace hTW := hTW.kp gx; clear gx) | (go_at_call 9; refine (hof _ _ _).mono ?_; rintro e wx ⟨rfl, gx⟩; replace gq := Kp.trans gq gx; replace hTW := hTW.kp gx; clear gx))
  exact bodyPost_ret (v := .bool true) (by simp [results, Tryz.results10, go_sem]) rfl ⟨rfl, gq⟩
set_option linter.unusedVariables false
theorem Rd.lit (a b : Nat) (L H : Int) (ea : pw L = a) (eb : pw H = b) (h : decide ((L = 9218868437227405312 ∧ H = -9218868437227405312) ∨ (-9218868437227405312 ≤ L ∧ L < 9218868437227405312 ∧ -9218868437227405312 < H ∧ H ≤ 9218868437227405312 ∧ L ≤ H)) = true) : Rd a b L H := by
  have v : VdZ L H := by unfold VdZ; exact of_decide_eq_true h
  have r := Rd.of v
  rw [ea, eb] at r
  exact r
theorem lvp0_ (w : World) (hT : TU7 w) : Calls Tryz.prog 11 #[.agg #[.float .f64 13835058055282163712, .float .f64 4613937818241073152], .int .i64 (3)] w fun e w' => e = .returned (.agg #[.float .f64 13844065254536904704, .float .f64 4628293042053316608]) ∧ Kp w w' := by
  have h := pown9_ 1074 rfl 13835058055282163712 4613937818241073152 (-4611686018427387904 : Int) (4613937818241073152 : Int) (3) (Rd.lit 13835058055282163712 4613937818241073152 (-4611686018427387904 : Int) (4613937818241073152 : Int) (by decide) (by decide) (by decide)) w hT
  rw [show pw (nLo 1074 (3) (-4611686018427387904 : Int) (4613937818241073152 : Int)) = 13844065254536904704 from by decide +kernel, show pw (nHi 1074 (3) (-4611686018427387904 : Int) (4613937818241073152 : Int)) = 4628293042053316608 from by decide +kernel] at h
  exact h
theorem lvi0_ (w : World) (hT : TU7 w) : Calls Tryz.prog 26 #[.agg #[.float .f64 4607182418800017408, .float .f64 4616189618054758400], .agg #[.float .f64 4611686018427387904, .float .f64 4613937818241073152]] w fun e w' => e = .returned (.agg #[.float .f64 4611686018427387904, .float .f64 4616189618054758400]) ∧ Kp w w' := by
  have h := maxP9_ 4607182418800017408 4616189618054758400 4611686018427387904 4613937818241073152 (4607182418800017408 : Int) (4616189618054758400 : Int) (4611686018427387904 : Int) (4613937818241073152 : Int) (Rd.lit 4607182418800017408 4616189618054758400 (4607182418800017408 : Int) (4616189618054758400 : Int) (by decide) (by decide) (by decide)) (Rd.lit 4611686018427387904 4613937818241073152 (4611686018427387904 : Int) (4613937818241073152 : Int) (by decide) (by decide) (by decide)) w
  rw [show pw (maxLo (4607182418800017408 : Int) (4616189618054758400 : Int) (4611686018427387904 : Int) (4613937818241073152 : Int)) = 4611686018427387904 from by decide +kernel, show pw (maxHi (4607182418800017408 : Int) (4616189618054758400 : Int) (4611686018427387904 : Int) (4613937818241073152 : Int)) = 4616189618054758400 from by decide +kernel] at h
  exact h
theorem lvu0_ (w : World) (hT : TU7 w) : Calls Tryz.prog 25 #[.agg #[.float .f64 13837309855095848960, .float .f64 4611686018427387904]] w fun e w' => e = .returned (.agg #[.float .f64 0, .float .f64 4613937818241073152]) ∧ Kp w w' := by
  have h := absP9_ 13837309855095848960 4611686018427387904 (-4613937818241073152 : Int) (4611686018427387904 : Int) (Rd.lit 13837309855095848960 4611686018427387904 (-4613937818241073152 : Int) (4611686018427387904 : Int) (by decide) (by decide) (by decide)) w
  rw [show pw (bsLo (-4613937818241073152 : Int) (4611686018427387904 : Int)) = 0 from by decide +kernel, show pw (bsHi (-4613937818241073152 : Int) (4611686018427387904 : Int)) = 4613937818241073152 from by decide +kernel] at h
  exact h
theorem lvu1_ (w : World) (hT : TU7 w) : Calls Tryz.prog 18 #[.agg #[.float .f64 4602678819172646912, .float .f64 4612811918334230528]] w fun e w' => e = .returned (.agg #[.float .f64 0, .float .f64 4611686018427387904]) ∧ Kp w w' := by
  have h := stepB4_ 1074 rfl 4602678819172646912 4612811918334230528 (4602678819172646912 : Int) (4612811918334230528 : Int) (Rd.lit 4602678819172646912 4612811918334230528 (4602678819172646912 : Int) (4612811918334230528 : Int) (by decide) (by decide) (by decide)) w
  rw [show pw (gLo 1074 4 (4602678819172646912 : Int) (4612811918334230528 : Int)) = 0 from by decide +kernel, show pw (gHi 1074 4 (4602678819172646912 : Int) (4612811918334230528 : Int)) = 4611686018427387904 from by decide +kernel] at h
  exact h
theorem lives7_ (w : World) (hT : TU7 w) : Calls Tryz.prog 10 #[] w fun e w' => e = .returned (.bool true) ∧ Kp w w' := livesA_ (fun x1 x2 N z1 z2 => ∀ w : World, TU7 w → Calls Tryz.prog 11 #[.agg #[.float .f64 x1, .float .f64 x2], .int .i64 N] w fun e w' => e = .returned (.agg #[.float .f64 z1, .float .f64 z2]) ∧ Kp w w') (fun f x1 x2 y1 y2 z1 z2 => ∀ w : World, TU7 w → Calls Tryz.prog f #[.agg #[.float .f64 x1, .float .f64 x2], .agg #[.float .f64 y1, .float .f64 y2]] w fun e w' => e = .returned (.agg #[.float .f64 z1, .float .f64 z2]) ∧ Kp w w') (fun f x1 x2 z1 z2 => ∀ w : World, TU7 w → Calls Tryz.prog f #[.agg #[.float .f64 x1, .float .f64 x2]] w fun e w' => e = .returned (.agg #[.float .f64 z1, .float .f64 z2]) ∧ Kp w w') (fun _ _ _ _ _ h => h) (fun _ _ _ _ _ _ _ h => h) (fun _ _ _ _ _ h => h) of7P_ lvp0_ lvi0_ lvu0_ lvu1_ w hT
end Go.Proofs.YthdnajcgdngmcaaGreatDoor
