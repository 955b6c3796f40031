import Derived.Test.YtgiffpohngaonaaGreatDoorProg
import Derived.Test.YtgiffpohngaonaaGreatDoorKXA0
import Derived.Test.YtgiffpohngaonaaGreatDoorKXM
import Derived.Test.YtgiffpohngaonaaGreatDoorKXY
import Derived.Test.YtgiffpohngaonaaGreatDoorKXQF
import Derived.Test.YtgiffpohngaonaaGreatDoorKQA
import Derived.Test.YtgiffpohngaonaaGreatDoorKQP
import Derived.Test.YtgiffpohngaonaaGreatDoorKXQU
import Derived.Test.YtgiffpohngaonaaGreatDoorKQB
import Derived.Test.YtgiffpohngaonaaGreatDoorKQBT
import Derived.Test.YtgiffpohngaonaaGreatDoorKXQJ
import Derived.Test.YtgiffpohngaonaaGreatDoorKXMR
import Derived.Test.YtgiffpohngaonaaGreatDoorKXG1
import Derived.WalkKit
import Derived.ProofKit
import Derived.RowKit3
import Derived.WalkSpells
import Derived.StillTactics
import Derived.Deep.QuietTactic
import Derived.BigQuiet
import Derived.Below
import Derived.Deep.OwnRows
import Derived.Laws.BitsAllLaws
import Derived.Laws.Slices
import Derived.Laws.Bits64b
import Derived.Laws.FloatArith
namespace Go.Proofs.YtgiffpohngaonaaGreatDoor
open Go.RowKit
theorem noTop (n : Bool) (m X : Nat) (hm : m < 9223372036854775808) (hX : X = Fq.wD n m) : bits BinOp.andNot IntKind.u64 (X : Int) 9223372036854775808 = (m : Int) ∧ X < 18446744073709551616 := by
  have hX9 : X < 18446744073709551616 := by rw [hX]; unfold Fq.wD; split <;> omega
  have h := u64_andNot_nat X 9223372036854775808 hX9 (by decide)
  have e : X % 9223372036854775808 = m := by rw [hX]; unfold Fq.wD; split <;> omega
  rw [show 18446744073709551615 - 9223372036854775808 = 2 ^ 63 - 1 from by decide, Nat.and_two_pow_sub_one_eq_mod, show (2 : Nat) ^ 63 = 9223372036854775808 from by decide, e] at h
  exact ⟨h, hX9⟩
set_option maxRecDepth 20000 in
set_option maxHeartbeats 400000 in
theorem fl_ (X : Nat) (w : World) : Calls Tryz.prog 4 #[.int .u64 (X : Int)] w fun e w' => e = .returned (.float .f64 X) ∧ w' = w := by
  have h := Fq.ff64 X
  go_enter Tryz.func4, Tryz.ntmps4
  go_wp2
  exact bodyPost_ret (v := .float .f64 X) (by simp [results, Tryz.results4, go_sem]) rfl ⟨rfl, rfl⟩
set_option maxRecDepth 20000 in
set_option maxHeartbeats 400000 in
theorem abs_ (n : Bool) (m : Nat) (hm : m < 9223372036854775808) (w : World) : Calls Tryz.prog 35 #[.float .f64 (Fq.wD n m)] w fun e w' => e = .returned (.float .f64 m) ∧ w' = w := by
  obtain ⟨X, hX⟩ : ∃ X, X = Fq.wD n m := ⟨_, rfl⟩
  have f1 := (noTop n m X hm hX).1
  rw [← hX]
  clear hX hm
  have h1 := Fq.fb64 X
  have h2 := Fq.ff64 m
  go_enter Tryz.func35, Tryz.ntmps35
  go_wp2
  exact bodyPost_ret (v := .float .f64 m) (by simp [results, Tryz.results35, go_sem]) rfl ⟨rfl, rfl⟩
open Ieee in
theorem fin_order (m : Nat) (hm : m < 9223372036854775808) : (FloatKind.f64.format.order m 9218868437227405311 == some Ordering.lt || FloatKind.f64.format.order m 9218868437227405311 == some Ordering.eq) = decide (m < 9218868437227405312) := by
  have hf : FloatKind.f64.format = double := rfl
  have hi : double.infRung = 9218868437227405312 := by decide +kernel
  have hw : double.signWeight = 9223372036854775808 := by decide +kernel
  have hb : double.binade ≤ double.infRung := by decide +kernel
  have r1 : Fq.rg double m = m := by unfold Fq.rg; rw [hw]; exact Nat.mod_eq_of_lt hm
  have r2 : Fq.rg double 9218868437227405311 = 9218868437227405311 := by unfold Fq.rg; rw [hw]
  have p1 : Fq.pl double m = (m : Int) := by
    unfold Fq.pl Fq.ng
    rw [r1, hw, Nat.div_eq_of_lt hm]; rfl
  have p2 : Fq.pl double 9218868437227405311 = 9218868437227405311 := by
    unfold Fq.pl Fq.ng
    rw [r2, hw]; rfl
  rw [hf]
  by_cases c : m ≤ 9218868437227405312
  · rw [Fq.order_num double m 9218868437227405311 hb (by rw [r1, hi]; exact c) (by rw [r2, hi]; decide), p1, p2]
    by_cases c1 : m < 9218868437227405312
    · rw [decide_eq_true c1]
      by_cases c2 : m = 9218868437227405311
      · rw [c2]; rfl
      · rw [show compare (m : Int) 9218868437227405311 = Ordering.lt from by rw [Int.compare_eq_lt]; omega]; rfl
    · rw [decide_eq_false c1, show compare (m : Int) 9218868437227405311 = Ordering.gt from by rw [Int.compare_eq_gt]; omega]; rfl
  · rw [Fq.order_nan_left double m 9218868437227405311 hb (by rw [r1, hi]; omega), decide_eq_false (by omega)]; rfl
set_option maxRecDepth 20000 in
set_option maxHeartbeats 400000 in
theorem finite_ (n : Bool) (m : Nat) (hm : m < 9223372036854775808) (w : World) : Calls Tryz.prog 20 #[.float .f64 (Fq.wD n m)] w fun e w' => e = .returned (.bool (decide (m < 9218868437227405312))) ∧ w' = w := by
  have h := abs_ n m hm w
  obtain ⟨X, hX⟩ : ∃ X, X = Fq.wD n m := ⟨_, rfl⟩
  rw [← hX] at h ⊢
  clear hX
  go_enter Tryz.func20, Tryz.ntmps20
  go_wp2_with fail
  refine h.mono ?_; rintro e w' ⟨rfl, hw'⟩; obtain rfl := hw'.symm; clear h hw'
  go_wp2
  exact bodyPost_ret (v := .bool (decide (m < 9218868437227405312))) (by rw [← fin_order m hm]; simp [results, Tryz.results20, go_sem]) rfl ⟨rfl, rfl⟩
set_option maxRecDepth 20000 in
set_option maxHeartbeats 400000 in
theorem upward_ (d : Int) (S r wh : Nat) (w : World) (hr : r < 4611686018427387904) :
    Calls Tryz.prog 86 #[.int .i64 d, .int .u64 (S : Int), .int .u64 (r : Int), .int .u64 (wh : Int)] w fun e w' => e = .returned (.bool (upw d S r wh)) ∧ w' = w := by
  unfold upw
  obtain ⟨r2, hr2⟩ : ∃ r2, r2 = 2 * r := ⟨_, rfl⟩
  have g1 : IntKind.u64.wrap (2 * (r : Int)) = (r2 : Int) := by rw [IntKind.wrap_u64]; omega
  rw [← hr2]
  by_cases c1 : d = 1
  · rw [if_pos c1]
    have e1 : (d == 1) = true := by simp [c1]
    clear hr g1 hr2 c1
    by_cases cr : 0 < r
    · rw [decide_eq_true cr]
      have t1 : 0 < (r : Int) := by omega
      clear cr
      go_enter Tryz.func86, Tryz.ntmps86
      go_wp2
      exact bodyPost_ret (v := .bool true) (by simp [results, Tryz.results86, go_sem] <;> omega) rfl ⟨rfl, rfl⟩
    · rw [decide_eq_false cr]
      have t1 : r = 0 := by omega
      subst t1
      clear cr
      go_enter Tryz.func86, Tryz.ntmps86
      go_wp2
      exact bodyPost_ret (v := .bool false) (by simp [results, Tryz.results86, go_sem] <;> omega) rfl ⟨rfl, rfl⟩
  · rw [if_neg c1]
    have e1 : (d == 1) = false := by simp [c1]
    by_cases c2 : d = -1
    · rw [if_pos c2]
      have e2 : (d == -1) = true := by simp [c2]
      clear hr g1 hr2 c1 c2
      go_enter Tryz.func86, Tryz.ntmps86
      go_wp2
      exact bodyPost_ret (v := .bool false) (by simp [results, Tryz.results86, go_sem] <;> omega) rfl ⟨rfl, rfl⟩
    · rw [if_neg c2]
      have e2 : (d == -1) = false := by simp [c2]
      clear hr hr2 c1 c2
      by_cases ca : wh < r2
      · rw [decide_eq_true ca]
        have t1 : (wh : Int) < (r2 : Int) := by omega
        rw [Bool.true_or]
        clear ca
        go_enter Tryz.func86, Tryz.ntmps86
        go_wp2
        exact bodyPost_ret (v := .bool true) (by simp [results, Tryz.results86, go_sem] <;> omega) rfl ⟨rfl, rfl⟩
      · rw [decide_eq_false ca, Bool.false_or]
        have t1 : ¬ ((wh : Int) < (r2 : Int)) := by omega
        by_cases cb : wh = r2
        · have t2 : ((r2 : Int) == (wh : Int)) = true := by simp; omega
          rw [decide_eq_true cb, Bool.true_and]
          have HC : Hid (wh = r2) := cb
          clear ca cb
          rcases (by omega : S % 2 = 0 ∨ S % 2 = 1) with cp | cp
          · have t3 : (S : Int) % 2 = 0 := by omega
            rw [cp]
            clear cp
            go_enter Tryz.func86, Tryz.ntmps86
            go_wp2
            exact bodyPost_ret (v := .bool false) (by simp [results, Tryz.results86, go_sem] <;> omega) rfl ⟨rfl, rfl⟩
          · have t3 : (S : Int) % 2 = 1 := by omega
            rw [cp]
            clear cp
            go_enter Tryz.func86, Tryz.ntmps86
            go_wp2
            exact bodyPost_ret (v := .bool true) (by simp [results, Tryz.results86, go_sem] <;> omega) rfl ⟨rfl, rfl⟩
        · have t2 : ((r2 : Int) == (wh : Int)) = false := by simp; omega
          rw [decide_eq_false cb, Bool.false_and]
          clear ca cb
          go_enter Tryz.func86, Tryz.ntmps86
          go_wp2
          exact bodyPost_ret (v := .bool false) (by simp [results, Tryz.results86, go_sem] <;> omega) rfl ⟨rfl, rfl⟩
set_option maxRecDepth 20000 in
set_option maxHeartbeats 400000 in
theorem minf_ (neg : Bool) (w : World) : Calls Tryz.prog 79 #[.int .i64 (if neg = true then -1 else 1)] w fun e w' => e = .returned (.float .f64 (Fq.wD neg 9218868437227405312)) ∧ w' = w := by
  have h1 : ∀ w : World, (callFunc 8 #[.int .u64 18442240474082181120]).run Tryz.prog w = .ok (.value (.float .f64 18442240474082181120)) w := fun w => Fq.ff64 18442240474082181120 w
  have h2 : ∀ w : World, (callFunc 8 #[.int .u64 9218868437227405312]).run Tryz.prog w = .ok (.value (.float .f64 9218868437227405312)) w := fun w => Fq.ff64 9218868437227405312 w
  cases neg
  · go_enter Tryz.func79, Tryz.ntmps79
    go_wp2
    exact bodyPost_ret (v := .float .f64 9218868437227405312) (by simp [results, Tryz.results79, go_sem]) rfl ⟨rfl, rfl⟩
  · go_enter Tryz.func79, Tryz.ntmps79
    go_wp2
    exact bodyPost_ret (v := .float .f64 18442240474082181120) (by simp [results, Tryz.results79, go_sem]) rfl ⟨rfl, rfl⟩
set_option maxRecDepth 20000 in
set_option maxHeartbeats 400000 in
theorem infD_false (w : World) : Calls Tryz.prog 51 #[.bool false] w fun e w' => e = .returned (.float .f64 (Fq.wD false 9218868437227405312)) ∧ w' = w := by
  have h := minf_ false w
  have h' : Calls Tryz.prog 79 #[.int .i64 (1)] w fun e w' => e = .returned (.float .f64 9218868437227405312) ∧ w' = w := h
  clear h
  go_enter Tryz.func51, Tryz.ntmps51
  go_wp2_with fail
  refine h'.mono ?_; rintro e w' ⟨rfl, hw'⟩; obtain rfl := hw'.symm; clear h' hw'
  go_wp2
  exact bodyPost_ret (v := .float .f64 9218868437227405312) (by simp [results, Tryz.results51, go_sem]) rfl ⟨rfl, rfl⟩
set_option maxRecDepth 20000 in
set_option maxHeartbeats 400000 in
theorem infD_true (w : World) : Calls Tryz.prog 51 #[.bool true] w fun e w' => e = .returned (.float .f64 (Fq.wD true 9218868437227405312)) ∧ w' = w := by
  have h := minf_ true w
  have h' : Calls Tryz.prog 79 #[.int .i64 (-1)] w fun e w' => e = .returned (.float .f64 18442240474082181120) ∧ w' = w := h
  clear h
  go_enter Tryz.func51, Tryz.ntmps51
  go_wp2_with fail
  refine h'.mono ?_; rintro e w' ⟨rfl, hw'⟩; obtain rfl := hw'.symm; clear h' hw'
  go_wp2
  exact bodyPost_ret (v := .float .f64 18442240474082181120) (by simp [results, Tryz.results51, go_sem]) rfl ⟨rfl, rfl⟩
theorem infD_ (neg : Bool) (w : World) : Calls Tryz.prog 51 #[.bool neg] w fun e w' => e = .returned (.float .f64 (Fq.wD neg 9218868437227405312)) ∧ w' = w := by
  cases neg
  · exact infD_false w
  · exact infD_true w
set_option maxRecDepth 20000 in
set_option maxHeartbeats 400000 in
theorem greDp_ (neg : Bool) (w : World) : Calls Tryz.prog 88 #[.bool neg] w fun e w' => e = .returned (.float .f64 (Fq.wD neg 9218868437227405311)) ∧ Fq.Grown w w' := by
  have h := infD_ neg w
  obtain ⟨Z, hZ⟩ : ∃ Z, Z = Fq.wD neg 9218868437227405312 := ⟨_, rfl⟩
  obtain ⟨Y, hY⟩ : ∃ Y, Y = Fq.wD neg 9218868437227405311 := ⟨_, rfl⟩
  cases neg
  · have hd := Fq.dn_d false 9218868437227405312 (by decide) (by decide) w
    rw [show Fq.fD (Fq.plz false 9218868437227405312 - 1) = Fq.wD false 9218868437227405311 from rfl, ← hZ, ← hY] at hd
    rw [← hZ] at h
    rw [← hY]
    clear hZ hY
    go_enter Tryz.func88, Tryz.ntmps88
    go_wp2_with fail
    refine h.mono ?_; rintro e w' ⟨rfl, hw'⟩; obtain rfl := hw'.symm; clear h hw'
    go_wp2_with fail
    refine hd.mono ?_; rintro e w1 ⟨rfl, hk⟩; clear hd
    go_wp2
    exact bodyPost_ret (v := .float .f64 Y) (by simp [results, Tryz.results88, go_sem]) rfl ⟨rfl, hk⟩
  · have hd := Fq.up_d true 9218868437227405312 (by decide) (by decide) w
    rw [show Fq.fD (Fq.plz true 9218868437227405312 + 1) = Fq.wD true 9218868437227405311 from rfl, ← hZ, ← hY] at hd
    rw [← hZ] at h
    rw [← hY]
    clear hZ hY
    go_enter Tryz.func88, Tryz.ntmps88
    go_wp2_with fail
    refine h.mono ?_; rintro e w' ⟨rfl, hw'⟩; obtain rfl := hw'.symm; clear h hw'
    go_wp2_with fail
    refine hd.mono ?_; rintro e w1 ⟨rfl, hk⟩; clear hd
    go_wp2
    exact bodyPost_ret (v := .float .f64 Y) (by simp [results, Tryz.results88, go_sem]) rfl ⟨rfl, hk⟩
set_option maxRecDepth 20000 in
set_option maxHeartbeats 400000 in
theorem fmtD_ (w : World) : Calls Tryz.prog 84 #[] w fun e w' => e = .returned (.tuple #[.int .i64 53, .int .i64 (-1074)]) ∧ Fq.Grown w w' := by
  have h1 := Fq.split_d false 4607182418800017408 (by decide)
  have h0 := Fq.split_d false 0 (by decide)
  rw [show Fq.wD false 4607182418800017408 = 4607182418800017408 from rfl, show (false && !(4607182418800017408 == 0)) = false from rfl, show (((Fq.sgD 4607182418800017408 : Nat) : Int)) = 4503599627370496 from by decide +kernel] at h1
  rw [show Fq.wD false 0 = 0 from rfl, show (false && !(0 == 0)) = false from rfl, show Fq.epD 0 = -1074 from by decide +kernel] at h0
  obtain ⟨e1, he1⟩ : ∃ e1, e1 = Fq.epD 4607182418800017408 := ⟨_, rfl⟩
  obtain ⟨s0, hs0⟩ : ∃ s0 : Int, s0 = ((Fq.sgD 0 : Nat) : Int) := ⟨_, rfl⟩
  rw [← he1] at h1
  rw [← hs0] at h0
  have hl := Fq.len64_ 4503599627370496 (by decide) (by decide)
  rw [show ((Lib.bitLen (4503599627370496 : Int).toNat : Nat) : Int) = 53 from by decide +kernel] at hl
  have c1 : floatOfInt .f64 1 = 4607182418800017408 := by decide +kernel
  have c0 : floatOfInt .f64 0 = 0 := by decide +kernel
  clear he1 hs0
  go_enter Tryz.func84, Tryz.ntmps84
  go_wp2_with fail
  refine (h1 _).mono ?_; rintro e w1 ⟨rfl, hk⟩; clear h1
  go_wp2_with fail
  refine (h0 _).mono ?_; rintro e w2 ⟨rfl, hk2⟩; clear h0
  have hk3 := Fq.gtrans hk hk2
  have hl2 := hl w2
  clear hl hk hk2
  go_wp2_with fail
  refine hl2.mono ?_; rintro e w' ⟨rfl, hw'⟩; obtain rfl := hw'.symm; clear hl2 hw'
  go_wp2
  exact bodyPost_ret (v := .tuple #[.int .i64 53, .int .i64 (-1074)]) (by simp [results, Tryz.results84, go_sem]) rfl ⟨rfl, hk3⟩
end Go.Proofs.YtgiffpohngaonaaGreatDoor
