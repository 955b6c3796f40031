import Derived.Test.YtinohggonicjhaaGreatDoorKEN
import Derived.Test.YtinohggonicjhaaGreatDoorKXMR
import Derived.Test.YtinohggonicjhaaGreatDoorKXQJ
import Derived.Test.YtinohggonicjhaaGreatDoorKXRT
namespace Go.Proofs.YtinohggonicjhaaGreatDoor
open Go.RowKit
theorem noTop (n : Bool) (m X : Nat) (hm : m < 9223372036854775808) (hX : X = Fq.wD n m) : bits BinOp.andNot IntKind.u64 (X : Int) 9223372036854775808 = (m : Int) ∧ X < 18446744073709551616 := by
  have hX9 : X < 18446744073709551616 := by rw [hX]; unfold Fq.wD; split <;> omega
  have h := u64_andNot_nat X 9223372036854775808 hX9 (by decide)
  have e : X % 9223372036854775808 = m := by rw [hX]; unfold Fq.wD; split <;> omega
  rw [show 18446744073709551615 - 9223372036854775808 = 2 ^ 63 - 1 from by decide, Nat.and_two_pow_sub_one_eq_mod, show (2 : Nat) ^ 63 = 9223372036854775808 from by decide, e] at h
  exact ⟨h, hX9⟩
set_option maxRecDepth 20000 in
set_option maxHeartbeats 400000 in
theorem abs_ (n : Bool) (m : Nat) (hm : m < 9223372036854775808) (w : World) : Calls Tryz.prog 81 #[.float .f64 (Fq.wD n m)] w fun e w' => e = .returned (.float .f64 m) ∧ w' = w := by
  obtain ⟨X, hX⟩ : ∃ X, X = Fq.wD n m := ⟨_, rfl⟩
  have f1 := (noTop n m X hm hX).1
  rw [← hX]
  clear hX hm
  have h1 := Fq.fb64 X
  have h2 := Fq.ff64 m
  go_enter Tryz.func81, Tryz.ntmps81
  go_wp2
  exact bodyPost_ret (v := .float .f64 m) (by simp [results, Tryz.results81, go_sem]) rfl ⟨rfl, rfl⟩
open Ieee in
theorem fin_order (m : Nat) (hm : m < 9223372036854775808) : (FloatKind.f64.format.order m 9218868437227405311 == some Ordering.lt || FloatKind.f64.format.order m 9218868437227405311 == some Ordering.eq) = decide (m < 9218868437227405312) := by
  have hf : FloatKind.f64.format = double := rfl
  have hi : double.infRung = 9218868437227405312 := by decide +kernel
  have hw : double.signWeight = 9223372036854775808 := by decide +kernel
  have hb : double.binade ≤ double.infRung := by decide +kernel
  have r1 : Fq.rg double m = m := by unfold Fq.rg; rw [hw]; exact Nat.mod_eq_of_lt hm
  have r2 : Fq.rg double 9218868437227405311 = 9218868437227405311 := by unfold Fq.rg; rw [hw]
  have p1 : Fq.pl double m = (m : Int) := by
    unfold Fq.pl Fq.ng
    rw [r1, hw, Nat.div_eq_of_lt hm]; rfl
  have p2 : Fq.pl double 9218868437227405311 = 9218868437227405311 := by
    unfold Fq.pl Fq.ng
    rw [r2, hw]; rfl
  rw [hf]
  by_cases c : m ≤ 9218868437227405312
  · rw [Fq.order_num double m 9218868437227405311 hb (by rw [r1, hi]; exact c) (by rw [r2, hi]; decide), p1, p2]
    by_cases c1 : m < 9218868437227405312
    · rw [decide_eq_true c1]
      by_cases c2 : m = 9218868437227405311
      · rw [c2]; rfl
      · rw [show compare (m : Int) 9218868437227405311 = Ordering.lt from by rw [Int.compare_eq_lt]; omega]; rfl
    · rw [decide_eq_false c1, show compare (m : Int) 9218868437227405311 = Ordering.gt from by rw [Int.compare_eq_gt]; omega]; rfl
  · rw [Fq.order_nan_left double m 9218868437227405311 hb (by rw [r1, hi]; omega), decide_eq_false (by omega)]; rfl
set_option maxRecDepth 20000 in
set_option maxHeartbeats 400000 in
theorem finite_ (n : Bool) (m : Nat) (hm : m < 9223372036854775808) (w : World) : Calls Tryz.prog 60 #[.float .f64 (Fq.wD n m)] w fun e w' => e = .returned (.bool (decide (m < 9218868437227405312))) ∧ w' = w := by
  have h := abs_ n m hm w
  obtain ⟨X, hX⟩ : ∃ X, X = Fq.wD n m := ⟨_, rfl⟩
  rw [← hX] at h ⊢
  clear hX
  go_enter Tryz.func60, Tryz.ntmps60
  go_wp2_with fail
  refine h.mono ?_; rintro e w' ⟨rfl, hw'⟩; obtain rfl := hw'.symm; clear h hw'
  go_wp2
  exact bodyPost_ret (v := .bool (decide (m < 9218868437227405312))) (by rw [← fin_order m hm]; simp [results, Tryz.results60, go_sem]) rfl ⟨rfl, rfl⟩
set_option maxRecDepth 20000 in
set_option maxHeartbeats 400000 in
theorem upward_ (d : Int) (S r wh : Nat) (w : World) (hr : r < 4611686018427387904) :
    Calls Tryz.prog 159 #[.int .i64 d, .int .u64 (S : Int), .int .u64 (r : Int), .int .u64 (wh : Int)] w fun e w' => e = .returned (.bool (upw d S r wh)) ∧ w' = w := by
  unfold upw
  obtain ⟨r2, hr2⟩ : ∃ r2, r2 = 2 * r := ⟨_, rfl⟩
  have g1 : IntKind.u64.wrap (2 * (r : Int)) = (r2 : Int) := by rw [IntKind.wrap_u64]; omega
  rw [← hr2]
  by_cases c1 : d = 1
  · rw [if_pos c1]
    have e1 : (d == 1) = true := by simp [c1]
    clear hr g1 hr2 c1
    by_cases cr : 0 < r
    · rw [decide_eq_true cr]
      have t1 : 0 < (r : Int) := by omega
      clear cr
      go_enter Tryz.func159, Tryz.ntmps159
      go_wp2
      exact bodyPost_ret (v := .bool true) (by simp [results, Tryz.results159, go_sem] <;> omega) rfl ⟨rfl, rfl⟩
    · rw [decide_eq_false cr]
      have t1 : r = 0 := by omega
      subst t1
      clear cr
      go_enter Tryz.func159, Tryz.ntmps159
      go_wp2
      exact bodyPost_ret (v := .bool false) (by simp [results, Tryz.results159, go_sem] <;> omega) rfl ⟨rfl, rfl⟩
  · rw [if_neg c1]
    have e1 : (d == 1) = false := by simp [c1]
    by_cases c2 : d = -1
    · rw [if_pos c2]
      have e2 : (d == -1) = true := by simp [c2]
      clear hr g1 hr2 c1 c2
      go_enter Tryz.func159, Tryz.ntmps159
      go_wp2
      exact bodyPost_ret (v := .bool false) (by simp [results, Tryz.results159, go_sem] <;> omega) rfl ⟨rfl, rfl⟩
    · rw [if_neg c2]
      have e2 : (d == -1) = false := by simp [c2]
      clear hr hr2 c1 c2
      by_cases ca : wh < r2
      · rw [decide_eq_true ca]
        have t1 : (wh : Int) < (r2 : Int) := by omega
        rw [Bool.true_or]
        clear ca
        go_enter Tryz.func159, Tryz.ntmps159
        go_wp2
        exact bodyPost_ret (v := .bool true) (by simp [results, Tryz.results159, go_sem] <;> omega) rfl ⟨rfl, rfl⟩
      · rw [decide_eq_false ca, Bool.false_or]
        have t1 : ¬ ((wh : Int) < (r2 : Int)) := by omega
        by_cases cb : wh = r2
        · have t2 : ((r2 : Int) == (wh : Int)) = true := by simp; omega
          rw [decide_eq_true cb, Bool.true_and]
          have HC : Hid (wh = r2) := cb
          clear ca cb
          rcases (by omega : S % 2 = 0 ∨ S % 2 = 1) with cp | cp
          · have t3 : (S : Int) % 2 = 0 := by omega
            rw [cp]
            clear cp
            go_enter Tryz.func159, Tryz.ntmps159
            go_wp2
            exact bodyPost_ret (v := .bool false) (by simp [results, Tryz.results159, go_sem] <;> omega) rfl ⟨rfl, rfl⟩
          · have t3 : (S : Int) % 2 = 1 := by omega
            rw [cp]
            clear cp
            go_enter Tryz.func159, Tryz.ntmps159
            go_wp2
            exact bodyPost_ret (v := .bool true) (by simp [results, Tryz.results159, go_sem] <;> omega) rfl ⟨rfl, rfl⟩
        · have t2 : ((r2 : Int) == (wh : Int)) = false := by simp; omega
          rw [decide_eq_false cb, Bool.false_and]
          clear ca cb
          go_enter Tryz.func159, Tryz.ntmps159
          go_wp2
          exact bodyPost_ret (v := .bool false) (by simp [results, Tryz.results159, go_sem] <;> omega) rfl ⟨rfl, rfl⟩
set_option maxRecDepth 20000 in
set_option maxHeartbeats 400000 in
theorem minf_ (neg : Bool) (w : World) : Calls Tryz.prog 32 #[.int .i64 (if neg = true then -1 else 1)] w fun e w' => e = .returned (.float .f64 (Fq.wD neg 9218868437227405312)) ∧ w' = w := by
  have h1 : ∀ w : World, (callFunc 22 #[.int .u64 18442240474082181120]).run Tryz.prog w = .ok (.value (.float .f64 18442240474082181120)) w := fun w => Fq.ff64 18442240474082181120 w
  have h2 : ∀ w : World, (callFunc 22 #[.int .u64 9218868437227405312]).run Tryz.prog w = .ok (.value (.float .f64 9218868437227405312)) w := fun w => Fq.ff64 9218868437227405312 w
  cases neg
  · go_enter Tryz.func32, Tryz.ntmps32
    go_wp2
    exact bodyPost_ret (v := .float .f64 9218868437227405312) (by simp [results, Tryz.results32, go_sem]) rfl ⟨rfl, rfl⟩
  · go_enter Tryz.func32, Tryz.ntmps32
    go_wp2
    exact bodyPost_ret (v := .float .f64 18442240474082181120) (by simp [results, Tryz.results32, go_sem]) rfl ⟨rfl, rfl⟩
set_option maxRecDepth 20000 in
set_option maxHeartbeats 400000 in
theorem infD_false (w : World) : Calls Tryz.prog 87 #[.bool false] w fun e w' => e = .returned (.float .f64 (Fq.wD false 9218868437227405312)) ∧ w' = w := by
  have h := minf_ false w
  have h' : Calls Tryz.prog 32 #[.int .i64 (1)] w fun e w' => e = .returned (.float .f64 9218868437227405312) ∧ w' = w := h
  clear h
  go_enter Tryz.func87, Tryz.ntmps87
  go_wp2_with fail
  refine h'.mono ?_; rintro e w' ⟨rfl, hw'⟩; obtain rfl := hw'.symm; clear h' hw'
  go_wp2
  exact bodyPost_ret (v := .float .f64 9218868437227405312) (by simp [results, Tryz.results87, go_sem]) rfl ⟨rfl, rfl⟩
set_option maxRecDepth 20000 in
set_option maxHeartbeats 400000 in
theorem infD_true (w : World) : Calls Tryz.prog 87 #[.bool true] w fun e w' => e = .returned (.float .f64 (Fq.wD true 9218868437227405312)) ∧ w' = w := by
  have h := minf_ true w
  have h' : Calls Tryz.prog 32 #[.int .i64 (-1)] w fun e w' => e = .returned (.float .f64 18442240474082181120) ∧ w' = w := h
  clear h
  go_enter Tryz.func87, Tryz.ntmps87
  go_wp2_with fail
  refine h'.mono ?_; rintro e w' ⟨rfl, hw'⟩; obtain rfl := hw'.symm; clear h' hw'
  go_wp2
  exact bodyPost_ret (v := .float .f64 18442240474082181120) (by simp [results, Tryz.results87, go_sem]) rfl ⟨rfl, rfl⟩
theorem infD_ (neg : Bool) (w : World) : Calls Tryz.prog 87 #[.bool neg] w fun e w' => e = .returned (.float .f64 (Fq.wD neg 9218868437227405312)) ∧ w' = w := by
  cases neg
  · exact infD_false w
  · exact infD_true w
set_option maxRecDepth 20000 in
set_option maxHeartbeats 400000 in
theorem greDp_ (neg : Bool) (w : World) : Calls Tryz.prog 161 #[.bool neg] w fun e w' => e = .returned (.float .f64 (Fq.wD neg 9218868437227405311)) ∧ Fq.Grown w w' := by
  have h := infD_ neg w
  obtain ⟨Z, hZ⟩ : ∃ Z, Z = Fq.wD neg 9218868437227405312 := ⟨_, rfl⟩
  obtain ⟨Y, hY⟩ : ∃ Y, Y = Fq.wD neg 9218868437227405311 := ⟨_, rfl⟩
  cases neg
  · have hd := Fq.dn_d false 9218868437227405312 (by decide) (by decide) w
    rw [show Fq.fD (Fq.plz false 9218868437227405312 - 1) = Fq.wD false 9218868437227405311 from rfl, ← hZ, ← hY] at hd
    rw [← hZ] at h
    rw [← hY]
    clear hZ hY
    go_enter Tryz.func161, Tryz.ntmps161
    go_wp2_with fail
    refine h.mono ?_; rintro e w' ⟨rfl, hw'⟩; obtain rfl := hw'.symm; clear h hw'
    go_wp2_with fail
    refine hd.mono ?_; rintro e w1 ⟨rfl, hk⟩; clear hd
    go_wp2
    exact bodyPost_ret (v := .float .f64 Y) (by simp [results, Tryz.results161, go_sem]) rfl ⟨rfl, hk⟩
  · have hd := Fq.up_d true 9218868437227405312 (by decide) (by decide) w
    rw [show Fq.fD (Fq.plz true 9218868437227405312 + 1) = Fq.wD true 9218868437227405311 from rfl, ← hZ, ← hY] at hd
    rw [← hZ] at h
    rw [← hY]
    clear hZ hY
    go_enter Tryz.func161, Tryz.ntmps161
    go_wp2_with fail
    refine h.mono ?_; rintro e w' ⟨rfl, hw'⟩; obtain rfl := hw'.symm; clear h hw'
    go_wp2_with fail
    refine hd.mono ?_; rintro e w1 ⟨rfl, hk⟩; clear hd
    go_wp2
    exact bodyPost_ret (v := .float .f64 Y) (by simp [results, Tryz.results161, go_sem]) rfl ⟨rfl, hk⟩
set_option maxRecDepth 20000 in
set_option maxHeartbeats 400000 in
theorem fmtD_ (w : World) : Calls Tryz.prog 157 #[] w fun e w' => e = .returned (.tuple #[.int .i64 53, .int .i64 (-1074)]) ∧ Fq.Grown w w' := by
  have h1 := Fq.split_d false 4607182418800017408 (by decide)
  have h0 := Fq.split_d false 0 (by decide)
  rw [show Fq.wD false 4607182418800017408 = 4607182418800017408 from rfl, show (false && !(4607182418800017408 == 0)) = false from rfl, show (((Fq.sgD 4607182418800017408 : Nat) : Int)) = 4503599627370496 from by decide +kernel] at h1
  rw [show Fq.wD false 0 = 0 from rfl, show (false && !(0 == 0)) = false from rfl, show Fq.epD 0 = -1074 from by decide +kernel] at h0
  obtain ⟨e1, he1⟩ : ∃ e1, e1 = Fq.epD 4607182418800017408 := ⟨_, rfl⟩
  obtain ⟨s0, hs0⟩ : ∃ s0 : Int, s0 = ((Fq.sgD 0 : Nat) : Int) := ⟨_, rfl⟩
  rw [← he1] at h1
  rw [← hs0] at h0
  have hl := Fq.len64_ 4503599627370496 (by decide) (by decide)
  rw [show ((Lib.bitLen (4503599627370496 : Int).toNat : Nat) : Int) = 53 from by decide +kernel] at hl
  have c1 : floatOfInt .f64 1 = 4607182418800017408 := by decide +kernel
  have c0 : floatOfInt .f64 0 = 0 := by decide +kernel
  clear he1 hs0
  go_enter Tryz.func157, Tryz.ntmps157
  go_wp2_with fail
  refine (h1 _).mono ?_; rintro e w1 ⟨rfl, hk⟩; clear h1
  go_wp2_with fail
  refine (h0 _).mono ?_; rintro e w2 ⟨rfl, hk2⟩; clear h0
  have hk3 := Fq.gtrans hk hk2
  have hl2 := hl w2
  clear hl hk hk2
  go_wp2_with fail
  refine hl2.mono ?_; rintro e w' ⟨rfl, hw'⟩; obtain rfl := hw'.symm; clear hl2 hw'
  go_wp2
  exact bodyPost_ret (v := .tuple #[.int .i64 53, .int .i64 (-1074)]) (by simp [results, Tryz.results157, go_sem]) rfl ⟨rfl, hk3⟩
open Ieee in
theorem tame_order (m : Nat) (hm : m < 9223372036854775808) : (FloatKind.f64.format.order m 9110782046170513408 == some Ordering.lt || FloatKind.f64.format.order m 9110782046170513408 == some Ordering.eq) = decide (m ≤ 9110782046170513408) := by
  have hf : FloatKind.f64.format = double := rfl
  have hi : double.infRung = 9218868437227405312 := by decide +kernel
  have hw : double.signWeight = 9223372036854775808 := by decide +kernel
  have hb : double.binade ≤ double.infRung := by decide +kernel
  have r1 : Fq.rg double m = m := by unfold Fq.rg; rw [hw]; exact Nat.mod_eq_of_lt hm
  have r2 : Fq.rg double 9110782046170513408 = 9110782046170513408 := by unfold Fq.rg; rw [hw]
  have p1 : Fq.pl double m = (m : Int) := by
    unfold Fq.pl Fq.ng
    rw [r1, hw, Nat.div_eq_of_lt hm]; rfl
  have p2 : Fq.pl double 9110782046170513408 = 9110782046170513408 := by
    unfold Fq.pl Fq.ng
    rw [r2, hw]; rfl
  rw [hf]
  by_cases c : m ≤ 9218868437227405312
  · rw [Fq.order_num double m 9110782046170513408 hb (by rw [r1, hi]; exact c) (by rw [r2, hi]; decide), p1, p2]
    by_cases c1 : m ≤ 9110782046170513408
    · rw [decide_eq_true c1]
      by_cases c2 : m = 9110782046170513408
      · rw [c2]; rfl
      · rw [show compare (m : Int) 9110782046170513408 = Ordering.lt from by rw [Int.compare_eq_lt]; omega]; rfl
    · rw [decide_eq_false c1, show compare (m : Int) 9110782046170513408 = Ordering.gt from by rw [Int.compare_eq_gt]; omega]; rfl
  · rw [Fq.order_nan_left double m 9110782046170513408 hb (by rw [r1, hi]; omega), decide_eq_false (by omega)]; rfl
set_option maxRecDepth 20000 in
set_option maxHeartbeats 400000 in
theorem tame_ (n : Bool) (m : Nat) (hm : m < 9223372036854775808) (w : World) : Calls Tryz.prog 72 #[.float .f64 (Fq.wD n m)] w fun e w' => e = .returned (.bool (decide (m ≤ 9110782046170513408))) ∧ w' = w := by
  have h := abs_ n m hm w
  obtain ⟨X, hX⟩ : ∃ X, X = Fq.wD n m := ⟨_, rfl⟩
  rw [← hX] at h ⊢
  clear hX
  go_enter Tryz.func72, Tryz.ntmps72
  go_wp2_with fail
  refine h.mono ?_; rintro e w' ⟨rfl, hw'⟩; obtain rfl := hw'.symm; clear h hw'
  go_wp2
  exact bodyPost_ret (v := .bool (decide (m ≤ 9110782046170513408))) (by rw [← tame_order m hm]; simp [results, Tryz.results72, go_sem]) rfl ⟨rfl, rfl⟩
theorem kfro {W w : World} {b o : Nat} (g : Kp W w) (h : b < W.heap.size) : w.frozen? ⟨b, o, none⟩ = W.frozen? ⟨b, o, none⟩ := World.frozen?_of_block (w := W) (Below.block g b h)
set_option maxRecDepth 20000 in
set_option maxHeartbeats 400000 in
theorem tz0_ (w : World) : Calls Tryz.prog 89 #[.int .u64 0] w fun e w' => e = .returned (.int .i64 64) ∧ w' = w := by
  go_enter Tryz.func89, Tryz.ntmps89
  go_wp2
  exact bodyPost_ret (v := .int .i64 64) (by simp [results, Tryz.results89, go_sem]) rfl ⟨rfl, rfl⟩
set_option maxRecDepth 20000 in
set_option maxHeartbeats 1000000 in
theorem take_ (n : Bool) (m : Nat) (hm : m < 9218868437227405312) :
    ∃ (a : Nat) (ex : Int), a * 2 ^ (ex + 1074).toNat = Fq.vV Ieee.double m ∧ -1074 ≤ ex ∧ ex ≤ 2048 ∧ a < 9007199254740992 ∧ ∀ w : World, Fq.Tab w → Calls Tryz.prog 62 #[.float .f64 (Fq.wD n m)] w fun e w' => ∃ v, e = .returned (.agg #[.bool (n && !(m == 0)), v, .int .i64 ex]) ∧ Ls w' v (dig a) ∧ Kp w w' := by
  obtain ⟨v1, v2, v3, v4, v5⟩ := Fq.vlsgD m hm
  obtain ⟨X, hX⟩ : ∃ X, X = Fq.wD n m := ⟨_, rfl⟩
  obtain ⟨sg, hsg⟩ : ∃ sg, sg = Fq.sgD m := ⟨_, rfl⟩
  obtain ⟨ep, hep⟩ : ∃ ep, ep = Fq.epD m := ⟨_, rfl⟩
  obtain ⟨nn, hnn⟩ : ∃ nn : Bool, nn = (n && !(m == 0)) := ⟨_, rfl⟩
  rw [← hsg, ← hep] at v1
  rw [← hsg] at v2 v3
  rw [← hep] at v4 v5
  -- the odd part and its zeros
  obtain ⟨a, k, hk, hka, htz, hsh, ha⟩ : ∃ a k : Nat, a * 2 ^ (ep + (k : Int) + 1074).toNat = Fq.vV Ieee.double m ∧ k ≤ 64 ∧ (∀ w1, Fq.Tab w1 → Calls Tryz.prog 89 #[.int .u64 (sg : Int)] w1 fun e w' => e = .returned (.int .i64 (k : Int)) ∧ w' = w1) ∧ (sg : Int) / 2 ^ min k 64 = (a : Int) ∧ a < 9007199254740992 := by
    by_cases c : sg = 0
    · refine ⟨0, 64, ?_, by omega, ?_, by rw [c]; simp, by omega⟩
      · have e : Fq.vV Ieee.double m = Fq.vlD m := rfl
        rw [e, ← v1, c]; simp
      · intro w1 _
        rw [c]; exact tz0_ w1
    · obtain ⟨o, o1, o2, o3, o4⟩ := ctz_odd sg c
      have hcl : blen sg ≤ 53 := by rw [blen_le_iff, show (2 : Nat) ^ 53 = 9007199254740992 from by decide]; exact v2
      refine ⟨o, ctz sg, ?_, by omega, ?_, ?_, ?_⟩
      · have e : Fq.vV Ieee.double m = Fq.vlD m := rfl
        rw [e, ← v1, show (ep + ((ctz sg : Nat) : Int) + 1074).toNat = ctz sg + (ep + 1074).toNat from by omega, Nat.pow_add, ← Nat.mul_assoc, ← o2]
      · intro w1 t1
        have h := Fq.tz_ o (ctz sg) o1 (by rw [← o2]; omega) w1 t1
        rw [← o2] at h
        exact h
      · rw [Nat.min_eq_left (by omega)]
        have : ((sg / 2 ^ ctz sg : Nat) : Int) = (o : Int) := by rw [o3]
        rw [← this, Int.natCast_ediv, castpow]
      · have := Nat.div_le_self sg (2 ^ ctz sg); omega
  refine ⟨a, ep + (k : Int), hk, by omega, by omega, ha, fun w hQ => ?_⟩
  obtain ⟨w0, hw0⟩ : ∃ w0, w0 = w.alloc (.cells #[.bool false, .slice none 0 0, .int .i64 0] 73) := ⟨_, rfl⟩
  obtain ⟨B, hB⟩ : ∃ B, B = w.heap.size := ⟨_, rfl⟩
  have hk0 : Kp w w0 := by rw [hw0]; exact (Kp.refl w).alloc _
  have hsp := Fq.split_d n m hm w0
  rw [← hX, ← hsg, ← hep, ← hnn] at hsp
  rw [← hX, ← hnn]
  rw [Nat.min_eq_left hka] at hsh
  have hsm := fun w1 => nsmall_ a (by omega) w1
  have htz2 := fun w1 (kk : Kp w0 w1) => htz w1 (Fq.Tab.grown hQ (hk0.trans kk))
  have hal : ∀ w1, Kp w0 w1 → True := fun _ _ => trivial
  have e0 : w0.cell? ⟨B, 0, none⟩ = some (.bool false) := by rw [hw0, hB]; simp [go_sem]
  have e1 : w0.cell? ⟨B, 1, none⟩ = some (.slice none 0 0) := by rw [hw0, hB]; simp [go_sem]
  have e2 : w0.cell? ⟨B, 2, none⟩ = some (.int .i64 0) := by rw [hw0, hB]; simp [go_sem]
  have f0 : w0.frozen? ⟨B, 0, none⟩ = false := by rw [hw0, hB]; simp [go_sem]
  have f1 : w0.frozen? ⟨B, 1, none⟩ = false := by rw [hw0, hB]; simp [go_sem]
  have f2 : w0.frozen? ⟨B, 2, none⟩ = false := by rw [hw0, hB]; simp [go_sem]
  have hlt := cell_lt e0
  have hep1 : -1074 ≤ ep := v4
  have hep2 : ep ≤ 971 := v5
  have HW : Hid (w0 = w.alloc (.cells #[.bool false, .slice none 0 0, .int .i64 0] 73) ∧ B = w.heap.size ∧ Kp w w0) := ⟨hw0, hB, hk0⟩
  clear hal v1 v2 v3 v4 v5 hX hsg hep hnn hw0 hB hk0 htz hQ hk ha hm
  go_enter Tryz.func62, Tryz.ntmps62
  go_wp2_with fail
  rw [← HW.out.1, ← HW.out.2.1]
  refine hsp.mono ?_; rintro e w1 ⟨rfl, k1⟩
  have k1' : Kp w0 w1 := k1
  have htz3 := htz2 w1 k1'
  clear hsp htz2 k1
  go_wp2_with fail
  refine htz3.mono ?_; rintro e w' ⟨rfl, hw'⟩; obtain rfl := hw'.symm; clear hw' htz3
  have hs2 := hsm w1
  clear hsm
  go_wp2_with fail
  try rw [hsh]
  refine hs2.mono ?_; rintro e w2 ⟨v, rfl, ho, k2⟩
  have hls := ho.ls
  obtain ⟨pv, cv, rfl, hav, hcv⟩ := ho.arr
  have k02 := k1'.trans k2
  have hlt2 := ho.lt
  replace e0 := kkeep k02 e0
  replace e1 := kkeep k02 e1
  replace e2 := kkeep k02 e2
  replace f0 := (kfro k02 hlt).trans f0
  replace f1 := (kfro k02 hlt).trans f1
  replace f2 := (kfro k02 hlt).trans f2
  have hks := Below.size k1'
  obtain ⟨L, hL⟩ : ∃ L, L = (dig a).length := ⟨_, rfl⟩
  rw [← hL]
  have HO : Hid (Own w2 w1.heap.size (.slice pv (dig a).length cv) (dig a) ∧ L = (dig a).length ∧ Kp w0 w2 ∧ B < w1.heap.size) := ⟨ho, hL, k02, by omega⟩
  clear hs2 ho hls hav hcv k1' k2 k02 hlt2 hL hks
  go_wp2
  obtain ⟨ho, hL, k02, hBl⟩ := HO.out
  have kb : Kb B w2 (((w2.setCell ⟨B, 0, none⟩ (.bool nn)).setCell ⟨B, 1, none⟩ (.slice pv L cv)).setCell ⟨B, 2, none⟩ (.int .i64 (ep + (k : Int)))) := (((Kb.refl B w2).setCell 0 _).setCell 1 _).setCell 2 _
  have ho2 := ho.kb kb (fun g hg => by have := ho.lt g hg; omega)
  have hls := ho2.ls
  rw [← hL] at hls
  have hkw : Kp w (((w2.setCell ⟨B, 0, none⟩ (.bool nn)).setCell ⟨B, 1, none⟩ (.slice pv L cv)).setCell ⟨B, 2, none⟩ (.int .i64 (ep + (k : Int)))) := kb.kp (HW.out.2.2.trans k02) (by rw [HW.out.2.1]; exact Nat.le_refl _)
  exact bodyPost_ret (v := .agg #[.bool nn, .slice pv L cv, .int .i64 (ep + (k : Int))]) (by simp [results, Tryz.results62, go_sem, e0, e1, e2]) rfl ⟨_, rfl, hls, hkw⟩
set_option maxRecDepth 20000 in
set_option maxHeartbeats 400000 in
theorem stepped_ (d V : Int) (s o sz : Bool) (r ro K : Nat) (hK : 53 ≤ K) (hK2 : K ≤ 2096) (hv : V.natAbs < 2 ^ K) (hr1 : r < 9218868437227405312) (hro : ro < 9218868437227405312) (hr : r = rgU 53 (rU 0 53 V.natAbs 1)) (hs : s = (if V = 0 then sz else decide (V < 0))) (ho : Iv o ro = V - Iv s r) (w : World) :
    Calls Tryz.prog 58 #[.int .i64 d, .float .f64 (Fq.wD s r), .float .f64 (Fq.wD o ro)] w fun e w' => e = .returned (.float .f64 (sumW d V)) ∧ Kp w w' := by
  obtain ⟨S1, S2, S3⟩ := step_w d V s o sz r ro K hK hK2 hv hr hs ho
  have hz : (0 : Nat) = Fq.wD false 0 := rfl
  have hord : FloatKind.f64.format.order (Fq.wD o ro) 0 = some (compare (Fq.plz o ro) 0) := by
    rw [hz, Fq.ordD o false ro 0 (by omega) (by decide)]; rfl
  obtain ⟨P, hP⟩ : ∃ P, P = Fq.plz o ro := ⟨_, rfl⟩
  rw [← hP] at S1 S2 S3 hord
  obtain ⟨O, hO⟩ : ∃ O, O = Fq.wD o ro := ⟨_, rfl⟩
  obtain ⟨Z, hZ⟩ : ∃ Z, Z = sumW d V := ⟨_, rfl⟩
  obtain ⟨N, hN⟩ : ∃ N, N = Fq.wD s r := ⟨_, rfl⟩
  rw [← hZ] at S1 S2 S3
  rw [← hO] at hord
  rw [← hO, ← hZ, ← hN]
  have hup := fun h => Fq.up_d s r (by omega) h w
  have hdn := fun h => Fq.dn_d s r (by omega) h w
  have hpl := Fq.plain_d s r (by omega) w
  rw [← hN] at hup hdn hpl
  clear hO hN hZ hr hs ho hP hz hv hK hK2 hr1 hro
  by_cases c1 : d = -1
  · by_cases c2 : P < 0
    · obtain ⟨a1, a2⟩ := S1 c1 c2
      have hc := hdn a1
      rw [a2] at hc
      have o1 : (FloatKind.f64.format.order O 0 == some .lt) = true := by rw [hord, Int.compare_eq_lt.2 c2]; rfl
      subst c1
      clear S1 S2 S3 hup hdn hpl hord c2 a1 a2
      go_enter Tryz.func58, Tryz.ntmps58
      go_wp2_with fail
      refine hc.mono ?_; rintro e w1 ⟨rfl, hk⟩
      clear hc
      go_wp2
      exact bodyPost_ret (v := .float .f64 Z) (by simp [results, Tryz.results58, go_sem]) rfl ⟨rfl, hk⟩
    · have hc := hpl
      rw [S3 (fun h => c2 h.2) (fun h => by omega)] at hc
      have o1 : (FloatKind.f64.format.order O 0 == some .lt) = false := by
        rw [hord]
        rcases Int.lt_trichotomy P 0 with h | h | h
        · exact absurd h c2
        · rw [Int.compare_eq_eq.2 h]; rfl
        · rw [Int.compare_eq_gt.2 h]; rfl
      subst c1
      clear S1 S2 S3 hup hdn hpl hord c2
      go_enter Tryz.func58, Tryz.ntmps58
      go_wp2_with fail
      refine hc.mono ?_; rintro e w1 ⟨rfl, hw⟩
      obtain rfl := hw.symm
      clear hc
      go_wp2
      exact bodyPost_ret (v := .float .f64 Z) (by simp [results, Tryz.results58, go_sem]) rfl ⟨rfl, Kp.refl _⟩
  · have e1 : (d == -1) = false := by simp [c1]
    by_cases c3 : d = 1
    · by_cases c2 : 0 < P
      · obtain ⟨a1, a2⟩ := S2 c3 c2
        have hc := hup a1
        rw [a2] at hc
        have o1 : (FloatKind.f64.format.order O 0 == some .gt) = true := by rw [hord, Int.compare_eq_gt.2 c2]; rfl
        subst c3
        clear S1 S2 S3 hup hdn hpl hord c2 a1 a2 c1
        go_enter Tryz.func58, Tryz.ntmps58
        go_wp2_with fail
        refine hc.mono ?_; rintro e w1 ⟨rfl, hk⟩
        clear hc
        go_wp2
        exact bodyPost_ret (v := .float .f64 Z) (by simp [results, Tryz.results58, go_sem]) rfl ⟨rfl, hk⟩
      · have hc := hpl
        rw [S3 (fun h => c1 h.1) (fun h => c2 h.2)] at hc
        have o1 : (FloatKind.f64.format.order O 0 == some .gt) = false := by
          rw [hord]
          rcases Int.lt_trichotomy P 0 with h | h | h
          · rw [Int.compare_eq_lt.2 h]; rfl
          · rw [Int.compare_eq_eq.2 h]; rfl
          · exact absurd h c2
        subst c3
        clear S1 S2 S3 hup hdn hpl hord c2 c1
        go_enter Tryz.func58, Tryz.ntmps58
        go_wp2_with fail
        refine hc.mono ?_; rintro e w1 ⟨rfl, hw⟩
        obtain rfl := hw.symm
        clear hc
        go_wp2
        exact bodyPost_ret (v := .float .f64 Z) (by simp [results, Tryz.results58, go_sem]) rfl ⟨rfl, Kp.refl _⟩
    · have e2 : (d == 1) = false := by simp [c3]
      have hc := hpl
      rw [S3 (fun h => c1 h.1) (fun h => c3 h.1)] at hc
      clear S1 S2 S3 hup hdn hpl hord c1 c3
      go_enter Tryz.func58, Tryz.ntmps58
      go_wp2_with fail
      refine hc.mono ?_; rintro e w1 ⟨rfl, hw⟩
      obtain rfl := hw.symm
      clear hc
      go_wp2
      exact bodyPost_ret (v := .float .f64 Z) (by simp [results, Tryz.results58, go_sem]) rfl ⟨rfl, Kp.refl _⟩
set_option maxRecDepth 20000 in
set_option maxHeartbeats 400000 in
theorem twoSum_ (n n' : Bool) (m m' K : Nat) (hK : 53 ≤ K) (hK2 : K + 12 ≤ 2097) (hm : m < 9218868437227405312) (hm' : m' < 9218868437227405312) (hx : (Iv n m).natAbs < 2 ^ K) (hy : (Iv n' m').natAbs < 2 ^ K) (V : Int) (hV : V = Iv n m + Iv n' m') : ∃ (s o : Bool) (r ro : Nat), (∀ w : World, Calls Tryz.prog 108 #[.float .f64 (Fq.wD n m), .float .f64 (Fq.wD n' m')] w fun e w' => e = .returned (.tuple #[.float .f64 (Fq.wD s r), .float .f64 (Fq.wD o ro)]) ∧ w' = w) ∧ r < 9218868437227405312 ∧ ro < 9218868437227405312 ∧ r = rgU 53 (rU 0 53 V.natAbs 1) ∧ s = (if V = 0 then n && n' else decide (V < 0)) ∧ Iv o ro = V - Iv s r := by
  obtain ⟨s, p, a, b, c, o, r, pr, ar, br, cr, ro, e1, e2, e3, e4, e5, e6, h1, h2, h3, h4, h5⟩ := two_words n n' m m' K hK hK2 hm hm' hx hy V hV
  refine ⟨s, o, r, ro, fun w => ?_, h1, h2, h3, h4, h5⟩
  obtain ⟨X, hX⟩ : ∃ X, X = Fq.wD n m := ⟨_, rfl⟩
  obtain ⟨Y, hY⟩ : ∃ Y, Y = Fq.wD n' m' := ⟨_, rfl⟩
  obtain ⟨N, hN⟩ : ∃ N, N = Fq.wD s r := ⟨_, rfl⟩
  obtain ⟨P, hP⟩ : ∃ P, P = Fq.wD p pr := ⟨_, rfl⟩
  obtain ⟨B, hB⟩ : ∃ B, B = Fq.wD a ar := ⟨_, rfl⟩
  obtain ⟨C, hC⟩ : ∃ C, C = Fq.wD b br := ⟨_, rfl⟩
  obtain ⟨D, hD⟩ : ∃ D, D = Fq.wD c cr := ⟨_, rfl⟩
  obtain ⟨O, hO⟩ : ∃ O, O = Fq.wD o ro := ⟨_, rfl⟩
  rw [← hX, ← hY, ← hN, ← hO]
  rw [← hX, ← hY, ← hN] at e1
  rw [← hX, ← hN, ← hP] at e2
  rw [← hN, ← hP, ← hB] at e3
  rw [← hX, ← hB, ← hC] at e4
  rw [← hY, ← hP, ← hD] at e5
  rw [← hC, ← hD, ← hO] at e6
  have g1 : ∀ w : World, (binOp .add 26 (.float .f64 X) (.float .f64 Y)).run Tryz.prog w = .ok (.float .f64 N) w := fun w => run_float_arith w .add 26 .f64 X Y N e1
  have g2 : ∀ w : World, (binOp .sub 26 (.float .f64 N) (.float .f64 X)).run Tryz.prog w = .ok (.float .f64 P) w := fun w => run_float_arith w .sub 26 .f64 N X P e2
  have g3 : ∀ w : World, (binOp .sub 26 (.float .f64 N) (.float .f64 P)).run Tryz.prog w = .ok (.float .f64 B) w := fun w => run_float_arith w .sub 26 .f64 N P B e3
  have g4 : ∀ w : World, (binOp .sub 26 (.float .f64 X) (.float .f64 B)).run Tryz.prog w = .ok (.float .f64 C) w := fun w => run_float_arith w .sub 26 .f64 X B C e4
  have g5 : ∀ w : World, (binOp .sub 26 (.float .f64 Y) (.float .f64 P)).run Tryz.prog w = .ok (.float .f64 D) w := fun w => run_float_arith w .sub 26 .f64 Y P D e5
  have g6 : ∀ w : World, (binOp .add 26 (.float .f64 C) (.float .f64 D)).run Tryz.prog w = .ok (.float .f64 O) w := fun w => run_float_arith w .add 26 .f64 C D O e6
  clear hX hY hN hP hB hC hD hO e1 e2 e3 e4 e5 e6 h1 h2 h3 h4 h5 hm hm' hx hy hV
  go_enter Tryz.func108, Tryz.ntmps108
  go_wp2
  exact bodyPost_ret (v := .tuple #[.float .f64 N, .float .f64 O]) (by simp [results, Tryz.results108, go_sem]) rfl ⟨rfl, rfl⟩
end Go.Proofs.YtinohggonicjhaaGreatDoor
