import Derived.Test.YtkheefoabcibkaaGreatDoorKQP
import Derived.Test.YtkheefoabcibkaaGreatDoorKXMR
import Derived.Test.YtkheefoabcibkaaGreatDoorKXNM
import Derived.Test.YtkheefoabcibkaaGreatDoorKXQJ
import Derived.Deep.DeepCutAuto
import Derived.Laws.Cover1
import Derived.Laws.Small
namespace Go.Proofs.YtkheefoabcibkaaGreatDoor
open Go.RowKit
set_option maxRecDepth 20000 in
set_option maxHeartbeats 400000 in
theorem upward_ (d : Int) (S r wh : Nat) (w : World) (hr : r < 4611686018427387904) :
    Calls Tryz.prog 121 #[.int .i64 d, .int .u64 (S : Int), .int .u64 (r : Int), .int .u64 (wh : Int)] w fun e w' => e = .returned (.bool (upw d S r wh)) ∧ w' = w := by
  unfold upw
  obtain ⟨r2, hr2⟩ : ∃ r2, r2 = 2 * r := ⟨_, rfl⟩
  have g1 : IntKind.u64.wrap (2 * (r : Int)) = (r2 : Int) := by rw [IntKind.wrap_u64]; omega
  rw [← hr2]
  by_cases c1 : d = 1
  · rw [if_pos c1]
    have e1 : (d == 1) = true := by simp [c1]
    clear hr g1 hr2 c1
    by_cases cr : 0 < r
    · rw [decide_eq_true cr]
      have t1 : 0 < (r : Int) := by omega
      clear cr
      go_enter Tryz.func121, Tryz.ntmps121
      go_wp2
      exact bodyPost_ret (v := .bool true) (by simp [results, Tryz.results121, go_sem] <;> omega) rfl ⟨rfl, rfl⟩
    · rw [decide_eq_false cr]
      have t1 : r = 0 := by omega
      subst t1
      clear cr
      go_enter Tryz.func121, Tryz.ntmps121
      go_wp2
      exact bodyPost_ret (v := .bool false) (by simp [results, Tryz.results121, go_sem] <;> omega) rfl ⟨rfl, rfl⟩
  · rw [if_neg c1]
    have e1 : (d == 1) = false := by simp [c1]
    by_cases c2 : d = -1
    · rw [if_pos c2]
      have e2 : (d == -1) = true := by simp [c2]
      clear hr g1 hr2 c1 c2
      go_enter Tryz.func121, Tryz.ntmps121
      go_wp2
      exact bodyPost_ret (v := .bool false) (by simp [results, Tryz.results121, go_sem] <;> omega) rfl ⟨rfl, rfl⟩
    · rw [if_neg c2]
      have e2 : (d == -1) = false := by simp [c2]
      clear hr hr2 c1 c2
      by_cases ca : wh < r2
      · rw [decide_eq_true ca]
        have t1 : (wh : Int) < (r2 : Int) := by omega
        rw [Bool.true_or]
        clear ca
        go_enter Tryz.func121, Tryz.ntmps121
        go_wp2
        exact bodyPost_ret (v := .bool true) (by simp [results, Tryz.results121, go_sem] <;> omega) rfl ⟨rfl, rfl⟩
      · rw [decide_eq_false ca, Bool.false_or]
        have t1 : ¬ ((wh : Int) < (r2 : Int)) := by omega
        by_cases cb : wh = r2
        · have t2 : ((r2 : Int) == (wh : Int)) = true := by simp; omega
          rw [decide_eq_true cb, Bool.true_and]
          have HC : Hid (wh = r2) := cb
          clear ca cb
          rcases (by omega : S % 2 = 0 ∨ S % 2 = 1) with cp | cp
          · have t3 : (S : Int) % 2 = 0 := by omega
            rw [cp]
            clear cp
            go_enter Tryz.func121, Tryz.ntmps121
            go_wp2
            exact bodyPost_ret (v := .bool false) (by simp [results, Tryz.results121, go_sem] <;> omega) rfl ⟨rfl, rfl⟩
          · have t3 : (S : Int) % 2 = 1 := by omega
            rw [cp]
            clear cp
            go_enter Tryz.func121, Tryz.ntmps121
            go_wp2
            exact bodyPost_ret (v := .bool true) (by simp [results, Tryz.results121, go_sem] <;> omega) rfl ⟨rfl, rfl⟩
        · have t2 : ((r2 : Int) == (wh : Int)) = false := by simp; omega
          rw [decide_eq_false cb, Bool.false_and]
          clear ca cb
          go_enter Tryz.func121, Tryz.ntmps121
          go_wp2
          exact bodyPost_ret (v := .bool false) (by simp [results, Tryz.results121, go_sem] <;> omega) rfl ⟨rfl, rfl⟩
set_option maxRecDepth 20000 in
set_option maxHeartbeats 400000 in
theorem minf_ (neg : Bool) (w : World) : Calls Tryz.prog 7 #[.int .i64 (if neg = true then -1 else 1)] w fun e w' => e = .returned (.float .f64 (Fq.wD neg 9218868437227405312)) ∧ w' = w := by
  have h1 : ∀ w : World, (callFunc 27 #[.int .u64 18442240474082181120]).run Tryz.prog w = .ok (.value (.float .f64 18442240474082181120)) w := fun w => Fq.ff64 18442240474082181120 w
  have h2 : ∀ w : World, (callFunc 27 #[.int .u64 9218868437227405312]).run Tryz.prog w = .ok (.value (.float .f64 9218868437227405312)) w := fun w => Fq.ff64 9218868437227405312 w
  cases neg
  · go_enter Tryz.func7, Tryz.ntmps7
    go_wp2
    exact bodyPost_ret (v := .float .f64 9218868437227405312) (by simp [results, Tryz.results7, go_sem]) rfl ⟨rfl, rfl⟩
  · go_enter Tryz.func7, Tryz.ntmps7
    go_wp2
    exact bodyPost_ret (v := .float .f64 18442240474082181120) (by simp [results, Tryz.results7, go_sem]) rfl ⟨rfl, rfl⟩
set_option maxRecDepth 20000 in
set_option maxHeartbeats 400000 in
theorem infD_false (w : World) : Calls Tryz.prog 113 #[.bool false] w fun e w' => e = .returned (.float .f64 (Fq.wD false 9218868437227405312)) ∧ w' = w := by
  have h := minf_ false w
  have h' : Calls Tryz.prog 7 #[.int .i64 (1)] w fun e w' => e = .returned (.float .f64 9218868437227405312) ∧ w' = w := h
  clear h
  go_enter Tryz.func113, Tryz.ntmps113
  go_wp2_with fail
  refine h'.mono ?_; rintro e w' ⟨rfl, hw'⟩; obtain rfl := hw'.symm; clear h' hw'
  go_wp2
  exact bodyPost_ret (v := .float .f64 9218868437227405312) (by simp [results, Tryz.results113, go_sem]) rfl ⟨rfl, rfl⟩
set_option maxRecDepth 20000 in
set_option maxHeartbeats 400000 in
theorem infD_true (w : World) : Calls Tryz.prog 113 #[.bool true] w fun e w' => e = .returned (.float .f64 (Fq.wD true 9218868437227405312)) ∧ w' = w := by
  have h := minf_ true w
  have h' : Calls Tryz.prog 7 #[.int .i64 (-1)] w fun e w' => e = .returned (.float .f64 18442240474082181120) ∧ w' = w := h
  clear h
  go_enter Tryz.func113, Tryz.ntmps113
  go_wp2_with fail
  refine h'.mono ?_; rintro e w' ⟨rfl, hw'⟩; obtain rfl := hw'.symm; clear h' hw'
  go_wp2
  exact bodyPost_ret (v := .float .f64 18442240474082181120) (by simp [results, Tryz.results113, go_sem]) rfl ⟨rfl, rfl⟩
theorem infD_ (neg : Bool) (w : World) : Calls Tryz.prog 113 #[.bool neg] w fun e w' => e = .returned (.float .f64 (Fq.wD neg 9218868437227405312)) ∧ w' = w := by
  cases neg
  · exact infD_false w
  · exact infD_true w
set_option maxRecDepth 20000 in
set_option maxHeartbeats 400000 in
theorem greDp_ (neg : Bool) (w : World) : Calls Tryz.prog 123 #[.bool neg] w fun e w' => e = .returned (.float .f64 (Fq.wD neg 9218868437227405311)) ∧ Fq.Grown w w' := by
  have h := infD_ neg w
  obtain ⟨Z, hZ⟩ : ∃ Z, Z = Fq.wD neg 9218868437227405312 := ⟨_, rfl⟩
  obtain ⟨Y, hY⟩ : ∃ Y, Y = Fq.wD neg 9218868437227405311 := ⟨_, rfl⟩
  cases neg
  · have hd := Fq.dn_d false 9218868437227405312 (by decide) (by decide) w
    rw [show Fq.fD (Fq.plz false 9218868437227405312 - 1) = Fq.wD false 9218868437227405311 from rfl, ← hZ, ← hY] at hd
    rw [← hZ] at h
    rw [← hY]
    clear hZ hY
    go_enter Tryz.func123, Tryz.ntmps123
    go_wp2_with fail
    refine h.mono ?_; rintro e w' ⟨rfl, hw'⟩; obtain rfl := hw'.symm; clear h hw'
    go_wp2_with fail
    refine hd.mono ?_; rintro e w1 ⟨rfl, hk⟩; clear hd
    go_wp2
    exact bodyPost_ret (v := .float .f64 Y) (by simp [results, Tryz.results123, go_sem]) rfl ⟨rfl, hk⟩
  · have hd := Fq.up_d true 9218868437227405312 (by decide) (by decide) w
    rw [show Fq.fD (Fq.plz true 9218868437227405312 + 1) = Fq.wD true 9218868437227405311 from rfl, ← hZ, ← hY] at hd
    rw [← hZ] at h
    rw [← hY]
    clear hZ hY
    go_enter Tryz.func123, Tryz.ntmps123
    go_wp2_with fail
    refine h.mono ?_; rintro e w' ⟨rfl, hw'⟩; obtain rfl := hw'.symm; clear h hw'
    go_wp2_with fail
    refine hd.mono ?_; rintro e w1 ⟨rfl, hk⟩; clear hd
    go_wp2
    exact bodyPost_ret (v := .float .f64 Y) (by simp [results, Tryz.results123, go_sem]) rfl ⟨rfl, hk⟩
set_option maxRecDepth 20000 in
set_option maxHeartbeats 400000 in
theorem fmtD_ (w : World) : Calls Tryz.prog 119 #[] w fun e w' => e = .returned (.tuple #[.int .i64 53, .int .i64 (-1074)]) ∧ Fq.Grown w w' := by
  have h1 := Fq.split_d false 4607182418800017408 (by decide)
  have h0 := Fq.split_d false 0 (by decide)
  rw [show Fq.wD false 4607182418800017408 = 4607182418800017408 from rfl, show (false && !(4607182418800017408 == 0)) = false from rfl, show (((Fq.sgD 4607182418800017408 : Nat) : Int)) = 4503599627370496 from by decide +kernel] at h1
  rw [show Fq.wD false 0 = 0 from rfl, show (false && !(0 == 0)) = false from rfl, show Fq.epD 0 = -1074 from by decide +kernel] at h0
  obtain ⟨e1, he1⟩ : ∃ e1, e1 = Fq.epD 4607182418800017408 := ⟨_, rfl⟩
  obtain ⟨s0, hs0⟩ : ∃ s0 : Int, s0 = ((Fq.sgD 0 : Nat) : Int) := ⟨_, rfl⟩
  rw [← he1] at h1
  rw [← hs0] at h0
  have hl := Fq.len64_ 4503599627370496 (by decide) (by decide)
  rw [show ((Lib.bitLen (4503599627370496 : Int).toNat : Nat) : Int) = 53 from by decide +kernel] at hl
  have c1 : floatOfInt .f64 1 = 4607182418800017408 := by decide +kernel
  have c0 : floatOfInt .f64 0 = 0 := by decide +kernel
  clear he1 hs0
  go_enter Tryz.func119, Tryz.ntmps119
  go_wp2_with fail
  refine (h1 _).mono ?_; rintro e w1 ⟨rfl, hk⟩; clear h1
  go_wp2_with fail
  refine (h0 _).mono ?_; rintro e w2 ⟨rfl, hk2⟩; clear h0
  have hk3 := Fq.gtrans hk hk2
  have hl2 := hl w2
  clear hl hk hk2
  go_wp2_with fail
  refine hl2.mono ?_; rintro e w' ⟨rfl, hw'⟩; obtain rfl := hw'.symm; clear hl2 hw'
  go_wp2
  exact bodyPost_ret (v := .tuple #[.int .i64 53, .int .i64 (-1074)]) (by simp [results, Tryz.results119, go_sem]) rfl ⟨rfl, hk3⟩
theorem noTop (n : Bool) (m X : Nat) (hm : m < 9223372036854775808) (hX : X = Fq.wD n m) : bits BinOp.andNot IntKind.u64 (X : Int) 9223372036854775808 = (m : Int) ∧ X < 18446744073709551616 := by
  have hX9 : X < 18446744073709551616 := by rw [hX]; unfold Fq.wD; split <;> omega
  have h := u64_andNot_nat X 9223372036854775808 hX9 (by decide)
  have e : X % 9223372036854775808 = m := by rw [hX]; unfold Fq.wD; split <;> omega
  rw [show 18446744073709551615 - 9223372036854775808 = 2 ^ 63 - 1 from by decide, Nat.and_two_pow_sub_one_eq_mod, show (2 : Nat) ^ 63 = 9223372036854775808 from by decide, e] at h
  exact ⟨h, hX9⟩
set_option maxRecDepth 20000 in
set_option maxHeartbeats 400000 in
theorem abs_ (n : Bool) (m : Nat) (hm : m < 9223372036854775808) (w : World) : Calls Tryz.prog 58 #[.float .f64 (Fq.wD n m)] w fun e w' => e = .returned (.float .f64 m) ∧ w' = w := by
  obtain ⟨X, hX⟩ : ∃ X, X = Fq.wD n m := ⟨_, rfl⟩
  have f1 := (noTop n m X hm hX).1
  rw [← hX]
  clear hX hm
  have h1 := Fq.fb64 X
  have h2 := Fq.ff64 m
  go_enter Tryz.func58, Tryz.ntmps58
  go_wp2
  exact bodyPost_ret (v := .float .f64 m) (by simp [results, Tryz.results58, go_sem]) rfl ⟨rfl, rfl⟩
open Ieee in
theorem fin_order (m : Nat) (hm : m < 9223372036854775808) : (FloatKind.f64.format.order m 9218868437227405311 == some Ordering.lt || FloatKind.f64.format.order m 9218868437227405311 == some Ordering.eq) = decide (m < 9218868437227405312) := by
  have hf : FloatKind.f64.format = double := rfl
  have hi : double.infRung = 9218868437227405312 := by decide +kernel
  have hw : double.signWeight = 9223372036854775808 := by decide +kernel
  have hb : double.binade ≤ double.infRung := by decide +kernel
  have r1 : Fq.rg double m = m := by unfold Fq.rg; rw [hw]; exact Nat.mod_eq_of_lt hm
  have r2 : Fq.rg double 9218868437227405311 = 9218868437227405311 := by unfold Fq.rg; rw [hw]
  have p1 : Fq.pl double m = (m : Int) := by
    unfold Fq.pl Fq.ng
    rw [r1, hw, Nat.div_eq_of_lt hm]; rfl
  have p2 : Fq.pl double 9218868437227405311 = 9218868437227405311 := by
    unfold Fq.pl Fq.ng
    rw [r2, hw]; rfl
  rw [hf]
  by_cases c : m ≤ 9218868437227405312
  · rw [Fq.order_num double m 9218868437227405311 hb (by rw [r1, hi]; exact c) (by rw [r2, hi]; decide), p1, p2]
    by_cases c1 : m < 9218868437227405312
    · rw [decide_eq_true c1]
      by_cases c2 : m = 9218868437227405311
      · rw [c2]; rfl
      · rw [show compare (m : Int) 9218868437227405311 = Ordering.lt from by rw [Int.compare_eq_lt]; omega]; rfl
    · rw [decide_eq_false c1, show compare (m : Int) 9218868437227405311 = Ordering.gt from by rw [Int.compare_eq_gt]; omega]; rfl
  · rw [Fq.order_nan_left double m 9218868437227405311 hb (by rw [r1, hi]; omega), decide_eq_false (by omega)]; rfl
set_option maxRecDepth 20000 in
set_option maxHeartbeats 400000 in
theorem finite_ (n : Bool) (m : Nat) (hm : m < 9223372036854775808) (w : World) : Calls Tryz.prog 50 #[.float .f64 (Fq.wD n m)] w fun e w' => e = .returned (.bool (decide (m < 9218868437227405312))) ∧ w' = w := by
  have h := abs_ n m hm w
  obtain ⟨X, hX⟩ : ∃ X, X = Fq.wD n m := ⟨_, rfl⟩
  rw [← hX] at h ⊢
  clear hX
  go_enter Tryz.func50, Tryz.ntmps50
  go_wp2_with fail
  refine h.mono ?_; rintro e w' ⟨rfl, hw'⟩; obtain rfl := hw'.symm; clear h hw'
  go_wp2
  exact bodyPost_ret (v := .bool (decide (m < 9218868437227405312))) (by rw [← fin_order m hm]; simp [results, Tryz.results50, go_sem]) rfl ⟨rfl, rfl⟩
set_option maxRecDepth 20000 in
set_option maxHeartbeats 1000000 in
theorem prndD_ (d : Int) (neg : Bool) (sig : Nat) (exp : Int) (w : World) (hT : Fq.Tab w) (hd1 : -9223372036854775808 ≤ d) (hd2 : d < 9223372036854775808) (hs : sig < 1152921504606846976) (he1 : -4194304 ≤ exp) (he2 : exp ≤ 4194304) :
    Calls Tryz.prog 90 #[.int .i64 d, .bool neg, .int .u64 (sig : Int), .int .i64 exp] w fun e w' => e = .returned (.float .f64 (pW 9223372036854775808 neg (finU 53 2098 9218868437227405311 9218868437227405312 (dirN neg d) (rV (dirN neg d) 53 sig 1 (exp + 1074))))) ∧ Fq.Grown w w' := by
  obtain ⟨dm, hdm⟩ : ∃ dm, dm = dirN neg d := ⟨_, rfl⟩
  obtain ⟨d', hd'⟩ : ∃ d' : Int, d' = if neg = true then wrap64 (-d) else d := ⟨_, rfl⟩
  have hdd : (d' = 1 ↔ dm = 1) ∧ (d' = -1 ↔ dm = -1) := by
    rw [hd', hdm]; unfold dirN
    cases neg
    · simp
    · simp only [if_true]
      by_cases c : d = -9223372036854775808
      · rw [c]; unfold wrap64; omega
      · rw [show wrap64 (-d) = -d from by unfold wrap64; omega]; exact ⟨Iff.rfl, Iff.rfl⟩
  have hupd : ∀ a b c, upw d' a b c = upw dm a b c := fun a b c => by unfold upw; simp only [hdd.1, hdd.2]
  obtain ⟨bl, hbl⟩ : ∃ bl, bl = blen sig := ⟨_, rfl⟩
  obtain ⟨tt, htt⟩ : ∃ tt : Int, tt = exp + 1074 := ⟨_, rfl⟩
  obtain ⟨Lx, hLx⟩ : ∃ Lx : Nat, (Lx : Int) = max (max tt (tt + bl - 53)) 0 := ⟨(max (max tt (tt + bl - 53)) 0).toNat, by omega⟩
  obtain ⟨c, hc9⟩ : ∃ c : Nat, (c : Int) = Lx - tt := ⟨(Lx - tt).toNat, by omega⟩
  obtain ⟨hV, hlt⟩ := prog_round dm 53 sig tt Lx c (by decide) (by rw [hLx, hbl]; rfl) hc9
  obtain ⟨U, hU⟩ : ∃ U, U = rV dm 53 sig 1 tt := ⟨_, rfl⟩
  obtain ⟨kp, hkp⟩ : ∃ kp, kp = sig / 2 ^ c + (upw dm (sig / 2 ^ c) (sig % 2 ^ c) (2 ^ c)).toNat := ⟨_, rfl⟩
  rw [← hU, ← hkp] at hV
  have hkb : kp ≤ 9007199254740992 := by
    rw [show (2 : Nat) ^ 53 = 9007199254740992 from by decide] at hlt
    rw [hkp]
    have := Bool.toNat_le (upw dm (sig / 2 ^ c) (sig % 2 ^ c) (2 ^ c))
    omega
  have hcut := cut61 dm sig c hs kp hkp
  obtain ⟨ct, hct⟩ : ∃ ct, ct = min c 61 := ⟨_, rfl⟩
  rw [← hct] at hcut
  obtain ⟨k0, hk0⟩ : ∃ k0, k0 = sig / 2 ^ ct := ⟨_, rfl⟩
  obtain ⟨rs, hrs⟩ : ∃ rs, rs = sig % 2 ^ ct := ⟨_, rfl⟩
  obtain ⟨wh, hwh⟩ : ∃ wh, wh = 2 ^ ct := ⟨_, rfl⟩
  obtain ⟨ub, hub⟩ : ∃ ub, ub = upw dm k0 rs wh := ⟨_, rfl⟩
  rw [← hk0, ← hrs, ← hwh, ← hub] at hcut
  obtain ⟨last, hlast⟩ : ∃ last : Int, last = (Lx : Int) - 1074 := ⟨_, rfl⟩
  rw [← hdm, ← htt, ← hU]
  have bl60 : bl ≤ 60 := by rw [hbl]; exact blen_lt sig 60 (by rw [show (2 : Nat) ^ 60 = 1152921504606846976 from by decide]; exact hs)
  have hlen : ∀ w : World, Calls Tryz.prog 120 #[.int .u64 (sig : Int)] w fun e w' => e = .returned (.int .i64 (bl : Int)) ∧ w' = w := fun w => by
    have h := Fq.len64_ (sig : Int) (by omega) (by omega) w
    rw [Int.toNat_natCast] at h
    have e : Lib.bitLen sig = bl := by
      by_cases c0 : sig = 0
      · rw [hbl, c0, blen_zero]; decide
      · rw [hbl]; exact bitLen_blen sig c0 (by omega)
    rw [e] at h
    exact h
  have hct2 : ct ≤ 61 := by rw [hct]; exact Nat.min_le_right _ _
  have hwh2 : wh ≤ 2305843009213693952 := by
    rw [hwh]
    have : (2 : Nat) ^ ct ≤ 2 ^ 61 := Nat.pow_le_pow_right (by omega) hct2
    rw [show (2 : Nat) ^ 61 = 2305843009213693952 from by decide] at this
    exact this
  have hdiv : sig = k0 * wh + rs := by rw [hk0, hrs, hwh, Nat.mul_comm]; exact (Nat.div_add_mod _ _).symm
  have hrl : rs ≤ sig := by rw [hrs]; exact Nat.mod_le _ _
  obtain ⟨kc, hkc⟩ : ∃ kc, kc = k0 * wh := ⟨_, rfl⟩
  have f1 : (sig : Int) / (wh : Int) = (k0 : Int) := by rw [hk0, hwh]; exact (Int.natCast_ediv _ _).symm
  have f2 : (k0 : Int) * (wh : Int) = (kc : Int) := by rw [hkc]; exact (Int.natCast_mul _ _).symm
  have f2' : IntKind.u64.wrap (kc : Int) = (kc : Int) := by rw [IntKind.wrap_u64]; omega
  have f3 : IntKind.u64.wrap ((sig : Int) - (kc : Int)) = (rs : Int) := by rw [IntKind.wrap_u64]; omega
  have f4 : (2 : Int) ^ ct = (wh : Int) := by rw [hwh]; push_cast; rfl
  have f4' : IntKind.u64.wrap (wh : Int) = (wh : Int) := by rw [IntKind.wrap_u64]; omega
  have hup : ∀ w : World, Calls Tryz.prog 121 #[.int .i64 d', .int .u64 (k0 : Int), .int .u64 (rs : Int), .int .u64 (wh : Int)] w fun e w' => e = .returned (.bool ub) ∧ w' = w := fun w => by
    have h := upward_ d' k0 rs wh w (by omega)
    rw [hupd, ← hub] at h
    exact h
  have g1 : wrap64 (exp + (bl : Int)) = exp + (bl : Int) := w64x _ (by omega) (by omega)
  have g2 : wrap64 (exp + (bl : Int) - 53) = exp + (bl : Int) - 53 := w64x _ (by omega) (by omega)
  have g3 : ∀ w : World, (Builtin.max_ #[3, 3, 3] 3 #[.int .i64 exp, .int .i64 (exp + (bl : Int) - 53), .int .i64 (-1074)]).run Tryz.prog w = .ok (.int .i64 last) w := fun w => by
    rw [run_max_int3]
    congr 2
    rw [hlast]
    split <;> split <;> omega
  have g4 : wrap64 (last - exp) = (c : Int) := by rw [show last - exp = (c : Int) from by omega]; exact w64x _ (by omega) (by omega)
  have g5 : ∀ w : World, (Builtin.min_ #[3, 3] 3 #[.int .i64 (c : Int), .int .i64 61]).run Tryz.prog w = .ok (.int .i64 (ct : Int)) w := fun w => by
    rw [run_min_int2]
    congr 2
    split <;> omega
  have HC : Hid (U = kp * 2 ^ Lx ∧ kp = k0 + ub.toNat ∧ kp ≤ 9007199254740992 ∧ last = (Lx : Int) - 1074 ∧ k0 ≤ 1152921504606846976 ∧ -8388608 ≤ last ∧ last ≤ 8388608) := ⟨hV, hcut, hkb, hlast, by rw [hk0]; exact Nat.le_trans (Nat.div_le_self _ _) (by omega), by omega, by omega⟩
  have HD : Hid ((d' = 1 ↔ dm = 1) ∧ (d' = -1 ↔ dm = -1)) := hdd
  have HD' : Hid (d' = if neg = true then wrap64 (-d) else d) := hd'
  have HT : Hid (Fq.Tab w) := hT
  have t61 : ct ≤ 61 := hct2
  clear hd1 hd2 hs he1 he2 hdd hupd hd' hdm hbl htt hLx hc9 hV hlt hU hkp hkb hcut hct hk0 hrs hwh hub hlast bl60 hct2 hwh2 hdiv hrl hkc hT
  go_enter Tryz.func90, Tryz.ntmps90
  go_upto_if 16 with fail
  go_cut [0] (fun s0 wx => s0 = .int .i64 d' ∧ wx = w)
  case first =>
    have h1 := HD'.out
    cases neg
    · have a1 : d' = d := by rw [h1]; rfl
      clear h1 HC HD HD' HT
      go_wp2_with fail
      go_meet
      exact ⟨by rw [a1], rfl⟩
    · have a1 : d' = wrap64 (-d) := by rw [h1]; rfl
      clear h1 HC HD HD' HT
      go_wp2_with fail
      go_meet
      exact ⟨by rw [a1], rfl⟩
  case rest =>
  obtain ⟨rfl, hwc⟩ := hcut
  obtain rfl := hwc.symm
  clear hwc HD'
  have hf := fmtD_ w
  go_wp2_with fail
  refine hf.mono ?_; rintro e w1 ⟨rfl, hg1⟩
  have hl := hlen w1
  clear hf hlen
  go_wp2_with fail
  refine hl.mono ?_; rintro e w' ⟨rfl, hw'⟩; obtain rfl := hw'.symm; clear hl hw'
  go_upto_region 7 with fail
  go_quiet ((go_at_call 121; exact Calls.quiet_of_same (hup _)))
  have hg2 : Fq.Grown w (w1.drewN nq) := Fq.gdrewN nq hg1
  obtain ⟨w2, hw2⟩ : ∃ w2, w2 = w1.drewN nq := ⟨_, rfl⟩
  rw [← hw2] at hg2 ⊢
  clear hup hg1 hw2 f1 f2 f2' f3 f4 f4' g1 g2 g3 g4 g5
  go_upto_if 48 with fail
  go_cut [13] (fun s13 wx => s13 = .int .u64 (kp : Int) ∧ wx = w2)
  case first =>
    obtain ⟨_, h1, _, _, h2, _⟩ := HC.out
    cases ub
    · have a1 : kp = k0 := by rw [h1]; rfl
      clear h1 h2 HC HD HT
      go_wp2_with fail
      go_meet
      exact ⟨by rw [a1], rfl⟩
    · have a1 : kp = k0 + 1 := by rw [h1]; rfl
      have a2 : IntKind.u64.wrap ((k0 : Int) + 1) = (kp : Int) := by rw [IntKind.wrap_u64]; omega
      clear h1 h2 a1 HC HD HT
      go_wp2_with fail
      go_meet
      exact ⟨by first | rfl | rw [a2], rfl⟩
  case rest =>
  obtain ⟨rfl, hwc⟩ := hcut
  obtain rfl := hwc.symm
  clear hwc
  by_cases c0 : kp = 0
  · have hj := Fq.joinz_d neg last w2
    have HR : Hid (pW 9223372036854775808 neg (finU 53 2098 9218868437227405311 9218868437227405312 dm U) = 0) := by
      show _ = _
      rw [HC.out.1, c0, Nat.zero_mul]
      unfold finU
      rw [blen_zero, if_pos (by omega), rgU_zero]
      rfl
    subst c0
    clear HC HD HT
    go_wp2_with fail
    refine hj.mono ?_; rintro e w' ⟨rfl, hw'⟩; obtain rfl := hw'.symm; clear hj hw'
    go_wp2
    exact bodyPost_ret (v := .float .f64 0) (by simp [results, Tryz.results90, go_sem]) rfl ⟨by rw [HR.out], hg2⟩
  · obtain ⟨o, k, ho, ek, ok64, jiff, jrg⟩ := joinPD kp Lx U last c0 HC.out.2.2.1 HC.out.2.2.2.1 HC.out.1
    have hl9 := HC.out.2.2.2.2.2
    by_cases cb : blen U ≤ 2098
    · obtain ⟨r1, r2⟩ := jrg cb
      have hj := Fq.join_d neg o k ho ok64 last (by omega) (by omega) (jiff.2 cb) w2 (HT.out.grown hg2)
      rw [← ek, r1] at hj
      obtain ⟨Y, hY⟩ : ∃ Y, Y = Fq.wD neg (rgU 53 U) := ⟨_, rfl⟩
      rw [← hY] at hj
      have HR : Hid (pW 9223372036854775808 neg (finU 53 2098 9218868437227405311 9218868437227405312 dm U) = Y) := by
        show _ = _
        rw [hY]; unfold finU pW; rw [if_pos cb, if_neg r2]; rfl
      clear hY r1 r2 jrg jiff ok64 ek ho cb HC HD HT c0 hl9
      go_wp2_with fail
      refine hj.mono ?_; rintro e w3 ⟨rfl, hk⟩; clear hj
      have hg3 := Fq.gtrans hg2 hk
      clear hk hg2
      go_wp2
      exact bodyPost_ret (v := .float .f64 Y) (by simp [results, Tryz.results90, go_sem]) rfl ⟨by rw [HR.out], hg3⟩
    · have hj := Fq.joinx_d neg o k ho ok64 last (by omega) (by omega) (by cases hq : Fq.jokD o (last + (k : Int)) with | false => rfl | true => exact absurd (jiff.1 hq) cb) w2 (HT.out.grown hg2)
      rw [← ek] at hj
      by_cases cd : dm = -1
      · have t1 : (d' == -1) = true := by have := HD.out.2.2 cd; simp [this]
        obtain ⟨Y, hY⟩ : ∃ Y, Y = Fq.wD neg 9218868437227405311 := ⟨_, rfl⟩
        have hgr := greDp_ neg
        rw [← hY] at hgr
        have HR : Hid (pW 9223372036854775808 neg (finU 53 2098 9218868437227405311 9218868437227405312 dm U) = Y) := by
          show _ = _
          rw [hY]; unfold finU pW; rw [if_neg cb, if_pos cd, if_neg (by decide)]; rfl
        clear hY jrg jiff ok64 ek ho cb HC HD HT c0 hl9 cd
        go_wp2_with fail
        refine hj.mono ?_; rintro e w3 ⟨rfl, hk⟩; clear hj
        have hg3 := Fq.gtrans hg2 hk
        have hgr2 := hgr w3
        clear hk hg2 hgr
        go_wp2_with fail
        refine hgr2.mono ?_; rintro e w4 ⟨rfl, hk⟩; clear hgr2
        have hg4 := Fq.gtrans hg3 hk
        clear hk hg3
        go_wp2
        exact bodyPost_ret (v := .float .f64 Y) (by simp [results, Tryz.results90, go_sem]) rfl ⟨by rw [HR.out], hg4⟩
      · have t1 : (d' == -1) = false := by have := mt HD.out.2.1 cd; simp [this]
        obtain ⟨Y, hY⟩ : ∃ Y, Y = Fq.wD neg 9218868437227405312 := ⟨_, rfl⟩
        have hgr := infD_ neg
        rw [← hY] at hgr
        have HR : Hid (pW 9223372036854775808 neg (finU 53 2098 9218868437227405311 9218868437227405312 dm U) = Y) := by
          show _ = _
          rw [hY]; unfold finU pW; rw [if_neg cb, if_neg cd, if_neg (by decide)]; rfl
        clear hY jrg jiff ok64 ek ho cb HC HD HT c0 hl9 cd
        go_wp2_with fail
        refine hj.mono ?_; rintro e w3 ⟨rfl, hk⟩; clear hj
        have hg3 := Fq.gtrans hg2 hk
        have hgr2 := hgr w3
        clear hk hg2 hgr
        go_wp2_with fail
        refine hgr2.mono ?_; rintro e w' ⟨rfl, hw'⟩; obtain rfl := hw'.symm; clear hgr2 hw'
        go_wp2
        exact bodyPost_ret (v := .float .f64 Y) (by simp [results, Tryz.results90, go_sem]) rfl ⟨by rw [HR.out], hg3⟩
end Go.Proofs.YtkheefoabcibkaaGreatDoor
