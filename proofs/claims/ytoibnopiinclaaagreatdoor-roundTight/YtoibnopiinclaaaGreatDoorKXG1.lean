import Derived.Test.YtoibnopiinclaaaGreatDoorKBY
import Derived.Test.YtoibnopiinclaaaGreatDoorKXMR
set_option maxHeartbeats 400000
set_option maxRecDepth 20000
namespace Go.Proofs.YtoibnopiinclaaaGreatDoor
open Go.RowKit
theorem w64x (z:Int) (h0:-1099511627776≤z) (h1:z≤1099511627776):wrap64 z = z:=by unfold wrap64;omega
theorem rsign_ (neg:Bool) (vn vd:Value) (n:Nat) (w:World) (hn:Ls w vn (dig n)) (l:blen n≤33554432) :
    Calls Tryz.prog 10 #[.agg #[.bool neg,vn,vd]] w fun e w'=>e = .returned (.int .i64 (if n = 0 then 0 else if neg then -1 else 1))∧Kp w w':=by
  obtain ⟨w0,hw0⟩:∃ w0,w0 = w.alloc (.cells #[.bool neg,vn,vd] 32):=⟨_,rfl⟩
  have hk0:Kp w w0:=by rw [hw0];exact (Kp.refl w).alloc _
  have c0:w0.cell? ⟨w.heap.size,0,none⟩ = some (.bool neg):=by rw [hw0];simp [go_sem]
  have hc:=normR vn (dig n) w0 (hn.kp hk0) (Wd_dig n) (dlen n 1048576 (by omega))
  rw [val_dig] at hc
  have hlz:=dig_len_zero n
  obtain ⟨M,hM⟩:∃ M,M = (dig n).length:=⟨_,rfl⟩
  have HM:Hid (M = (dig n).length):=hM
  rw [← hM] at hlz
  clear hn l hM
  by_cases cz:n = 0
  · have hM0:M = 0:=hlz.2 cz
    rw [if_pos cz]
    clear hlz cz
    go_enter Tryz.func10,Tryz.ntmps10
    go_wp2_with fail
    rw [← hw0]
    refine hc.mono ?_;rintro e w1 ⟨v1,rfl,⟨p1,c1,rfl,_,_⟩,hk⟩
    rw [← HM.out]
    subst hM0
    have K1:Kp w w1:=hk0.trans hk
    clear hc hk hw0 hk0 c0
    go_wp2
    exact bodyPost_ret (v:=.int .i64 0) (by simp [results,Tryz.results10,go_sem]) rfl ⟨rfl,K1⟩
  · have hM0:¬ ((M:Int) = 0):=by have:=mt hlz.1 cz;omega
    rw [if_neg cz]
    clear hlz cz
    go_enter Tryz.func10,Tryz.ntmps10
    go_wp2_with fail
    rw [← hw0]
    refine hc.mono ?_;rintro e w1 ⟨v1,rfl,⟨p1,c1,rfl,_,_⟩,hk⟩
    rw [← HM.out]
    have K1:Kp w w1:=hk0.trans hk
    have c1':=kkeep hk c0
    clear hc hk hw0 hk0 c0
    cases neg
    · go_wp2
      exact bodyPost_ret (v:=.int .i64 1) (by simp [results,Tryz.results10,go_sem]) rfl ⟨rfl,K1⟩
    · go_wp2
      exact bodyPost_ret (v:=.int .i64 (-1)) (by simp [results,Tryz.results10,go_sem]) rfl ⟨rfl,K1⟩
theorem noTop (n:Bool) (m X:Nat) (hm:m < 9223372036854775808) (hX:X = Fq.wD n m):bits BinOp.andNot IntKind.u64 (X:Int) 9223372036854775808 = (m:Int)∧X < 18446744073709551616:=by
  have hX9:X < 18446744073709551616:=by rw [hX];unfold Fq.wD;split <;> omega
  have h:=u64_andNot_nat X 9223372036854775808 hX9 (by decide)
  have e:X % 9223372036854775808 = m:=by rw [hX];unfold Fq.wD;split <;> omega
  rw [show 18446744073709551615 - 9223372036854775808 = 2 ^ 63 - 1 from by decide,Nat.and_two_pow_sub_one_eq_mod,show (2:Nat) ^ 63 = 9223372036854775808 from by decide,e] at h
  exact ⟨h,hX9⟩
theorem fl_ (X:Nat) (w:World):Calls Tryz.prog 8 #[.int .u64 (X:Int)] w fun e w'=>e = .returned (.float .f64 X)∧w' = w:=by
  have h:=Fq.ff64 X
  go_enter Tryz.func8,Tryz.ntmps8
  go_wp2
  exact bodyPost_ret (v:=.float .f64 X) (by simp [results,Tryz.results8,go_sem]) rfl ⟨rfl,rfl⟩
theorem abs_ (n:Bool) (m:Nat) (hm:m < 9223372036854775808) (w:World):Calls Tryz.prog 47 #[.float .f64 (Fq.wD n m)] w fun e w'=>e = .returned (.float .f64 m)∧w' = w:=by
  obtain ⟨X,hX⟩:∃ X,X = Fq.wD n m:=⟨_,rfl⟩
  have f1:=(noTop n m X hm hX).1
  rw [← hX]
  clear hX hm
  have h1:=Fq.fb64 X
  have h2:=Fq.ff64 m
  go_enter Tryz.func47,Tryz.ntmps47
  go_wp2
  exact bodyPost_ret (v:=.float .f64 m) (by simp [results,Tryz.results47,go_sem]) rfl ⟨rfl,rfl⟩
open Ieee in
theorem fin_order (m:Nat) (hm:m < 9223372036854775808):(FloatKind.f64.format.order m 9218868437227405311 == some Ordering.lt || FloatKind.f64.format.order m 9218868437227405311 == some Ordering.eq) = decide (m < 9218868437227405312):=by
  have hf:FloatKind.f64.format = double:=rfl
  have hi:double.infRung = 9218868437227405312:=by decide +kernel
  have hw:double.signWeight = 9223372036854775808:=by decide +kernel
  have hb:double.binade≤double.infRung:=by decide +kernel
  have r1:Fq.rg double m = m:=by unfold Fq.rg;rw [hw];exact Nat.mod_eq_of_lt hm
  have r2:Fq.rg double 9218868437227405311 = 9218868437227405311:=by unfold Fq.rg;rw [hw]
  have p1:Fq.pl double m = (m:Int):=by
    unfold Fq.pl Fq.ng
    rw [r1,hw,Nat.div_eq_of_lt hm];rfl
  have p2:Fq.pl double 9218868437227405311 = 9218868437227405311:=by
    unfold Fq.pl Fq.ng
    rw [r2,hw];rfl
  rw [hf]
  by_cases c:m≤9218868437227405312
  · rw [Fq.order_num double m 9218868437227405311 hb (by rw [r1,hi];exact c) (by rw [r2,hi];decide),p1,p2]
    by_cases c1:m < 9218868437227405312
    · rw [decide_eq_true c1]
      by_cases c2:m = 9218868437227405311
      · rw [c2];rfl
      · rw [show compare (m:Int) 9218868437227405311 = Ordering.lt from by rw [Int.compare_eq_lt];omega];rfl
    · rw [decide_eq_false c1,show compare (m:Int) 9218868437227405311 = Ordering.gt from by rw [Int.compare_eq_gt];omega];rfl
  · rw [Fq.order_nan_left double m 9218868437227405311 hb (by rw [r1,hi];omega),decide_eq_false (by omega)];rfl
theorem finite_ (n:Bool) (m:Nat) (hm:m < 9223372036854775808) (w:World):Calls Tryz.prog 21 #[.float .f64 (Fq.wD n m)] w fun e w'=>e = .returned (.bool (decide (m < 9218868437227405312)))∧w' = w:=by
  have h:=abs_ n m hm w
  obtain ⟨X,hX⟩:∃ X,X = Fq.wD n m:=⟨_,rfl⟩
  rw [← hX] at h ⊢
  clear hX
  go_enter Tryz.func21,Tryz.ntmps21
  go_wp2_with fail
  refine h.mono ?_;rintro e w' ⟨rfl,hw'⟩;obtain rfl:=hw'.symm;clear h hw'
  go_wp2
  exact bodyPost_ret (v:=.bool (decide (m < 9218868437227405312))) (by rw [← fin_order m hm];simp [results,Tryz.results21,go_sem]) rfl ⟨rfl,rfl⟩
theorem upward_ (d:Int) (S r wh:Nat) (w:World) (hr:r < 4611686018427387904) :
    Calls Tryz.prog 108 #[.int .i64 d,.int .u64 (S:Int),.int .u64 (r:Int),.int .u64 (wh:Int)] w fun e w'=>e = .returned (.bool (upw d S r wh))∧w' = w:=by
  unfold upw
  obtain ⟨r2,hr2⟩:∃ r2,r2 = 2 * r:=⟨_,rfl⟩
  have g1:IntKind.u64.wrap (2 * (r:Int)) = (r2:Int):=by rw [IntKind.wrap_u64];omega
  rw [← hr2]
  by_cases c1:d = 1
  · rw [if_pos c1]
    have e1:(d == 1) = true:=by simp [c1]
    clear hr g1 hr2 c1
    by_cases cr:0 < r
    · rw [decide_eq_true cr]
      have t1:0 < (r:Int):=by omega
      clear cr
      go_enter Tryz.func108,Tryz.ntmps108
      go_wp2
      exact bodyPost_ret (v:=.bool true) (by simp [results,Tryz.results108,go_sem] <;> omega) rfl ⟨rfl,rfl⟩
    · rw [decide_eq_false cr]
      have t1:r = 0:=by omega
      subst t1
      clear cr
      go_enter Tryz.func108,Tryz.ntmps108
      go_wp2
      exact bodyPost_ret (v:=.bool false) (by simp [results,Tryz.results108,go_sem] <;> omega) rfl ⟨rfl,rfl⟩
  · rw [if_neg c1]
    have e1:(d == 1) = false:=by simp [c1]
    by_cases c2:d = -1
    · rw [if_pos c2]
      have e2:(d == -1) = true:=by simp [c2]
      clear hr g1 hr2 c1 c2
      go_enter Tryz.func108,Tryz.ntmps108
      go_wp2
      exact bodyPost_ret (v:=.bool false) (by simp [results,Tryz.results108,go_sem] <;> omega) rfl ⟨rfl,rfl⟩
    · rw [if_neg c2]
      have e2:(d == -1) = false:=by simp [c2]
      clear hr hr2 c1 c2
      by_cases ca:wh < r2
      · rw [decide_eq_true ca]
        have t1:(wh:Int) < (r2:Int):=by omega
        rw [Bool.true_or]
        clear ca
        go_enter Tryz.func108,Tryz.ntmps108
        go_wp2
        exact bodyPost_ret (v:=.bool true) (by simp [results,Tryz.results108,go_sem] <;> omega) rfl ⟨rfl,rfl⟩
      · rw [decide_eq_false ca,Bool.false_or]
        have t1:¬ ((wh:Int) < (r2:Int)):=by omega
        by_cases cb:wh = r2
        · have t2:((r2:Int) == (wh:Int)) = true:=by simp;omega
          rw [decide_eq_true cb,Bool.true_and]
          have HC:Hid (wh = r2):=cb
          clear ca cb
          rcases (by omega:S % 2 = 0∨S % 2 = 1) with cp | cp
          · have t3:(S:Int) % 2 = 0:=by omega
            rw [cp]
            clear cp
            go_enter Tryz.func108,Tryz.ntmps108
            go_wp2
            exact bodyPost_ret (v:=.bool false) (by simp [results,Tryz.results108,go_sem] <;> omega) rfl ⟨rfl,rfl⟩
          · have t3:(S:Int) % 2 = 1:=by omega
            rw [cp]
            clear cp
            go_enter Tryz.func108,Tryz.ntmps108
            go_wp2
            exact bodyPost_ret (v:=.bool true) (by simp [results,Tryz.results108,go_sem] <;> omega) rfl ⟨rfl,rfl⟩
        · have t2:((r2:Int) == (wh:Int)) = false:=by simp;omega
          rw [decide_eq_false cb,Bool.false_and]
          clear ca cb
          go_enter Tryz.func108,Tryz.ntmps108
          go_wp2
          exact bodyPost_ret (v:=.bool false) (by simp [results,Tryz.results108,go_sem] <;> omega) rfl ⟨rfl,rfl⟩
theorem minf_ (neg:Bool) (w:World):Calls Tryz.prog 101 #[.int .i64 (if neg = true then -1 else 1)] w fun e w'=>e = .returned (.float .f64 (Fq.wD neg 9218868437227405312))∧w' = w:=by
  have h1:∀ w:World,(callFunc 25 #[.int .u64 18442240474082181120]).run Tryz.prog w = .ok (.value (.float .f64 18442240474082181120)) w:=fun w=>Fq.ff64 18442240474082181120 w
  have h2:∀ w:World,(callFunc 25 #[.int .u64 9218868437227405312]).run Tryz.prog w = .ok (.value (.float .f64 9218868437227405312)) w:=fun w=>Fq.ff64 9218868437227405312 w
  cases neg
  · go_enter Tryz.func101,Tryz.ntmps101
    go_wp2
    exact bodyPost_ret (v:=.float .f64 9218868437227405312) (by simp [results,Tryz.results101,go_sem]) rfl ⟨rfl,rfl⟩
  · go_enter Tryz.func101,Tryz.ntmps101
    go_wp2
    exact bodyPost_ret (v:=.float .f64 18442240474082181120) (by simp [results,Tryz.results101,go_sem]) rfl ⟨rfl,rfl⟩
theorem infD_false (w:World):Calls Tryz.prog 70 #[.bool false] w fun e w'=>e = .returned (.float .f64 (Fq.wD false 9218868437227405312))∧w' = w:=by
  have h:=minf_ false w
  have h':Calls Tryz.prog 101 #[.int .i64 (1)] w fun e w'=>e = .returned (.float .f64 9218868437227405312)∧w' = w:=h
  clear h
  go_enter Tryz.func70,Tryz.ntmps70
  go_wp2_with fail
  refine h'.mono ?_;rintro e w' ⟨rfl,hw'⟩;obtain rfl:=hw'.symm;clear h' hw'
  go_wp2
  exact bodyPost_ret (v:=.float .f64 9218868437227405312) (by simp [results,Tryz.results70,go_sem]) rfl ⟨rfl,rfl⟩
theorem infD_true (w:World):Calls Tryz.prog 70 #[.bool true] w fun e w'=>e = .returned (.float .f64 (Fq.wD true 9218868437227405312))∧w' = w:=by
  have h:=minf_ true w
  have h':Calls Tryz.prog 101 #[.int .i64 (-1)] w fun e w'=>e = .returned (.float .f64 18442240474082181120)∧w' = w:=h
  clear h
  go_enter Tryz.func70,Tryz.ntmps70
  go_wp2_with fail
  refine h'.mono ?_;rintro e w' ⟨rfl,hw'⟩;obtain rfl:=hw'.symm;clear h' hw'
  go_wp2
  exact bodyPost_ret (v:=.float .f64 18442240474082181120) (by simp [results,Tryz.results70,go_sem]) rfl ⟨rfl,rfl⟩
theorem infD_ (neg:Bool) (w:World):Calls Tryz.prog 70 #[.bool neg] w fun e w'=>e = .returned (.float .f64 (Fq.wD neg 9218868437227405312))∧w' = w:=by
  cases neg
  · exact infD_false w
  · exact infD_true w
theorem greDp_ (neg:Bool) (w:World):Calls Tryz.prog 110 #[.bool neg] w fun e w'=>e = .returned (.float .f64 (Fq.wD neg 9218868437227405311))∧Fq.Grown w w':=by
  have h:=infD_ neg w
  obtain ⟨Z,hZ⟩:∃ Z,Z = Fq.wD neg 9218868437227405312:=⟨_,rfl⟩
  obtain ⟨Y,hY⟩:∃ Y,Y = Fq.wD neg 9218868437227405311:=⟨_,rfl⟩
  cases neg
  · have hd:=Fq.dn_d false 9218868437227405312 (by decide) (by decide) w
    rw [show Fq.fD (Fq.plz false 9218868437227405312 - 1) = Fq.wD false 9218868437227405311 from rfl,← hZ,← hY] at hd
    rw [← hZ] at h
    rw [← hY]
    clear hZ hY
    go_enter Tryz.func110,Tryz.ntmps110
    go_wp2_with fail
    refine h.mono ?_;rintro e w' ⟨rfl,hw'⟩;obtain rfl:=hw'.symm;clear h hw'
    go_wp2_with fail
    refine hd.mono ?_;rintro e w1 ⟨rfl,hk⟩;clear hd
    go_wp2
    exact bodyPost_ret (v:=.float .f64 Y) (by simp [results,Tryz.results110,go_sem]) rfl ⟨rfl,hk⟩
  · have hd:=Fq.up_d true 9218868437227405312 (by decide) (by decide) w
    rw [show Fq.fD (Fq.plz true 9218868437227405312 + 1) = Fq.wD true 9218868437227405311 from rfl,← hZ,← hY] at hd
    rw [← hZ] at h
    rw [← hY]
    clear hZ hY
    go_enter Tryz.func110,Tryz.ntmps110
    go_wp2_with fail
    refine h.mono ?_;rintro e w' ⟨rfl,hw'⟩;obtain rfl:=hw'.symm;clear h hw'
    go_wp2_with fail
    refine hd.mono ?_;rintro e w1 ⟨rfl,hk⟩;clear hd
    go_wp2
    exact bodyPost_ret (v:=.float .f64 Y) (by simp [results,Tryz.results110,go_sem]) rfl ⟨rfl,hk⟩
theorem fmtD_ (w:World):Calls Tryz.prog 106 #[] w fun e w'=>e = .returned (.tuple #[.int .i64 53,.int .i64 (-1074)])∧Fq.Grown w w':=by
  have h1:=Fq.split_d false 4607182418800017408 (by decide)
  have h0:=Fq.split_d false 0 (by decide)
  rw [show Fq.wD false 4607182418800017408 = 4607182418800017408 from rfl,show (false && !(4607182418800017408 == 0)) = false from rfl,show (((Fq.sgD 4607182418800017408:Nat):Int)) = 4503599627370496 from by decide +kernel] at h1
  rw [show Fq.wD false 0 = 0 from rfl,show (false && !(0 == 0)) = false from rfl,show Fq.epD 0 = -1074 from by decide +kernel] at h0
  obtain ⟨e1,he1⟩:∃ e1,e1 = Fq.epD 4607182418800017408:=⟨_,rfl⟩
  obtain ⟨s0,hs0⟩:∃ s0:Int,s0 = ((Fq.sgD 0:Nat):Int):=⟨_,rfl⟩
  rw [← he1] at h1
  rw [← hs0] at h0
  have hl:=Fq.len64_ 4503599627370496 (by decide) (by decide)
  rw [show ((Lib.bitLen (4503599627370496:Int).toNat:Nat):Int) = 53 from by decide +kernel] at hl
  have c1:floatOfInt .f64 1 = 4607182418800017408:=by decide +kernel
  have c0:floatOfInt .f64 0 = 0:=by decide +kernel
  clear he1 hs0
  go_enter Tryz.func106,Tryz.ntmps106
  go_wp2_with fail
  refine (h1 _).mono ?_;rintro e w1 ⟨rfl,hk⟩;clear h1
  go_wp2_with fail
  refine (h0 _).mono ?_;rintro e w2 ⟨rfl,hk2⟩;clear h0
  have hk3:=Fq.gtrans hk hk2
  have hl2:=hl w2
  clear hl hk hk2
  go_wp2_with fail
  refine hl2.mono ?_;rintro e w' ⟨rfl,hw'⟩;obtain rfl:=hw'.symm;clear hl2 hw'
  go_wp2
  exact bodyPost_ret (v:=.tuple #[.int .i64 53,.int .i64 (-1074)]) (by simp [results,Tryz.results106,go_sem]) rfl ⟨rfl,hk3⟩
end Go.Proofs.YtoibnopiinclaaaGreatDoor
