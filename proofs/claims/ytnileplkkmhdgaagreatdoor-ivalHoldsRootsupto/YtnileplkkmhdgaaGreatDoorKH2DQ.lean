import Derived.Test.YtnileplkkmhdgaaGreatDoorKBY
import Derived.Test.YtnileplkkmhdgaaGreatDoorKH1
import Derived.Test.YtnileplkkmhdgaaGreatDoorKMR7Q
import Derived.Test.YtnileplkkmhdgaaGreatDoorKQJd
import Derived.Deep.DeepCutAuto
import Derived.Laws.Cover1
import Derived.Laws.Small
set_option maxHeartbeats 1000000
set_option maxRecDepth 20000
namespace Go.Proofs.YtnileplkkmhdgaaGreatDoor
open Go.RowKit
theorem minf_ (neg:Bool) (w:World):Calls Tryz.prog 61 #[.int .i64 (if neg = true then -1 else 1)] w fun e w'=>e = .returned (.float .f64 (Fq.wD neg 9218868437227405312))∧w' = w:=by
  have h1:∀ w:World,(callFunc 30 #[.int .u64 18442240474082181120]).run Tryz.prog w = .ok (.value (.float .f64 18442240474082181120)) w:=fun w=>Fq.ff64 18442240474082181120 w
  have h2:∀ w:World,(callFunc 30 #[.int .u64 9218868437227405312]).run Tryz.prog w = .ok (.value (.float .f64 9218868437227405312)) w:=fun w=>Fq.ff64 9218868437227405312 w
  cases neg
  · go_enter Tryz.func61,Tryz.ntmps61
    go_wp2
    exact bodyPost_ret (v:=.float .f64 9218868437227405312) (by simp [results,Tryz.results61,go_sem]) rfl ⟨rfl,rfl⟩
  · go_enter Tryz.func61,Tryz.ntmps61
    go_wp2
    exact bodyPost_ret (v:=.float .f64 18442240474082181120) (by simp [results,Tryz.results61,go_sem]) rfl ⟨rfl,rfl⟩
theorem infD_false (w:World):Calls Tryz.prog 135 #[.bool false] w fun e w'=>e = .returned (.float .f64 (Fq.wD false 9218868437227405312))∧w' = w:=by
  have h:=minf_ false w
  have h':Calls Tryz.prog 61 #[.int .i64 (1)] w fun e w'=>e = .returned (.float .f64 9218868437227405312)∧w' = w:=h
  clear h
  go_enter Tryz.func135,Tryz.ntmps135
  go_wp2_with fail
  refine h'.mono ?_;rintro e w' ⟨rfl,hw'⟩;obtain rfl:=hw'.symm;clear h' hw'
  go_wp2
  exact bodyPost_ret (v:=.float .f64 9218868437227405312) (by simp [results,Tryz.results135,go_sem]) rfl ⟨rfl,rfl⟩
theorem infD_true (w:World):Calls Tryz.prog 135 #[.bool true] w fun e w'=>e = .returned (.float .f64 (Fq.wD true 9218868437227405312))∧w' = w:=by
  have h:=minf_ true w
  have h':Calls Tryz.prog 61 #[.int .i64 (-1)] w fun e w'=>e = .returned (.float .f64 18442240474082181120)∧w' = w:=h
  clear h
  go_enter Tryz.func135,Tryz.ntmps135
  go_wp2_with fail
  refine h'.mono ?_;rintro e w' ⟨rfl,hw'⟩;obtain rfl:=hw'.symm;clear h' hw'
  go_wp2
  exact bodyPost_ret (v:=.float .f64 18442240474082181120) (by simp [results,Tryz.results135,go_sem]) rfl ⟨rfl,rfl⟩
theorem infD_ (neg:Bool) (w:World):Calls Tryz.prog 135 #[.bool neg] w fun e w'=>e = .returned (.float .f64 (Fq.wD neg 9218868437227405312))∧w' = w:=by
  cases neg
  · exact infD_false w
  · exact infD_true w
theorem greDp_ (neg:Bool) (w:World):Calls Tryz.prog 144 #[.bool neg] w fun e w'=>e = .returned (.float .f64 (Fq.wD neg 9218868437227405311))∧Fq.Grown w w':=by
  have h:=infD_ neg w
  obtain ⟨Z,hZ⟩:∃ Z,Z = Fq.wD neg 9218868437227405312:=⟨_,rfl⟩
  obtain ⟨Y,hY⟩:∃ Y,Y = Fq.wD neg 9218868437227405311:=⟨_,rfl⟩
  cases neg
  · have hd:=Fq.dn_d false 9218868437227405312 (by decide) (by decide) w
    rw [show Fq.fD (Fq.plz false 9218868437227405312 - 1) = Fq.wD false 9218868437227405311 from rfl,← hZ,← hY] at hd
    rw [← hZ] at h
    rw [← hY]
    clear hZ hY
    go_enter Tryz.func144,Tryz.ntmps144
    go_wp2_with fail
    refine h.mono ?_;rintro e w' ⟨rfl,hw'⟩;obtain rfl:=hw'.symm;clear h hw'
    go_wp2_with fail
    refine hd.mono ?_;rintro e w1 ⟨rfl,hk⟩;clear hd
    go_wp2
    exact bodyPost_ret (v:=.float .f64 Y) (by simp [results,Tryz.results144,go_sem]) rfl ⟨rfl,hk⟩
  · have hd:=Fq.up_d true 9218868437227405312 (by decide) (by decide) w
    rw [show Fq.fD (Fq.plz true 9218868437227405312 + 1) = Fq.wD true 9218868437227405311 from rfl,← hZ,← hY] at hd
    rw [← hZ] at h
    rw [← hY]
    clear hZ hY
    go_enter Tryz.func144,Tryz.ntmps144
    go_wp2_with fail
    refine h.mono ?_;rintro e w' ⟨rfl,hw'⟩;obtain rfl:=hw'.symm;clear h hw'
    go_wp2_with fail
    refine hd.mono ?_;rintro e w1 ⟨rfl,hk⟩;clear hd
    go_wp2
    exact bodyPost_ret (v:=.float .f64 Y) (by simp [results,Tryz.results144,go_sem]) rfl ⟨rfl,hk⟩
theorem fmtD_ (w:World):Calls Tryz.prog 140 #[] w fun e w'=>e = .returned (.tuple #[.int .i64 53,.int .i64 (-1074)])∧Fq.Grown w w':=by
  have h1:=Fq.split_d false 4607182418800017408 (by decide)
  have h0:=Fq.split_d false 0 (by decide)
  rw [show Fq.wD false 4607182418800017408 = 4607182418800017408 from rfl,show (false && !(4607182418800017408 == 0)) = false from rfl,show (((Fq.sgD 4607182418800017408:Nat):Int)) = 4503599627370496 from by decide +kernel] at h1
  rw [show Fq.wD false 0 = 0 from rfl,show (false && !(0 == 0)) = false from rfl,show Fq.epD 0 = -1074 from by decide +kernel] at h0
  obtain ⟨e1,he1⟩:∃ e1,e1 = Fq.epD 4607182418800017408:=⟨_,rfl⟩
  obtain ⟨s0,hs0⟩:∃ s0:Int,s0 = ((Fq.sgD 0:Nat):Int):=⟨_,rfl⟩
  rw [← he1] at h1
  rw [← hs0] at h0
  have hl:=Fq.len64_ 4503599627370496 (by decide) (by decide)
  rw [show ((Lib.bitLen (4503599627370496:Int).toNat:Nat):Int) = 53 from by decide +kernel] at hl
  have c1:floatOfInt .f64 1 = 4607182418800017408:=by decide +kernel
  have c0:floatOfInt .f64 0 = 0:=by decide +kernel
  clear he1 hs0
  go_enter Tryz.func140,Tryz.ntmps140
  go_wp2_with fail
  refine (h1 _).mono ?_;rintro e w1 ⟨rfl,hk⟩;clear h1
  go_wp2_with fail
  refine (h0 _).mono ?_;rintro e w2 ⟨rfl,hk2⟩;clear h0
  have hk3:=Fq.gtrans hk hk2
  have hl2:=hl w2
  clear hl hk hk2
  go_wp2_with fail
  refine hl2.mono ?_;rintro e w' ⟨rfl,hw'⟩;obtain rfl:=hw'.symm;clear hl2 hw'
  go_wp2
  exact bodyPost_ret (v:=.tuple #[.int .i64 53,.int .i64 (-1074)]) (by simp [results,Tryz.results140,go_sem]) rfl ⟨rfl,hk3⟩
theorem prndD_ (d:Int) (neg:Bool) (sig:Nat) (exp:Int) (w:World) (hT:Fq.Tab w) (hd1:-9223372036854775808≤d) (hd2:d < 9223372036854775808) (hs:sig < 1152921504606846976) (he1:-4194304≤exp) (he2:exp≤4194304) :
    Calls Tryz.prog 109 #[.int .i64 d,.bool neg,.int .u64 (sig:Int),.int .i64 exp] w fun e w'=>e = .returned (.float .f64 (pW 9223372036854775808 neg (finU 53 2098 9218868437227405311 9218868437227405312 (dirN neg d) (rV (dirN neg d) 53 sig 1 (exp + 1074)))))∧Fq.Grown w w':=by
  obtain ⟨dm,hdm⟩:∃ dm,dm = dirN neg d:=⟨_,rfl⟩
  obtain ⟨d',hd'⟩:∃ d':Int,d' = if neg = true then wrap64 (-d) else d:=⟨_,rfl⟩
  have hdd:(d' = 1 ↔ dm = 1)∧(d' = -1 ↔ dm = -1):=by
    rw [hd',hdm];unfold dirN
    cases neg
    · simp
    · simp only [if_true]
      by_cases c:d = -9223372036854775808
      · rw [c];unfold wrap64;omega
      · rw [show wrap64 (-d) = -d from by unfold wrap64;omega];exact ⟨Iff.rfl,Iff.rfl⟩
  have hupd:∀ a b c,upw d' a b c = upw dm a b c:=fun a b c=>by unfold upw;simp only [hdd.1,hdd.2]
  obtain ⟨bl,hbl⟩:∃ bl,bl = blen sig:=⟨_,rfl⟩
  obtain ⟨tt,htt⟩:∃ tt:Int,tt = exp + 1074:=⟨_,rfl⟩
  obtain ⟨Lx,hLx⟩:∃ Lx:Nat,(Lx:Int) = max (max tt (tt + bl - 53)) 0:=⟨(max (max tt (tt + bl - 53)) 0).toNat,by omega⟩
  obtain ⟨c,hc9⟩:∃ c:Nat,(c:Int) = Lx - tt:=⟨(Lx - tt).toNat,by omega⟩
  obtain ⟨hV,hlt⟩:=prog_round dm 53 sig tt Lx c (by decide) (by rw [hLx,hbl];rfl) hc9
  obtain ⟨U,hU⟩:∃ U,U = rV dm 53 sig 1 tt:=⟨_,rfl⟩
  obtain ⟨kp,hkp⟩:∃ kp,kp = sig / 2 ^ c + (upw dm (sig / 2 ^ c) (sig % 2 ^ c) (2 ^ c)).toNat:=⟨_,rfl⟩
  rw [← hU,← hkp] at hV
  have hkb:kp≤9007199254740992:=by
    rw [show (2:Nat) ^ 53 = 9007199254740992 from by decide] at hlt
    rw [hkp]
    have:=Bool.toNat_le (upw dm (sig / 2 ^ c) (sig % 2 ^ c) (2 ^ c))
    omega
  have hcut:=cut61 dm sig c hs kp hkp
  obtain ⟨ct,hct⟩:∃ ct,ct = min c 61:=⟨_,rfl⟩
  rw [← hct] at hcut
  obtain ⟨k0,hk0⟩:∃ k0,k0 = sig / 2 ^ ct:=⟨_,rfl⟩
  obtain ⟨rs,hrs⟩:∃ rs,rs = sig % 2 ^ ct:=⟨_,rfl⟩
  obtain ⟨wh,hwh⟩:∃ wh,wh = 2 ^ ct:=⟨_,rfl⟩
  obtain ⟨ub,hub⟩:∃ ub,ub = upw dm k0 rs wh:=⟨_,rfl⟩
  rw [← hk0,← hrs,← hwh,← hub] at hcut
  obtain ⟨last,hlast⟩:∃ last:Int,last = (Lx:Int) - 1074:=⟨_,rfl⟩
  rw [← hdm,← htt,← hU]
  have bl60:bl≤60:=by rw [hbl];exact blen_lt sig 60 (by rw [show (2:Nat) ^ 60 = 1152921504606846976 from by decide];exact hs)
  have hlen:∀ w:World,Calls Tryz.prog 141 #[.int .u64 (sig:Int)] w fun e w'=>e = .returned (.int .i64 (bl:Int))∧w' = w:=fun w=>by
    have h:=Fq.len64_ (sig:Int) (by omega) (by omega) w
    rw [Int.toNat_natCast] at h
    have e:Lib.bitLen sig = bl:=by
      by_cases c0:sig = 0
      · rw [hbl,c0,blen_zero];decide
      · rw [hbl];exact bitLen_blen sig c0 (by omega)
    rw [e] at h
    exact h
  have hct2:ct≤61:=by rw [hct];exact Nat.min_le_right _ _
  have hwh2:wh≤2305843009213693952:=by
    rw [hwh]
    have:(2:Nat) ^ ct≤2 ^ 61:=Nat.pow_le_pow_right (by omega) hct2
    rw [show (2:Nat) ^ 61 = 2305843009213693952 from by decide] at this
    exact this
  have hdiv:sig = k0 * wh + rs:=by rw [hk0,hrs,hwh,Nat.mul_comm];exact (Nat.div_add_mod _ _).symm
  have hrl:rs≤sig:=by rw [hrs];exact Nat.mod_le _ _
  obtain ⟨kc,hkc⟩:∃ kc,kc = k0 * wh:=⟨_,rfl⟩
  have f1:(sig:Int) / (wh:Int) = (k0:Int):=by rw [hk0,hwh];exact (Int.natCast_ediv _ _).symm
  have f2:(k0:Int) * (wh:Int) = (kc:Int):=by rw [hkc];exact (Int.natCast_mul _ _).symm
  have f2':IntKind.u64.wrap (kc:Int) = (kc:Int):=by rw [IntKind.wrap_u64];omega
  have f3:IntKind.u64.wrap ((sig:Int) - (kc:Int)) = (rs:Int):=by rw [IntKind.wrap_u64];omega
  have f4:(2:Int) ^ ct = (wh:Int):=by rw [hwh];push_cast;rfl
  have f4':IntKind.u64.wrap (wh:Int) = (wh:Int):=by rw [IntKind.wrap_u64];omega
  have hup:∀ w:World,Calls Tryz.prog 142 #[.int .i64 d',.int .u64 (k0:Int),.int .u64 (rs:Int),.int .u64 (wh:Int)] w fun e w'=>e = .returned (.bool ub)∧w' = w:=fun w=>by
    have h:=upward_ d' k0 rs wh w (by omega)
    rw [hupd,← hub] at h
    exact h
  have g1:wrap64 (exp + (bl:Int)) = exp + (bl:Int):=w64x _ (by omega) (by omega)
  have g2:wrap64 (exp + (bl:Int) - 53) = exp + (bl:Int) - 53:=w64x _ (by omega) (by omega)
  have g3:∀ w:World,(Builtin.max_ #[3,3,3] 3 #[.int .i64 exp,.int .i64 (exp + (bl:Int) - 53),.int .i64 (-1074)]).run Tryz.prog w = .ok (.int .i64 last) w:=fun w=>by
    rw [run_max_int3]
    congr 2
    rw [hlast]
    split <;> split <;> omega
  have g4:wrap64 (last - exp) = (c:Int):=by rw [show last - exp = (c:Int) from by omega];exact w64x _ (by omega) (by omega)
  have g5:∀ w:World,(Builtin.min_ #[3,3] 3 #[.int .i64 (c:Int),.int .i64 61]).run Tryz.prog w = .ok (.int .i64 (ct:Int)) w:=fun w=>by
    rw [run_min_int2]
    congr 2
    split <;> omega
  have HC:Hid (U = kp * 2 ^ Lx∧kp = k0 + ub.toNat∧kp≤9007199254740992∧last = (Lx:Int) - 1074∧k0≤1152921504606846976∧-8388608≤last∧last≤8388608):=⟨hV,hcut,hkb,hlast,by rw [hk0];exact Nat.le_trans (Nat.div_le_self _ _) (by omega),by omega,by omega⟩
  have HD:Hid ((d' = 1 ↔ dm = 1)∧(d' = -1 ↔ dm = -1)):=hdd
  have HD':Hid (d' = if neg = true then wrap64 (-d) else d):=hd'
  have HT:Hid (Fq.Tab w):=hT
  have t61:ct≤61:=hct2
  clear hd1 hd2 hs he1 he2 hdd hupd hd' hdm hbl htt hLx hc9 hV hlt hU hkp hkb hcut hct hk0 hrs hwh hub hlast bl60 hct2 hwh2 hdiv hrl hkc hT
  go_enter Tryz.func109,Tryz.ntmps109
  go_upto_if 16 with fail
  go_cut [0] (fun s0 wx=>s0 = .int .i64 d'∧wx = w)
  case first =>
    have h1:=HD'.out
    cases neg
    · have a1:d' = d:=by rw [h1];rfl
      clear h1 HC HD HD' HT
      go_wp2_with fail
      go_meet
      exact ⟨by rw [a1],rfl⟩
    · have a1:d' = wrap64 (-d):=by rw [h1];rfl
      clear h1 HC HD HD' HT
      go_wp2_with fail
      go_meet
      exact ⟨by rw [a1],rfl⟩
  case rest =>
  obtain ⟨rfl,hwc⟩:=hcut
  obtain rfl:=hwc.symm
  clear hwc HD'
  have hf:=fmtD_ w
  go_wp2_with fail
  refine hf.mono ?_;rintro e w1 ⟨rfl,hg1⟩
  have hl:=hlen w1
  clear hf hlen
  go_wp2_with fail
  refine hl.mono ?_;rintro e w' ⟨rfl,hw'⟩;obtain rfl:=hw'.symm;clear hl hw'
  go_upto_region 7 with fail
  go_quiet ((go_at_call 142;exact Calls.quiet_of_same (hup _)))
  have hg2:Fq.Grown w (w1.drewN nq):=Fq.gdrewN nq hg1
  obtain ⟨w2,hw2⟩:∃ w2,w2 = w1.drewN nq:=⟨_,rfl⟩
  rw [← hw2] at hg2 ⊢
  clear hup hg1 hw2 f1 f2 f2' f3 f4 f4' g1 g2 g3 g4 g5
  go_upto_if 48 with fail
  go_cut [13] (fun s13 wx=>s13 = .int .u64 (kp:Int)∧wx = w2)
  case first =>
    obtain ⟨_,h1,_,_,h2,_⟩:=HC.out
    cases ub
    · have a1:kp = k0:=by rw [h1];rfl
      clear h1 h2 HC HD HT
      go_wp2_with fail
      go_meet
      exact ⟨by rw [a1],rfl⟩
    · have a1:kp = k0 + 1:=by rw [h1];rfl
      have a2:IntKind.u64.wrap ((k0:Int) + 1) = (kp:Int):=by rw [IntKind.wrap_u64];omega
      clear h1 h2 a1 HC HD HT
      go_wp2_with fail
      go_meet
      exact ⟨by first | rfl | rw [a2],rfl⟩
  case rest =>
  obtain ⟨rfl,hwc⟩:=hcut
  obtain rfl:=hwc.symm
  clear hwc
  by_cases c0:kp = 0
  · have hj:=Fq.joinz_d neg last w2
    have HR:Hid (pW 9223372036854775808 neg (finU 53 2098 9218868437227405311 9218868437227405312 dm U) = 0):=by
      show _ = _
      rw [HC.out.1,c0,Nat.zero_mul]
      unfold finU
      rw [blen_zero,if_pos (by omega),rgU_zero]
      rfl
    subst c0
    clear HC HD HT
    go_wp2_with fail
    refine hj.mono ?_;rintro e w' ⟨rfl,hw'⟩;obtain rfl:=hw'.symm;clear hj hw'
    go_wp2
    exact bodyPost_ret (v:=.float .f64 0) (by simp [results,Tryz.results109,go_sem]) rfl ⟨by rw [HR.out],hg2⟩
  · obtain ⟨o,k,ho,ek,ok64,jiff,jrg⟩:=joinPD kp Lx U last c0 HC.out.2.2.1 HC.out.2.2.2.1 HC.out.1
    have hl9:=HC.out.2.2.2.2.2
    by_cases cb:blen U≤2098
    · obtain ⟨r1,r2⟩:=jrg cb
      have hj:=Fq.join_d neg o k ho ok64 last (by omega) (by omega) (jiff.2 cb) w2 (HT.out.grown hg2)
      rw [← ek,r1] at hj
      obtain ⟨Y,hY⟩:∃ Y,Y = Fq.wD neg (rgU 53 U):=⟨_,rfl⟩
      rw [← hY] at hj
      have HR:Hid (pW 9223372036854775808 neg (finU 53 2098 9218868437227405311 9218868437227405312 dm U) = Y):=by
        show _ = _
        rw [hY];unfold finU pW;rw [if_pos cb,if_neg r2];rfl
      clear hY r1 r2 jrg jiff ok64 ek ho cb HC HD HT c0 hl9
      go_wp2_with fail
      refine hj.mono ?_;rintro e w3 ⟨rfl,hk⟩;clear hj
      have hg3:=Fq.gtrans hg2 hk
      clear hk hg2
      go_wp2
      exact bodyPost_ret (v:=.float .f64 Y) (by simp [results,Tryz.results109,go_sem]) rfl ⟨by rw [HR.out],hg3⟩
    · have hj:=Fq.joinx_d neg o k ho ok64 last (by omega) (by omega) (by cases hq:Fq.jokD o (last + (k:Int)) with | false=>rfl | true=>exact absurd (jiff.1 hq) cb) w2 (HT.out.grown hg2)
      rw [← ek] at hj
      by_cases cd:dm = -1
      · have t1:(d' == -1) = true:=by have:=HD.out.2.2 cd;simp [this]
        obtain ⟨Y,hY⟩:∃ Y,Y = Fq.wD neg 9218868437227405311:=⟨_,rfl⟩
        have hgr:=greDp_ neg
        rw [← hY] at hgr
        have HR:Hid (pW 9223372036854775808 neg (finU 53 2098 9218868437227405311 9218868437227405312 dm U) = Y):=by
          show _ = _
          rw [hY];unfold finU pW;rw [if_neg cb,if_pos cd,if_neg (by decide)];rfl
        clear hY jrg jiff ok64 ek ho cb HC HD HT c0 hl9 cd
        go_wp2_with fail
        refine hj.mono ?_;rintro e w3 ⟨rfl,hk⟩;clear hj
        have hg3:=Fq.gtrans hg2 hk
        have hgr2:=hgr w3
        clear hk hg2 hgr
        go_wp2_with fail
        refine hgr2.mono ?_;rintro e w4 ⟨rfl,hk⟩;clear hgr2
        have hg4:=Fq.gtrans hg3 hk
        clear hk hg3
        go_wp2
        exact bodyPost_ret (v:=.float .f64 Y) (by simp [results,Tryz.results109,go_sem]) rfl ⟨by rw [HR.out],hg4⟩
      · have t1:(d' == -1) = false:=by have:=mt HD.out.2.1 cd;simp [this]
        obtain ⟨Y,hY⟩:∃ Y,Y = Fq.wD neg 9218868437227405312:=⟨_,rfl⟩
        have hgr:=infD_ neg
        rw [← hY] at hgr
        have HR:Hid (pW 9223372036854775808 neg (finU 53 2098 9218868437227405311 9218868437227405312 dm U) = Y):=by
          show _ = _
          rw [hY];unfold finU pW;rw [if_neg cb,if_neg cd,if_neg (by decide)];rfl
        clear hY jrg jiff ok64 ek ho cb HC HD HT c0 hl9 cd
        go_wp2_with fail
        refine hj.mono ?_;rintro e w3 ⟨rfl,hk⟩;clear hj
        have hg3:=Fq.gtrans hg2 hk
        have hgr2:=hgr w3
        clear hk hg2 hgr
        go_wp2_with fail
        refine hgr2.mono ?_;rintro e w' ⟨rfl,hw'⟩;obtain rfl:=hw'.symm;clear hgr2 hw'
        go_wp2
        exact bodyPost_ret (v:=.float .f64 Y) (by simp [results,Tryz.results109,go_sem]) rfl ⟨by rw [HR.out],hg3⟩
theorem marked_ (h:Nat) (more:Bool) (w:World) (hh:h < 9223372036854775808):Calls Tryz.prog 110 #[.int .u64 (h:Int),.bool more] w fun e w'=>e = .returned (.int .u64 ((2 * h + (if more = true then 1 else 0):Nat):Int))∧w' = w:=by
  obtain ⟨h2,hh2⟩:∃ h2,h2 = 2 * h:=⟨_,rfl⟩
  have f1:IntKind.u64.wrap ((h:Int) * 2) = (h2:Int):=by rw [IntKind.wrap_u64];omega
  have f1':IntKind.u64.wrap (2 * (h:Int)) = (h2:Int):=by rw [IntKind.wrap_u64];omega
  cases more
  · obtain ⟨Z,hZ⟩:∃ Z,Z = 2 * h + (if false = true then 1 else 0):=⟨_,rfl⟩
    have hZ2:Z = h2:=by rw [hZ,hh2];simp
    rw [← hZ,hZ2]
    clear hZ hZ2 hh2 hh
    go_enter Tryz.func110,Tryz.ntmps110
    go_wp2
    exact bodyPost_ret (v:=.int .u64 (h2:Int)) (by simp [results,Tryz.results110,go_sem]) rfl ⟨rfl,rfl⟩
  · obtain ⟨Z,hZ⟩:∃ Z,Z = 2 * h + (if true = true then 1 else 0):=⟨_,rfl⟩
    have hZ2:Z = h2 + 1:=by rw [hZ,hh2];simp
    have f2:bits BinOp.or IntKind.u64 (h2:Int) 1 = (Z:Int):=by
      have g:=u64_or_nat h2 1 (by omega) (by decide)
      have g2:=or_low 1 h 1 (by decide)
      rw [Nat.or_comm,show h2 = h * 2 ^ 1 from by omega,g2,show 1 + h * 2 ^ 1 = Z from by omega,show h * 2 ^ 1 = h2 from by omega] at g
      exact g
    rw [← hZ]
    clear hZ hZ2 hh2 hh
    go_enter Tryz.func110,Tryz.ntmps110
    go_wp2
    exact bodyPost_ret (v:=.int .u64 (Z:Int)) (by simp [results,Tryz.results110,go_sem]) rfl ⟨rfl,rfl⟩
def conf (e:Int):Int:=min (max e (-2097152)) 2097152
theorem confined_ (e:Int) (w:World):Calls Tryz.prog 132 #[.int .i64 e] w fun r w'=>r = .returned (.int .i64 (conf e))∧w' = w:=by
  obtain ⟨m,hm⟩:∃ m:Int,m = max e (-2097152):=⟨_,rfl⟩
  obtain ⟨c,hc⟩:∃ c,c = conf e:=⟨_,rfl⟩
  have g1:∀ w:World,(Builtin.max_ #[3,3] 3 #[.int .i64 e,.int .i64 (-2097152)]).run Tryz.prog w = .ok (.int .i64 m) w:=fun w=>by
    rw [run_max_int2]
    congr 2
    rw [hm];split <;> omega
  have g2:∀ w:World,(Builtin.min_ #[3,3] 3 #[.int .i64 m,.int .i64 2097152]).run Tryz.prog w = .ok (.int .i64 c) w:=fun w=>by
    rw [run_min_int2]
    congr 2
    rw [hc];unfold conf;rw [← hm];split <;> omega
  rw [← hc]
  clear hc hm
  go_enter Tryz.func132,Tryz.ntmps132
  go_wp2
  exact bodyPost_ret (v:=.int .i64 c) (by simp [results,Tryz.results132,go_sem]) rfl ⟨rfl,rfl⟩
theorem mnan_ (w:World):Calls Tryz.prog 130 #[] w fun r w'=>r = .returned (.float .f64 9221120237041090561)∧w' = w:=by
  have h1:∀ w:World,(callFunc 30 #[.int .u64 9221120237041090561]).run Tryz.prog w = .ok (.value (.float .f64 9221120237041090561)) w:=fun w=>Fq.ff64 9221120237041090561 w
  go_enter Tryz.func130,Tryz.ntmps130
  go_wp2
  exact bodyPost_ret (v:=.float .f64 9221120237041090561) (by simp [results,Tryz.results130,go_sem]) rfl ⟨rfl,rfl⟩
theorem ptoo_ (p:Option Addr) (c:Nat) (xs:List Int) (w:World) (hx:Arr w p xs) (hwx:Wd xs) (lx:xs.length≤1048576) (hc:xs.length≤c):Calls Tryz.prog 129 #[.slice p xs.length c] w fun r w'=>r = .returned (.bool (decide (524288 < blen (val xs))))∧w' = w:=by
  have h:=nlen_ p c xs w hx hwx (by omega) hc
  obtain ⟨b,hb⟩:∃ b,b = blen (val xs):=⟨_,rfl⟩
  obtain ⟨N,hN⟩:∃ N,N = xs.length:=⟨_,rfl⟩
  rw [← hb,← hN] at h
  rw [← hb,← hN]
  clear hx hwx lx hc hb hN
  by_cases cb:524288 < b
  · have t1:524288 < (b:Int):=by omega
    rw [decide_eq_true cb]
    clear cb
    go_enter Tryz.func129,Tryz.ntmps129
    go_wp2_with fail
    refine h.mono ?_;rintro e w' ⟨rfl,hw'⟩;obtain rfl:=hw'.symm;clear h hw'
    go_wp2
    exact bodyPost_ret (v:=.bool true) (by simp [results,Tryz.results129,go_sem] <;> omega) rfl ⟨rfl,rfl⟩
  · have t1:¬ (524288 < (b:Int)):=by omega
    rw [decide_eq_false cb]
    clear cb
    go_enter Tryz.func129,Tryz.ntmps129
    go_wp2_with fail
    refine h.mono ?_;rintro e w' ⟨rfl,hw'⟩;obtain rfl:=hw'.symm;clear h hw'
    go_wp2
    exact bodyPost_ret (v:=.bool false) (by simp [results,Tryz.results129,go_sem] <;> omega) rfl ⟨rfl,rfl⟩
theorem leading_ (p:Option Addr) (c:Nat) (xs:List Int) (w:World) (hT:Tab w) (hx:Arr w p xs) (hwx:Wd xs) (lx:xs.length≤1048576) (hc:xs.length≤c) (hb:blen (val xs)≤524288) (cut h H:Nat) (hcut:cut = blen (val xs) - 56) (hh:h = val xs / 2 ^ cut) (hH:H = 2 * h + (if val xs % 2 ^ cut = 0 then 0 else 1)) :
    Calls Tryz.prog 131 #[.slice p xs.length c] w fun r w'=>r = .returned (.tuple #[.int .u64 (H:Int),.int .i64 ((cut:Int) - 1)])∧Kp w w':=by
  have h1:=nlen_ p c xs w hx hwx (by omega) hc
  have h2:=nshr_ p c xs w (cut:Int) (by omega) hT hx hwx lx hc
  have hl:len32 (val xs)≤16384:=dlen (val xs) 16384 (by omega)
  unfold shrN at h2
  rw [if_neg (by omega),if_neg (by omega),Int.toNat_natCast,← hh] at h2
  have hh64:h < 72057594037927936:=by
    have e:blen h≤56:=by rw [hh,blen_shr];omega
    rw [blen_le_iff,show (2:Nat) ^ 56 = 72057594037927936 from by decide] at e
    exact e
  obtain ⟨mo,hmo⟩:∃ mo:Bool,mo = decide (val xs % 2 ^ cut≠0):=⟨_,rfl⟩
  have hH2:H = 2 * h + (if mo = true then 1 else 0):=by
    rw [hH,hmo]
    by_cases c0:val xs % 2 ^ cut = 0 <;> simp [c0]
  rw [← hmo] at h2
  have h4:=fun w=>marked_ h mo w (by omega)
  rw [← hH2] at h4
  obtain ⟨bl,hbl⟩:∃ bl,bl = blen (val xs):=⟨_,rfl⟩
  obtain ⟨N,hN⟩:∃ N,N = xs.length:=⟨_,rfl⟩
  rw [← hbl,← hN] at h1
  rw [← hN] at h2 ⊢
  rw [← hbl] at hcut hb
  have g1:wrap64 ((bl:Int) - 56) = (bl:Int) - 56:=w64x _ (by omega) (by omega)
  have g2:∀ w:World,(Builtin.max_ #[3,3] 3 #[.int .i64 ((bl:Int) - 56),.int .i64 0]).run Tryz.prog w = .ok (.int .i64 (cut:Int)) w:=fun w=>by
    rw [run_max_int2]
    congr 2
    split <;> omega
  have g3:wrap64 ((cut:Int) - 1) = (cut:Int) - 1:=w64x _ (by omega) (by omega)
  have HH:Hid (h < 18446744073709551616∧len32 h≤2):=by
    refine ⟨by omega, ?_⟩
    have e9:blen h≤56:=by
      rw [blen_le_iff,show (2:Nat) ^ 56 = 72057594037927936 from by decide];exact hh64
    exact dlen h 2 (by omega)
  clear hT hx hwx lx hc hb hcut hh hH hl hh64 hmo hH2 hbl hN
  go_enter Tryz.func131,Tryz.ntmps131
  go_wp2_with fail
  refine h1.mono ?_;rintro e w' ⟨rfl,hw'⟩;obtain rfl:=hw'.symm;clear h1 hw'
  go_wp2_with fail
  refine h2.mono ?_;rintro e w1 ⟨v,rfl,hO,hk⟩
  obtain ⟨p1,c1,rfl,hA,hc1⟩:=hO.arr
  have h3:=nword_ p1 c1 (dig h) w1 hA (Wd_dig h) (Nat.le_trans HH.out.2 (by decide)) hc1
  rw [val_dig] at h3
  unfold wordN at h3
  rw [if_neg (by have:=HH.out.2;omega)] at h3
  obtain ⟨M,hM⟩:∃ M,M = (dig h).length:=⟨_,rfl⟩
  rw [← hM] at h3 ⊢
  clear h2 hO hA hc1 hM HH
  go_wp2_with fail
  refine h3.mono ?_;rintro e w' ⟨rfl,hw'⟩;obtain rfl:=hw'.symm;clear h3 hw'
  have h5:=h4 w1
  clear h4
  go_wp2_with fail
  refine h5.mono ?_;rintro e w' ⟨rfl,hw'⟩;obtain rfl:=hw'.symm;clear h5 hw'
  go_wp2
  exact bodyPost_ret (v:=.tuple #[.int .u64 (H:Int),.int .i64 ((cut:Int) - 1)]) (by simp [results,Tryz.results131,go_sem,g3]) rfl ⟨rfl,hk⟩
def ofW (d:Int) (neg:Bool) (a:Nat) (exp:Int):Nat:=if 524288 < blen a then 9221120237041090561 else pW 9223372036854775808 neg (finU 53 2098 9218868437227405311 9218868437227405312 (dirN neg d) (rV (dirN neg d) 53 a 1 (conf exp + 1074)))
theorem of_head (d:Int) (a cut h H:Nat) (t:Int) (hcut:cut = blen a - 56) (hh:h = a / 2 ^ cut) (hH:H = 2 * h + (if a % 2 ^ cut = 0 then 0 else 1)):rV d 53 H 1 (t + (cut:Int) - 1) = rV d 53 a 1 t∧H < 1152921504606846976:=by
  have hp:0 < 2 ^ cut:=Nat.pow_pos (by omega)
  have hl:blen h = blen a - cut:=by rw [hh];exact blen_shr a cut
  have hlt:h < 72057594037927936:=by
    have e:blen h≤56:=by omega
    rw [blen_le_iff,show (2:Nat) ^ 56 = 72057594037927936 from by decide] at e
    exact e
  have hbig:a % 2 ^ cut = 0∨36028797018963968≤h:=by
    by_cases c:cut = 0
    · left;rw [c,Nat.pow_zero,Nat.mod_one]
    · right
      have h0:h≠0:=by intro e;rw [e,blen_zero] at hl;omega
      have:=(blen_spec h h0).1
      rw [show blen h - 1 = 55 from by omega,show (2:Nat) ^ 55 = 36028797018963968 from by decide] at this
      exact this
  refine ⟨?_,by rw [hH];split <;> omega⟩
  rw [← rV_sticky d 53 a (2 ^ cut) h (a % 2 ^ cut) H (t + (cut:Int) - 1) hp (by omega) (by omega) (by rw [hh,Nat.mul_comm];exact (Nat.div_add_mod _ _).symm) (Nat.mod_lt _ hp) hH hbig]
  have e1:=rV_down d 53 (2 * a) 1 cut (t + (cut:Int) - 1) (by omega)
  rw [Nat.one_mul] at e1
  have e2:=rV_up d 53 a 1 1 (t + (cut:Int) - 1 - (cut:Int)) (by omega)
  rw [Nat.pow_one,Nat.mul_comm a 2] at e2
  rw [e1,e2]
  exact congrArg _ (by omega)
theorem conf_b (e:Int):-2097152≤conf e∧conf e≤2097152:=by unfold conf;omega
theorem pof_ (d:Int) (neg:Bool) (p:Option Addr) (c:Nat) (xs:List Int) (exp:Int) (w:World) (hT:Tab w) (hQ:Fq.Tab w) (hd1:-9223372036854775808≤d) (hd2:d < 9223372036854775808) (hx:Arr w p xs) (hwx:Wd xs) (lx:xs.length≤1048576) (hc:xs.length≤c) :
    Calls Tryz.prog 98 #[.int .i64 d,.bool neg,.slice p xs.length c,.int .i64 exp] w fun r w'=>r = .returned (.float .f64 (ofW d neg (val xs) exp))∧Kp w w':=by
  have h1:=ptoo_ p c xs w hx hwx lx hc
  unfold ofW
  by_cases cb:524288 < blen (val xs)
  · rw [if_pos cb]
    rw [decide_eq_true cb] at h1
    have h2:=mnan_ w
    obtain ⟨N,hN⟩:∃ N,N = xs.length:=⟨_,rfl⟩
    rw [← hN] at h1 ⊢
    clear hT hQ hd1 hd2 hx hwx lx hc cb hN
    go_enter Tryz.func98,Tryz.ntmps98
    go_wp2_with fail
    refine h1.mono ?_;rintro e w' ⟨rfl,hw'⟩;obtain rfl:=hw'.symm;clear h1 hw'
    go_wp2_with fail
    refine h2.mono ?_;rintro e w' ⟨rfl,hw'⟩;obtain rfl:=hw'.symm;clear h2 hw'
    go_wp2
    exact bodyPost_ret (v:=.float .f64 9221120237041090561) (by simp [results,Tryz.results98,go_sem]) rfl ⟨rfl,Kp.refl _⟩
  · rw [if_neg cb]
    rw [decide_eq_false cb] at h1
    obtain ⟨cut,hcut⟩:∃ cut,cut = blen (val xs) - 56:=⟨_,rfl⟩
    obtain ⟨h,hh⟩:∃ h,h = val xs / 2 ^ cut:=⟨_,rfl⟩
    obtain ⟨H,hH⟩:∃ H,H = 2 * h + (if val xs % 2 ^ cut = 0 then 0 else 1):=⟨_,rfl⟩
    have h2:=leading_ p c xs w hT hx hwx lx hc (by omega) cut h H hcut hh hH
    obtain ⟨e1,e2⟩:=of_head (dirN neg d) (val xs) cut h H (conf exp + 1074) hcut hh hH
    have hcb:=conf_b exp
    have h3:=confined_ exp
    obtain ⟨ce,hce⟩:∃ ce,ce = conf exp:=⟨_,rfl⟩
    rw [← hce] at h3 hcb e1
    obtain ⟨x,hx9⟩:∃ x:Int,x = ce + ((cut:Int) - 1):=⟨_,rfl⟩
    have h4:=fun w1 (k:Kp w w1)=>prndD_ d neg H x w1 (Fq.Tab.grown hQ k) hd1 hd2 e2 (by omega) (by omega)
    rw [show x + 1074 = ce + 1074 + (cut:Int) - 1 from by omega,e1] at h4
    rw [← hce]
    obtain ⟨Y,hY⟩:∃ Y,Y = pW 9223372036854775808 neg (finU 53 2098 9218868437227405311 9218868437227405312 (dirN neg d) (rV (dirN neg d) 53 (val xs) 1 (ce + 1074))):=⟨_,rfl⟩
    rw [← hY] at h4 ⊢
    have g1:wrap64 (ce + ((cut:Int) - 1)) = x:=by rw [← hx9];exact w64x _ (by omega) (by omega)
    obtain ⟨N,hN⟩:∃ N,N = xs.length:=⟨_,rfl⟩
    rw [← hN] at h1 h2 ⊢
    have G2:Hid (ce + ((cut:Int) - 1) = x∧wrap64 x = x):=⟨hx9.symm,w64x _ (by omega) (by omega)⟩
    clear hT hQ hd1 hd2 hx hwx lx hc cb hcut hh hH e1 e2 hcb hce hY hN hx9
    go_enter Tryz.func98,Tryz.ntmps98
    go_wp2_with fail
    refine h1.mono ?_;rintro e w' ⟨rfl,hw'⟩;obtain rfl:=hw'.symm;clear h1 hw'
    go_wp2_with fail
    refine h2.mono ?_;rintro e w1 ⟨rfl,hk⟩
    have h5:=h3 w1
    have h6:=h4 w1 hk
    clear h2 h3 h4
    go_wp2_with fail
    refine h5.mono ?_;rintro e w' ⟨rfl,hw'⟩;obtain rfl:=hw'.symm;clear h5 hw'
    go_wp2_with fail
    try rw [g1]
    try rw [G2.out.1]
    try rw [G2.out.2]
    refine h6.mono ?_;rintro e w2 ⟨rfl,hk2⟩
    have hk3:Kp w w2:=Kp.trans hk hk2
    clear h6 hk hk2
    go_wp2
    exact bodyPost_ret (v:=.float .f64 Y) (by simp [results,Tryz.results98,go_sem]) rfl ⟨rfl,hk3⟩
end Go.Proofs.YtnileplkkmhdgaaGreatDoor
