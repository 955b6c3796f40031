import Derived.Test.YteedfmghgkmofaaGreatDoorKH2DQ
import Derived.Test.YteedfmghgkmofaaGreatDoorKMR7Q
import Derived.Deep.DeepCutAuto
import Derived.Deep.RegionWith
import Derived.Laws.Cover1
import Derived.Laws.Small
namespace Go.Proofs.YteedfmghgkmofaaGreatDoor
open Go.RowKit
set_option maxRecDepth 20000 in
set_option maxHeartbeats 1000000 in
theorem prndD_ (d : Int) (neg : Bool) (sig : Nat) (exp : Int) (w : World) (hT : Fq.Tab w) (hd1 : -9223372036854775808 ≤ d) (hd2 : d < 9223372036854775808) (hs : sig < 1152921504606846976) (he1 : -4194304 ≤ exp) (he2 : exp ≤ 4194304) :
    Calls Tryz.prog 84 #[.int .i64 d, .bool neg, .int .u64 (sig : Int), .int .i64 exp] w fun e w' => e = .returned (.float .f64 (pW 9223372036854775808 neg (finU 53 2098 9218868437227405311 9218868437227405312 (dirN neg d) (rV (dirN neg d) 53 sig 1 (exp + 1074))))) ∧ Fq.Grown w w' := by
  obtain ⟨dm, hdm⟩ : ∃ dm, dm = dirN neg d := ⟨_, rfl⟩
  obtain ⟨d', hd'⟩ : ∃ d' : Int, d' = if neg = true then wrap64 (-d) else d := ⟨_, rfl⟩
  have hdd : (d' = 1 ↔ dm = 1) ∧ (d' = -1 ↔ dm = -1) := by
    rw [hd', hdm]; unfold dirN
    cases neg
    · simp
    · simp only [if_true]
      by_cases c : d = -9223372036854775808
      · rw [c]; unfold wrap64; omega
      · rw [show wrap64 (-d) = -d from by unfold wrap64; omega]; exact ⟨Iff.rfl, Iff.rfl⟩
  have hupd : ∀ a b c, upw d' a b c = upw dm a b c := fun a b c => by unfold upw; simp only [hdd.1, hdd.2]
  obtain ⟨bl, hbl⟩ : ∃ bl, bl = blen sig := ⟨_, rfl⟩
  obtain ⟨tt, htt⟩ : ∃ tt : Int, tt = exp + 1074 := ⟨_, rfl⟩
  obtain ⟨Lx, hLx⟩ : ∃ Lx : Nat, (Lx : Int) = max (max tt (tt + bl - 53)) 0 := ⟨(max (max tt (tt + bl - 53)) 0).toNat, by omega⟩
  obtain ⟨c, hc9⟩ : ∃ c : Nat, (c : Int) = Lx - tt := ⟨(Lx - tt).toNat, by omega⟩
  obtain ⟨hV, hlt⟩ := prog_round dm 53 sig tt Lx c (by decide) (by rw [hLx, hbl]; rfl) hc9
  obtain ⟨U, hU⟩ : ∃ U, U = rV dm 53 sig 1 tt := ⟨_, rfl⟩
  obtain ⟨kp, hkp⟩ : ∃ kp, kp = sig / 2 ^ c + (upw dm (sig / 2 ^ c) (sig % 2 ^ c) (2 ^ c)).toNat := ⟨_, rfl⟩
  rw [← hU, ← hkp] at hV
  have hkb : kp ≤ 9007199254740992 := by
    rw [show (2 : Nat) ^ 53 = 9007199254740992 from by decide] at hlt
    rw [hkp]
    have := Bool.toNat_le (upw dm (sig / 2 ^ c) (sig % 2 ^ c) (2 ^ c))
    omega
  have hcut := cut61 dm sig c hs kp hkp
  obtain ⟨ct, hct⟩ : ∃ ct, ct = min c 61 := ⟨_, rfl⟩
  rw [← hct] at hcut
  obtain ⟨k0, hk0⟩ : ∃ k0, k0 = sig / 2 ^ ct := ⟨_, rfl⟩
  obtain ⟨rs, hrs⟩ : ∃ rs, rs = sig % 2 ^ ct := ⟨_, rfl⟩
  obtain ⟨wh, hwh⟩ : ∃ wh, wh = 2 ^ ct := ⟨_, rfl⟩
  obtain ⟨ub, hub⟩ : ∃ ub, ub = upw dm k0 rs wh := ⟨_, rfl⟩
  rw [← hk0, ← hrs, ← hwh, ← hub] at hcut
  obtain ⟨last, hlast⟩ : ∃ last : Int, last = (Lx : Int) - 1074 := ⟨_, rfl⟩
  rw [← hdm, ← htt, ← hU]
  have bl60 : bl ≤ 60 := by rw [hbl]; exact blen_lt sig 60 (by rw [show (2 : Nat) ^ 60 = 1152921504606846976 from by decide]; exact hs)
  have hlen : ∀ w : World, Calls Tryz.prog 117 #[.int .u64 (sig : Int)] w fun e w' => e = .returned (.int .i64 (bl : Int)) ∧ w' = w := fun w => by
    have h := Fq.len64_ (sig : Int) (by omega) (by omega) w
    rw [Int.toNat_natCast] at h
    have e : Lib.bitLen sig = bl := by
      by_cases c0 : sig = 0
      · rw [hbl, c0, blen_zero]; decide
      · rw [hbl]; exact bitLen_blen sig c0 (by omega)
    rw [e] at h
    exact h
  have hct2 : ct ≤ 61 := by rw [hct]; exact Nat.min_le_right _ _
  have hwh2 : wh ≤ 2305843009213693952 := by
    rw [hwh]
    have : (2 : Nat) ^ ct ≤ 2 ^ 61 := Nat.pow_le_pow_right (by omega) hct2
    rw [show (2 : Nat) ^ 61 = 2305843009213693952 from by decide] at this
    exact this
  have hdiv : sig = k0 * wh + rs := by rw [hk0, hrs, hwh, Nat.mul_comm]; exact (Nat.div_add_mod _ _).symm
  have hrl : rs ≤ sig := by rw [hrs]; exact Nat.mod_le _ _
  obtain ⟨kc, hkc⟩ : ∃ kc, kc = k0 * wh := ⟨_, rfl⟩
  have f1 : (sig : Int) / (wh : Int) = (k0 : Int) := by rw [hk0, hwh]; exact (Int.natCast_ediv _ _).symm
  have f2 : (k0 : Int) * (wh : Int) = (kc : Int) := by rw [hkc]; exact (Int.natCast_mul _ _).symm
  have f2' : IntKind.u64.wrap (kc : Int) = (kc : Int) := by rw [IntKind.wrap_u64]; omega
  have f3 : IntKind.u64.wrap ((sig : Int) - (kc : Int)) = (rs : Int) := by rw [IntKind.wrap_u64]; omega
  have f4 : (2 : Int) ^ ct = (wh : Int) := by rw [hwh]; push_cast; rfl
  have f4' : IntKind.u64.wrap (wh : Int) = (wh : Int) := by rw [IntKind.wrap_u64]; omega
  have hup : ∀ w : World, Calls Tryz.prog 118 #[.int .i64 d', .int .u64 (k0 : Int), .int .u64 (rs : Int), .int .u64 (wh : Int)] w fun e w' => e = .returned (.bool ub) ∧ w' = w := fun w => by
    have h := upward_ d' k0 rs wh w (by omega)
    rw [hupd, ← hub] at h
    exact h
  have g1 : wrap64 (exp + (bl : Int)) = exp + (bl : Int) := w64x _ (by omega) (by omega)
  have g2 : wrap64 (exp + (bl : Int) - 53) = exp + (bl : Int) - 53 := w64x _ (by omega) (by omega)
  have g3 : ∀ w : World, (Builtin.max_ #[3, 3, 3] 3 #[.int .i64 exp, .int .i64 (exp + (bl : Int) - 53), .int .i64 (-1074)]).run Tryz.prog w = .ok (.int .i64 last) w := fun w => by
    rw [run_max_int3]
    congr 2
    rw [hlast]
    split <;> split <;> omega
  have g4 : wrap64 (last - exp) = (c : Int) := by rw [show last - exp = (c : Int) from by omega]; exact w64x _ (by omega) (by omega)
  have g5 : ∀ w : World, (Builtin.min_ #[3, 3] 3 #[.int .i64 (c : Int), .int .i64 61]).run Tryz.prog w = .ok (.int .i64 (ct : Int)) w := fun w => by
    rw [run_min_int2]
    congr 2
    split <;> omega
  have HC : Hid (U = kp * 2 ^ Lx ∧ kp = k0 + ub.toNat ∧ kp ≤ 9007199254740992 ∧ last = (Lx : Int) - 1074 ∧ k0 ≤ 1152921504606846976 ∧ -8388608 ≤ last ∧ last ≤ 8388608) := ⟨hV, hcut, hkb, hlast, by rw [hk0]; exact Nat.le_trans (Nat.div_le_self _ _) (by omega), by omega, by omega⟩
  have HD : Hid ((d' = 1 ↔ dm = 1) ∧ (d' = -1 ↔ dm = -1)) := hdd
  have HD' : Hid (d' = if neg = true then wrap64 (-d) else d) := hd'
  have HT : Hid (Fq.Tab w) := hT
  have t61 : ct ≤ 61 := hct2
  clear hd1 hd2 hs he1 he2 hdd hupd hd' hdm hbl htt hLx hc9 hV hlt hU hkp hkb hcut hct hk0 hrs hwh hub hlast bl60 hct2 hwh2 hdiv hrl hkc hT
  go_enter Tryz.func84, Tryz.ntmps84
  go_upto_if 16 with fail
  go_cut [0] (fun s0 wx => s0 = .int .i64 d' ∧ wx = w)
  case first =>
    have h1 := HD'.out
    cases neg
    · have a1 : d' = d := by rw [h1]; rfl
      clear h1 HC HD HD' HT
      go_wp2_with fail
      go_meet
      exact ⟨by rw [a1], rfl⟩
    · have a1 : d' = wrap64 (-d) := by rw [h1]; rfl
      clear h1 HC HD HD' HT
      go_wp2_with fail
      go_meet
      exact ⟨by rw [a1], rfl⟩
  case rest =>
  obtain ⟨rfl, hwc⟩ := hcut
  obtain rfl := hwc.symm
  clear hwc HD'
  have hf := fmtD_ w
  go_wp2_with fail
  refine hf.mono ?_; rintro e w1 ⟨rfl, hg1⟩
  have hl := hlen w1
  clear hf hlen
  go_wp2_with fail
  refine hl.mono ?_; rintro e w' ⟨rfl, hw'⟩; obtain rfl := hw'.symm; clear hl hw'
  go_upto_region 7 with fail
  go_quiet ((go_at_call 118; exact Calls.quiet_of_same (hup _)))
  have hg2 : Fq.Grown w (w1.drewN nq) := Fq.gdrewN nq hg1
  obtain ⟨w2, hw2⟩ : ∃ w2, w2 = w1.drewN nq := ⟨_, rfl⟩
  rw [← hw2] at hg2 ⊢
  clear hup hg1 hw2 f1 f2 f2' f3 f4 f4' g1 g2 g3 g4 g5
  go_upto_if 48 with fail
  go_cut [13] (fun s13 wx => s13 = .int .u64 (kp : Int) ∧ wx = w2)
  case first =>
    obtain ⟨_, h1, _, _, h2, _⟩ := HC.out
    cases ub
    · have a1 : kp = k0 := by rw [h1]; rfl
      clear h1 h2 HC HD HT
      go_wp2_with fail
      go_meet
      exact ⟨by rw [a1], rfl⟩
    · have a1 : kp = k0 + 1 := by rw [h1]; rfl
      have a2 : IntKind.u64.wrap ((k0 : Int) + 1) = (kp : Int) := by rw [IntKind.wrap_u64]; omega
      clear h1 h2 a1 HC HD HT
      go_wp2_with fail
      go_meet
      exact ⟨by first | rfl | rw [a2], rfl⟩
  case rest =>
  obtain ⟨rfl, hwc⟩ := hcut
  obtain rfl := hwc.symm
  clear hwc
  by_cases c0 : kp = 0
  · have hj := Fq.joinz_d neg last w2
    have HR : Hid (pW 9223372036854775808 neg (finU 53 2098 9218868437227405311 9218868437227405312 dm U) = 0) := by
      show _ = _
      rw [HC.out.1, c0, Nat.zero_mul]
      unfold finU
      rw [blen_zero, if_pos (by omega), rgU_zero]
      rfl
    subst c0
    clear HC HD HT
    go_wp2_with fail
    refine hj.mono ?_; rintro e w' ⟨rfl, hw'⟩; obtain rfl := hw'.symm; clear hj hw'
    go_wp2
    exact bodyPost_ret (v := .float .f64 0) (by simp [results, Tryz.results84, go_sem]) rfl ⟨by rw [HR.out], hg2⟩
  · obtain ⟨o, k, ho, ek, ok64, jiff, jrg⟩ := joinPD kp Lx U last c0 HC.out.2.2.1 HC.out.2.2.2.1 HC.out.1
    have hl9 := HC.out.2.2.2.2.2
    by_cases cb : blen U ≤ 2098
    · obtain ⟨r1, r2⟩ := jrg cb
      have hj := Fq.join_d neg o k ho ok64 last (by omega) (by omega) (jiff.2 cb) w2 (HT.out.grown hg2)
      rw [← ek, r1] at hj
      obtain ⟨Y, hY⟩ : ∃ Y, Y = Fq.wD neg (rgU 53 U) := ⟨_, rfl⟩
      rw [← hY] at hj
      have HR : Hid (pW 9223372036854775808 neg (finU 53 2098 9218868437227405311 9218868437227405312 dm U) = Y) := by
        show _ = _
        rw [hY]; unfold finU pW; rw [if_pos cb, if_neg r2]; rfl
      clear hY r1 r2 jrg jiff ok64 ek ho cb HC HD HT c0 hl9
      go_wp2_with fail
      refine hj.mono ?_; rintro e w3 ⟨rfl, hk⟩; clear hj
      have hg3 := Fq.gtrans hg2 hk
      clear hk hg2
      go_wp2
      exact bodyPost_ret (v := .float .f64 Y) (by simp [results, Tryz.results84, go_sem]) rfl ⟨by rw [HR.out], hg3⟩
    · have hj := Fq.joinx_d neg o k ho ok64 last (by omega) (by omega) (by cases hq : Fq.jokD o (last + (k : Int)) with | false => rfl | true => exact absurd (jiff.1 hq) cb) w2 (HT.out.grown hg2)
      rw [← ek] at hj
      by_cases cd : dm = -1
      · have t1 : (d' == -1) = true := by have := HD.out.2.2 cd; simp [this]
        obtain ⟨Y, hY⟩ : ∃ Y, Y = Fq.wD neg 9218868437227405311 := ⟨_, rfl⟩
        have hgr := greDp_ neg
        rw [← hY] at hgr
        have HR : Hid (pW 9223372036854775808 neg (finU 53 2098 9218868437227405311 9218868437227405312 dm U) = Y) := by
          show _ = _
          rw [hY]; unfold finU pW; rw [if_neg cb, if_pos cd, if_neg (by decide)]; rfl
        clear hY jrg jiff ok64 ek ho cb HC HD HT c0 hl9 cd
        go_wp2_with fail
        refine hj.mono ?_; rintro e w3 ⟨rfl, hk⟩; clear hj
        have hg3 := Fq.gtrans hg2 hk
        have hgr2 := hgr w3
        clear hk hg2 hgr
        go_wp2_with fail
        refine hgr2.mono ?_; rintro e w4 ⟨rfl, hk⟩; clear hgr2
        have hg4 := Fq.gtrans hg3 hk
        clear hk hg3
        go_wp2
        exact bodyPost_ret (v := .float .f64 Y) (by simp [results, Tryz.results84, go_sem]) rfl ⟨by rw [HR.out], hg4⟩
      · have t1 : (d' == -1) = false := by have := mt HD.out.2.1 cd; simp [this]
        obtain ⟨Y, hY⟩ : ∃ Y, Y = Fq.wD neg 9218868437227405312 := ⟨_, rfl⟩
        have hgr := infD_ neg
        rw [← hY] at hgr
        have HR : Hid (pW 9223372036854775808 neg (finU 53 2098 9218868437227405311 9218868437227405312 dm U) = Y) := by
          show _ = _
          rw [hY]; unfold finU pW; rw [if_neg cb, if_neg cd, if_neg (by decide)]; rfl
        clear hY jrg jiff ok64 ek ho cb HC HD HT c0 hl9 cd
        go_wp2_with fail
        refine hj.mono ?_; rintro e w3 ⟨rfl, hk⟩; clear hj
        have hg3 := Fq.gtrans hg2 hk
        have hgr2 := hgr w3
        clear hk hg2 hgr
        go_wp2_with fail
        refine hgr2.mono ?_; rintro e w' ⟨rfl, hw'⟩; obtain rfl := hw'.symm; clear hgr2 hw'
        go_wp2
        exact bodyPost_ret (v := .float .f64 Y) (by simp [results, Tryz.results84, go_sem]) rfl ⟨by rw [HR.out], hg3⟩
end Go.Proofs.YteedfmghgkmofaaGreatDoor
