import Derived.Test.YthdnajcgdngmcaaGreatDoorKXSL
namespace Go.Proofs.YthdnajcgdngmcaaGreatDoor
open Go.RowKit
set_option maxRecDepth 20000 in
set_option maxHeartbeats 400000 in
theorem marked_ (h : Nat) (more : Bool) (w : World) (hh : h < 9223372036854775808) : Calls Tryz.prog 185 #[.int .u64 (h : Int), .bool more] w fun e w' => e = .returned (.int .u64 ((2 * h + (if more = true then 1 else 0) : Nat) : Int)) ∧ w' = w := by
  obtain ⟨h2, hh2⟩ : ∃ h2, h2 = 2 * h := ⟨_, rfl⟩
  have f1 : IntKind.u64.wrap ((h : Int) * 2) = (h2 : Int) := by rw [IntKind.wrap_u64]; omega
  have f1' : IntKind.u64.wrap (2 * (h : Int)) = (h2 : Int) := by rw [IntKind.wrap_u64]; omega
  cases more
  · obtain ⟨Z, hZ⟩ : ∃ Z, Z = 2 * h + (if false = true then 1 else 0) := ⟨_, rfl⟩
    have hZ2 : Z = h2 := by rw [hZ, hh2]; simp
    rw [← hZ, hZ2]
    clear hZ hZ2 hh2 hh
    go_enter Tryz.func185, Tryz.ntmps185
    go_wp2
    exact bodyPost_ret (v := .int .u64 (h2 : Int)) (by simp [results, Tryz.results185, go_sem]) rfl ⟨rfl, rfl⟩
  · obtain ⟨Z, hZ⟩ : ∃ Z, Z = 2 * h + (if true = true then 1 else 0) := ⟨_, rfl⟩
    have hZ2 : Z = h2 + 1 := by rw [hZ, hh2]; simp
    have f2 : bits BinOp.or IntKind.u64 (h2 : Int) 1 = (Z : Int) := by
      have g := u64_or_nat h2 1 (by omega) (by decide)
      have g2 := or_low 1 h 1 (by decide)
      rw [Nat.or_comm, show h2 = h * 2 ^ 1 from by omega, g2, show 1 + h * 2 ^ 1 = Z from by omega, show h * 2 ^ 1 = h2 from by omega] at g
      exact g
    rw [← hZ]
    clear hZ hZ2 hh2 hh
    go_enter Tryz.func185, Tryz.ntmps185
    go_wp2
    exact bodyPost_ret (v := .int .u64 (Z : Int)) (by simp [results, Tryz.results185, go_sem]) rfl ⟨rfl, rfl⟩
def conf (e : Int) : Int := min (max e (-2097152)) 2097152
set_option maxRecDepth 20000 in
set_option maxHeartbeats 400000 in
theorem confined_ (e : Int) (w : World) : Calls Tryz.prog 169 #[.int .i64 e] w fun r w' => r = .returned (.int .i64 (conf e)) ∧ w' = w := by
  obtain ⟨m, hm⟩ : ∃ m : Int, m = max e (-2097152) := ⟨_, rfl⟩
  obtain ⟨c, hc⟩ : ∃ c, c = conf e := ⟨_, rfl⟩
  have g1 : ∀ w : World, (Builtin.max_ #[3, 3] 3 #[.int .i64 e, .int .i64 (-2097152)]).run Tryz.prog w = .ok (.int .i64 m) w := fun w => by
    rw [run_max_int2]
    congr 2
    rw [hm]; split <;> omega
  have g2 : ∀ w : World, (Builtin.min_ #[3, 3] 3 #[.int .i64 m, .int .i64 2097152]).run Tryz.prog w = .ok (.int .i64 c) w := fun w => by
    rw [run_min_int2]
    congr 2
    rw [hc]; unfold conf; rw [← hm]; split <;> omega
  rw [← hc]
  clear hc hm
  go_enter Tryz.func169, Tryz.ntmps169
  go_wp2
  exact bodyPost_ret (v := .int .i64 c) (by simp [results, Tryz.results169, go_sem]) rfl ⟨rfl, rfl⟩
set_option maxRecDepth 20000 in
set_option maxHeartbeats 400000 in
theorem mnan_ (w : World) : Calls Tryz.prog 112 #[] w fun r w' => r = .returned (.float .f64 9221120237041090561) ∧ w' = w := by
  have h1 : ∀ w : World, (callFunc 40 #[.int .u64 9221120237041090561]).run Tryz.prog w = .ok (.value (.float .f64 9221120237041090561)) w := fun w => Fq.ff64 9221120237041090561 w
  go_enter Tryz.func112, Tryz.ntmps112
  go_wp2
  exact bodyPost_ret (v := .float .f64 9221120237041090561) (by simp [results, Tryz.results112, go_sem]) rfl ⟨rfl, rfl⟩
set_option maxRecDepth 20000 in
set_option maxHeartbeats 400000 in
theorem ptoo_ (p : Option Addr) (c : Nat) (xs : List Int) (w : World) (hx : Arr w p xs) (hwx : Wd xs) (lx : xs.length ≤ 1048576) (hc : xs.length ≤ c) : Calls Tryz.prog 166 #[.slice p xs.length c] w fun r w' => r = .returned (.bool (decide (524288 < blen (val xs)))) ∧ w' = w := by
  have h := nlen_ p c xs w hx hwx (by omega) hc
  obtain ⟨b, hb⟩ : ∃ b, b = blen (val xs) := ⟨_, rfl⟩
  obtain ⟨N, hN⟩ : ∃ N, N = xs.length := ⟨_, rfl⟩
  rw [← hb, ← hN] at h
  rw [← hb, ← hN]
  clear hx hwx lx hc hb hN
  by_cases cb : 524288 < b
  · have t1 : 524288 < (b : Int) := by omega
    rw [decide_eq_true cb]
    clear cb
    go_enter Tryz.func166, Tryz.ntmps166
    go_wp2_with fail
    refine h.mono ?_; rintro e w' ⟨rfl, hw'⟩; obtain rfl := hw'.symm; clear h hw'
    go_wp2
    exact bodyPost_ret (v := .bool true) (by simp [results, Tryz.results166, go_sem] <;> omega) rfl ⟨rfl, rfl⟩
  · have t1 : ¬ (524288 < (b : Int)) := by omega
    rw [decide_eq_false cb]
    clear cb
    go_enter Tryz.func166, Tryz.ntmps166
    go_wp2_with fail
    refine h.mono ?_; rintro e w' ⟨rfl, hw'⟩; obtain rfl := hw'.symm; clear h hw'
    go_wp2
    exact bodyPost_ret (v := .bool false) (by simp [results, Tryz.results166, go_sem] <;> omega) rfl ⟨rfl, rfl⟩
set_option maxRecDepth 20000 in
set_option maxHeartbeats 400000 in
theorem leading_ (p : Option Addr) (c : Nat) (xs : List Int) (w : World) (hT : Tab w) (hx : Arr w p xs) (hwx : Wd xs) (lx : xs.length ≤ 1048576) (hc : xs.length ≤ c) (hb : blen (val xs) ≤ 524288) (cut h H : Nat) (hcut : cut = blen (val xs) - 56) (hh : h = val xs / 2 ^ cut) (hH : H = 2 * h + (if val xs % 2 ^ cut = 0 then 0 else 1)) :
    Calls Tryz.prog 167 #[.slice p xs.length c] w fun r w' => r = .returned (.tuple #[.int .u64 (H : Int), .int .i64 ((cut : Int) - 1)]) ∧ Kp w w' := by
  have h1 := nlen_ p c xs w hx hwx (by omega) hc
  have h2 := nshr_ p c xs w (cut : Int) (by omega) hT hx hwx lx hc
  have hl : len32 (val xs) ≤ 16384 := dlen (val xs) 16384 (by omega)
  unfold shrN at h2
  rw [if_neg (by omega), if_neg (by omega), Int.toNat_natCast, ← hh] at h2
  have hh64 : h < 72057594037927936 := by
    have e : blen h ≤ 56 := by rw [hh, blen_shr]; omega
    rw [blen_le_iff, show (2 : Nat) ^ 56 = 72057594037927936 from by decide] at e
    exact e
  obtain ⟨mo, hmo⟩ : ∃ mo : Bool, mo = decide (val xs % 2 ^ cut ≠ 0) := ⟨_, rfl⟩
  have hH2 : H = 2 * h + (if mo = true then 1 else 0) := by
    rw [hH, hmo]
    by_cases c0 : val xs % 2 ^ cut = 0 <;> simp [c0]
  rw [← hmo] at h2
  have h4 := fun w => marked_ h mo w (by omega)
  rw [← hH2] at h4
  obtain ⟨bl, hbl⟩ : ∃ bl, bl = blen (val xs) := ⟨_, rfl⟩
  obtain ⟨N, hN⟩ : ∃ N, N = xs.length := ⟨_, rfl⟩
  rw [← hbl, ← hN] at h1
  rw [← hN] at h2 ⊢
  rw [← hbl] at hcut hb
  have g1 : wrap64 ((bl : Int) - 56) = (bl : Int) - 56 := w64x _ (by omega) (by omega)
  have g2 : ∀ w : World, (Builtin.max_ #[3, 3] 3 #[.int .i64 ((bl : Int) - 56), .int .i64 0]).run Tryz.prog w = .ok (.int .i64 (cut : Int)) w := fun w => by
    rw [run_max_int2]
    congr 2
    split <;> omega
  have g3 : wrap64 ((cut : Int) - 1) = (cut : Int) - 1 := w64x _ (by omega) (by omega)
  have HH : Hid (h < 18446744073709551616 ∧ len32 h ≤ 2) := by
    refine ⟨by omega, ?_⟩
    have e9 : blen h ≤ 56 := by
      rw [blen_le_iff, show (2 : Nat) ^ 56 = 72057594037927936 from by decide]; exact hh64
    exact dlen h 2 (by omega)
  clear hT hx hwx lx hc hb hcut hh hH hl hh64 hmo hH2 hbl hN
  go_enter Tryz.func167, Tryz.ntmps167
  go_wp2_with fail
  refine h1.mono ?_; rintro e w' ⟨rfl, hw'⟩; obtain rfl := hw'.symm; clear h1 hw'
  go_wp2_with fail
  refine h2.mono ?_; rintro e w1 ⟨v, rfl, hO, hk⟩
  obtain ⟨p1, c1, rfl, hA, hc1⟩ := hO.arr
  have h3 := nword_ p1 c1 (dig h) w1 hA (Wd_dig h) (Nat.le_trans HH.out.2 (by decide)) hc1
  rw [val_dig] at h3
  unfold wordN at h3
  rw [if_neg (by have := HH.out.2; omega)] at h3
  obtain ⟨M, hM⟩ : ∃ M, M = (dig h).length := ⟨_, rfl⟩
  rw [← hM] at h3 ⊢
  clear h2 hO hA hc1 hM HH
  go_wp2_with fail
  refine h3.mono ?_; rintro e w' ⟨rfl, hw'⟩; obtain rfl := hw'.symm; clear h3 hw'
  have h5 := h4 w1
  clear h4
  go_wp2_with fail
  refine h5.mono ?_; rintro e w' ⟨rfl, hw'⟩; obtain rfl := hw'.symm; clear h5 hw'
  go_wp2
  exact bodyPost_ret (v := .tuple #[.int .u64 (H : Int), .int .i64 ((cut : Int) - 1)]) (by simp [results, Tryz.results167, go_sem, g3]) rfl ⟨rfl, hk⟩
def ofW (d : Int) (neg : Bool) (a : Nat) (exp : Int) : Nat := if 524288 < blen a then 9221120237041090561 else pW 9223372036854775808 neg (finU 53 2098 9218868437227405311 9218868437227405312 (dirN neg d) (rV (dirN neg d) 53 a 1 (conf exp + 1074)))
theorem of_head (d : Int) (a cut h H : Nat) (t : Int) (hcut : cut = blen a - 56) (hh : h = a / 2 ^ cut) (hH : H = 2 * h + (if a % 2 ^ cut = 0 then 0 else 1)) : rV d 53 H 1 (t + (cut : Int) - 1) = rV d 53 a 1 t ∧ H < 1152921504606846976 := by
  have hp : 0 < 2 ^ cut := Nat.pow_pos (by omega)
  have hl : blen h = blen a - cut := by rw [hh]; exact blen_shr a cut
  have hlt : h < 72057594037927936 := by
    have e : blen h ≤ 56 := by omega
    rw [blen_le_iff, show (2 : Nat) ^ 56 = 72057594037927936 from by decide] at e
    exact e
  have hbig : a % 2 ^ cut = 0 ∨ 36028797018963968 ≤ h := by
    by_cases c : cut = 0
    · left; rw [c, Nat.pow_zero, Nat.mod_one]
    · right
      have h0 : h ≠ 0 := by intro e; rw [e, blen_zero] at hl; omega
      have := (blen_spec h h0).1
      rw [show blen h - 1 = 55 from by omega, show (2 : Nat) ^ 55 = 36028797018963968 from by decide] at this
      exact this
  refine ⟨?_, by rw [hH]; split <;> omega⟩
  rw [← rV_sticky d 53 a (2 ^ cut) h (a % 2 ^ cut) H (t + (cut : Int) - 1) hp (by omega) (by omega) (by rw [hh, Nat.mul_comm]; exact (Nat.div_add_mod _ _).symm) (Nat.mod_lt _ hp) hH hbig]
  have e1 := rV_down d 53 (2 * a) 1 cut (t + (cut : Int) - 1) (by omega)
  rw [Nat.one_mul] at e1
  have e2 := rV_up d 53 a 1 1 (t + (cut : Int) - 1 - (cut : Int)) (by omega)
  rw [Nat.pow_one, Nat.mul_comm a 2] at e2
  rw [e1, e2]
  exact congrArg _ (by omega)
theorem conf_b (e : Int) : -2097152 ≤ conf e ∧ conf e ≤ 2097152 := by unfold conf; omega
set_option maxRecDepth 20000 in
set_option maxHeartbeats 400000 in
theorem pof_ (d : Int) (neg : Bool) (p : Option Addr) (c : Nat) (xs : List Int) (exp : Int) (w : World) (hT : Tab w) (hQ : Fq.Tab w) (hd1 : -9223372036854775808 ≤ d) (hd2 : d < 9223372036854775808) (hx : Arr w p xs) (hwx : Wd xs) (lx : xs.length ≤ 1048576) (hc : xs.length ≤ c) :
    Calls Tryz.prog 135 #[.int .i64 d, .bool neg, .slice p xs.length c, .int .i64 exp] w fun r w' => r = .returned (.float .f64 (ofW d neg (val xs) exp)) ∧ Kp w w' := by
  have h1 := ptoo_ p c xs w hx hwx lx hc
  unfold ofW
  by_cases cb : 524288 < blen (val xs)
  · rw [if_pos cb]
    rw [decide_eq_true cb] at h1
    have h2 := mnan_ w
    obtain ⟨N, hN⟩ : ∃ N, N = xs.length := ⟨_, rfl⟩
    rw [← hN] at h1 ⊢
    clear hT hQ hd1 hd2 hx hwx lx hc cb hN
    go_enter Tryz.func135, Tryz.ntmps135
    go_wp2_with fail
    refine h1.mono ?_; rintro e w' ⟨rfl, hw'⟩; obtain rfl := hw'.symm; clear h1 hw'
    go_wp2_with fail
    refine h2.mono ?_; rintro e w' ⟨rfl, hw'⟩; obtain rfl := hw'.symm; clear h2 hw'
    go_wp2
    exact bodyPost_ret (v := .float .f64 9221120237041090561) (by simp [results, Tryz.results135, go_sem]) rfl ⟨rfl, Kp.refl _⟩
  · rw [if_neg cb]
    rw [decide_eq_false cb] at h1
    obtain ⟨cut, hcut⟩ : ∃ cut, cut = blen (val xs) - 56 := ⟨_, rfl⟩
    obtain ⟨h, hh⟩ : ∃ h, h = val xs / 2 ^ cut := ⟨_, rfl⟩
    obtain ⟨H, hH⟩ : ∃ H, H = 2 * h + (if val xs % 2 ^ cut = 0 then 0 else 1) := ⟨_, rfl⟩
    have h2 := leading_ p c xs w hT hx hwx lx hc (by omega) cut h H hcut hh hH
    obtain ⟨e1, e2⟩ := of_head (dirN neg d) (val xs) cut h H (conf exp + 1074) hcut hh hH
    have hcb := conf_b exp
    have h3 := confined_ exp
    obtain ⟨ce, hce⟩ : ∃ ce, ce = conf exp := ⟨_, rfl⟩
    rw [← hce] at h3 hcb e1
    obtain ⟨x, hx9⟩ : ∃ x : Int, x = ce + ((cut : Int) - 1) := ⟨_, rfl⟩
    have h4 := fun w1 (k : Kp w w1) => prndD_ d neg H x w1 (Fq.Tab.grown hQ k) hd1 hd2 e2 (by omega) (by omega)
    rw [show x + 1074 = ce + 1074 + (cut : Int) - 1 from by omega, e1] at h4
    rw [← hce]
    obtain ⟨Y, hY⟩ : ∃ Y, Y = pW 9223372036854775808 neg (finU 53 2098 9218868437227405311 9218868437227405312 (dirN neg d) (rV (dirN neg d) 53 (val xs) 1 (ce + 1074))) := ⟨_, rfl⟩
    rw [← hY] at h4 ⊢
    have g1 : wrap64 (ce + ((cut : Int) - 1)) = x := by rw [← hx9]; exact w64x _ (by omega) (by omega)
    obtain ⟨N, hN⟩ : ∃ N, N = xs.length := ⟨_, rfl⟩
    rw [← hN] at h1 h2 ⊢
    have G2 : Hid (ce + ((cut : Int) - 1) = x ∧ wrap64 x = x) := ⟨hx9.symm, w64x _ (by omega) (by omega)⟩
    clear hT hQ hd1 hd2 hx hwx lx hc cb hcut hh hH e1 e2 hcb hce hY hN hx9
    go_enter Tryz.func135, Tryz.ntmps135
    go_wp2_with fail
    refine h1.mono ?_; rintro e w' ⟨rfl, hw'⟩; obtain rfl := hw'.symm; clear h1 hw'
    go_wp2_with fail
    refine h2.mono ?_; rintro e w1 ⟨rfl, hk⟩
    have h5 := h3 w1
    have h6 := h4 w1 hk
    clear h2 h3 h4
    go_wp2_with fail
    refine h5.mono ?_; rintro e w' ⟨rfl, hw'⟩; obtain rfl := hw'.symm; clear h5 hw'
    go_wp2_with fail
    try rw [g1]
    try rw [G2.out.1]
    try rw [G2.out.2]
    refine h6.mono ?_; rintro e w2 ⟨rfl, hk2⟩
    have hk3 : Kp w w2 := Kp.trans hk hk2
    clear h6 hk hk2
    go_wp2
    exact bodyPost_ret (v := .float .f64 Y) (by simp [results, Tryz.results135, go_sem]) rfl ⟨rfl, hk3⟩
end Go.Proofs.YthdnajcgdngmcaaGreatDoor
