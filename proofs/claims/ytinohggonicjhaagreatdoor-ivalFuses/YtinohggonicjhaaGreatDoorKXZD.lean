import Derived.Test.YtinohggonicjhaaGreatDoorKXZA
namespace Go.Proofs.YtinohggonicjhaaGreatDoor
open Go.RowKit
set_option maxRecDepth 20000 in
set_option maxHeartbeats 1000000 in
theorem pfmaQ_ (d : Int) (n n' nz : Bool) (m m' mz : Nat) (c1 : (2580562586483294208 ≤ m ∧ m ≤ 6633802251116740608)) (c2 : (2580562586483294208 ≤ m' ∧ m' ≤ 6633802251116740608)) (cz : mz ≤ 9110782046170513408) (L : Nat) (hL : L = 1074) (w : World) (hT : Tab w) (hQ : Fq.Tab w) (hd1 : -9223372036854775808 ≤ d) (hd2 : d < 9223372036854775808) :
    Calls Tryz.prog 50 #[.int .i64 d, .float .f64 (Fq.wD n m), .float .f64 (Fq.wD n' m'), .float .f64 (Fq.wD nz mz)] w fun e w' => e = .returned (.float .f64 (fmaW d (Iv n m * Iv n' m' + Iv nz mz * ((2 ^ L : Nat) : Int)))) ∧ Kp w w' := by
  have h1 := mild_ n m (by omega) w
  have h2 := mild_ n' m' (by omega) w
  have h3 := tame_ nz mz (by omega) w
  rw [decide_eq_true c1] at h1
  rw [decide_eq_true c2] at h2
  rw [decide_eq_true cz] at h3
  obtain ⟨V, hn, tn, hr, tr, zV, r1, r2, h4, hsum⟩ := fused_ n n' nz m m' mz c1 c2 cz L hL
  have h5 := fun w1 (k : Kp w w1) => paddF_ d hn tn hr tr r1 r2 w1 (hT.grown k) (Fq.Tab.grown hQ k) hd1 hd2
  rw [hsum d, sum_fma d V _ L hL rfl, zV] at h5
  have h4w := h4 w
  obtain ⟨R, hR⟩ : ∃ R, R = fmaW d (Iv n m * Iv n' m' + Iv nz mz * ((2 ^ L : Nat) : Int)) := ⟨_, rfl⟩
  obtain ⟨X, hX⟩ : ∃ X, X = Fq.wD n m := ⟨_, rfl⟩
  obtain ⟨Y, hY⟩ : ∃ Y, Y = Fq.wD n' m' := ⟨_, rfl⟩
  obtain ⟨Z, hZ⟩ : ∃ Z, Z = Fq.wD nz mz := ⟨_, rfl⟩
  obtain ⟨H, hH⟩ : ∃ H, H = Fq.wD hn hr := ⟨_, rfl⟩
  obtain ⟨O, hO⟩ : ∃ O, O = Fq.wD tn tr := ⟨_, rfl⟩
  rw [← hX] at h1
  rw [← hY] at h2
  rw [← hZ] at h3
  rw [← hX, ← hY, ← hZ, ← hH, ← hO] at h4w
  rw [← hH, ← hO, ← hR] at h5
  rw [← hX, ← hY, ← hZ, ← hR]
  clear hX hY hZ hH hO hR c1 c2 cz zV r1 r2 h4 hsum hT hQ hd1 hd2 hL
  go_enter Tryz.func50, Tryz.ntmps50
  go_wp2
  refine wp_scope_straight ?_
  go_wp2_with fail
  refine h1.mono ?_; rintro e w' ⟨rfl, hw'⟩; obtain rfl := hw'.symm; clear hw' h1
  go_wp2_with fail
  refine h2.mono ?_; rintro e w' ⟨rfl, hw'⟩; obtain rfl := hw'.symm; clear hw' h2
  go_wp2_with fail
  refine h3.mono ?_; rintro e w' ⟨rfl, hw'⟩; obtain rfl := hw'.symm; clear hw' h3
  go_wp2_with fail
  refine h4w.mono ?_; rintro e w1 ⟨rfl, k1⟩
  have h6 := h5 w1 k1
  clear h4w h5
  go_wp2_with fail
  refine h6.mono ?_; rintro e w2 ⟨rfl, k2⟩
  have kk := k1.trans k2
  clear h6 k1 k2
  go_wp2
  try rw [Exit.noGoto_ret]
  exact bodyPost_ret (v := .float .f64 R) (by simp [results, Tryz.results50, go_sem]) rfl ⟨rfl, kk⟩
set_option maxRecDepth 20000 in
set_option maxHeartbeats 1000000 in
theorem pfmaE_ (d : Int) (n n' nz : Bool) (m m' mz : Nat) (hm : m < 9218868437227405312) (hm' : m' < 9218868437227405312) (hmz : mz < 9218868437227405312) (ct : ¬ ((2580562586483294208 ≤ m ∧ m ≤ 6633802251116740608) ∧ (2580562586483294208 ≤ m' ∧ m' ≤ 6633802251116740608) ∧ mz ≤ 9110782046170513408)) (L : Nat) (hL : L = 1074) (w : World) (hT : Tab w) (hQ : Fq.Tab w) (hd1 : -9223372036854775808 ≤ d) (hd2 : d < 9223372036854775808) :
    Calls Tryz.prog 50 #[.int .i64 d, .float .f64 (Fq.wD n m), .float .f64 (Fq.wD n' m'), .float .f64 (Fq.wD nz mz)] w fun e w' => e = .returned (.float .f64 (fmaW d (Iv n m * Iv n' m' + Iv nz mz * ((2 ^ L : Nat) : Int)))) ∧ Kp w w' := by
  have h1 := mild_ n m (by omega) w
  have h2 := mild_ n' m' (by omega) w
  have h3 := tame_ nz mz (by omega) w
  have g1 := finite_ n m (by omega) w
  have g2 := finite_ n' m' (by omega) w
  have g3 := finite_ nz mz (by omega) w
  rw [decide_eq_true hm] at g1
  rw [decide_eq_true hm'] at g2
  rw [decide_eq_true hmz] at g3
  obtain ⟨a, ea, a1, a2, a3, a4, ta⟩ := take_ n m hm
  obtain ⟨b, eb, b1, b2, b3, b4, tb⟩ := take_ n' m' hm'
  obtain ⟨c, ec, c1, c2, c3, c4, tc⟩ := take_ nz mz hmz
  obtain ⟨s, hs⟩ : ∃ s, s = (n && !(m == 0)) := ⟨_, rfl⟩
  obtain ⟨t, ht⟩ : ∃ t, t = (n' && !(m' == 0)) := ⟨_, rfl⟩
  obtain ⟨u, hu⟩ : ∃ u, u = (nz && !(mz == 0)) := ⟨_, rfl⟩
  rw [← hs] at ta
  rw [← ht] at tb
  rw [← hu] at tc
  have sv : ∀ (q : Bool) (p : Nat), Iv q p = if (q && !(p == 0)) then -((Fq.vV Ieee.double p : Nat) : Int) else ((Fq.vV Ieee.double p : Nat) : Int) := fun q p => by
    unfold Iv
    by_cases z : p = 0
    · rw [(vV_zero p).2 z]; cases q <;> simp
    · rw [show (q && !(p == 0)) = q from by simp [z]]
  have iX := sv n m
  have iY := sv n' m'
  have iZ := sv nz mz
  rw [← hs, ← a1] at iX
  rw [← ht, ← b1] at iY
  rw [← hu, ← c1] at iZ
  have ba : blen a ≤ 53 := by rw [blen_le_iff, show (2 : Nat) ^ 53 = 9007199254740992 from by decide]; exact a4
  have bb : blen b ≤ 53 := by rw [blen_le_iff, show (2 : Nat) ^ 53 = 9007199254740992 from by decide]; exact b4
  have bc : blen c ≤ 53 := by rw [blen_le_iff, show (2 : Nat) ^ 53 = 9007199254740992 from by decide]; exact c4
  have hab : blen (a * b) ≤ 106 := by
    have h : blen (a * b) ≤ 53 + 53 := by
      rw [blen_le_iff, Nat.pow_add]
      exact Nat.mul_lt_mul'' ((blen_le_iff a 53).1 ba) ((blen_le_iff b 53).1 bb)
    omega
  obtain ⟨ng, cc, low, f1, f2, hp⟩ := plusAnyW_ (a * b) c (ea + eb) ec hab (by omega) (by omega) (by omega) (by omega) (by omega) (s ^^ t) u (Iv n m * Iv n' m') (Iv nz mz * ((2 ^ L : Nat) : Int)) (by
      rw [iX, iY, show (ea + eb + 2148).toNat = (ea + 1074).toNat + (eb + 1074).toNat from by omega, Nat.pow_add]
      have e : a * b * (2 ^ (ea + 1074).toNat * 2 ^ (eb + 1074).toNat) = a * 2 ^ (ea + 1074).toNat * (b * 2 ^ (eb + 1074).toNat) := by ac_rfl
      rw [e, Int.natCast_mul]
      cases s <;> cases t <;> simp [Int.neg_mul, Int.mul_neg]) (by
      rw [iZ, show (ec + 2148).toNat = (ec + 1074).toNat + L from by omega, Nat.pow_add, ← Nat.mul_assoc, Int.natCast_mul]
      cases u <;> simp [Int.neg_mul])
  obtain ⟨R, hR⟩ : ∃ R, R = fmaW d (Iv n m * Iv n' m' + Iv nz mz * ((2 ^ L : Nat) : Int)) := ⟨_, rfl⟩
  have hr : ∀ (v : Value) (w1 : World), Kp w w1 → Ls w1 v (dig cc) → Calls Tryz.prog 77 #[.agg #[.bool ng, v, .int .i64 low], .int .i64 d] w1 fun e w' => e = .returned (.float .f64 R) ∧ Kp w1 w' := fun v w1 k1 l1 => by
    rw [hR, ← f1 d]; exact rounded_ d ng cc low v w1 l1 (hT.grown k1) (Fq.Tab.grown hQ k1) hd1 hd2 f2
  have hm9 := fun va vb w1 la lb => times_ s t a b ea eb va vb w1 la lb a4 b4 a2 a3 b2 b3
  obtain ⟨X, hX⟩ : ∃ X, X = Fq.wD n m := ⟨_, rfl⟩
  obtain ⟨Y, hY⟩ : ∃ Y, Y = Fq.wD n' m' := ⟨_, rfl⟩
  obtain ⟨Z, hZ⟩ : ∃ Z, Z = Fq.wD nz mz := ⟨_, rfl⟩
  rw [← hX] at h1 g1 ta
  rw [← hY] at h2 g2 tb
  rw [← hZ] at h3 g3 tc
  rw [← hX, ← hY, ← hZ, ← hR]
  have ta1 := ta w hQ
  have tb1 := fun w1 (k : Kp w w1) => tb w1 (Fq.Tab.grown hQ k)
  have tc1 := fun w1 (k : Kp w w1) => tc w1 (Fq.Tab.grown hQ k)
  obtain ⟨ee, hee⟩ : ∃ ee, ee = ea + eb := ⟨_, rfl⟩
  obtain ⟨st, hst⟩ : ∃ st, st = (s ^^ t) := ⟨_, rfl⟩
  rw [← hee, ← hst] at hp
  simp only [← hee, ← hst] at hm9
  have HT : Hid ((2580562586483294208 ≤ m ∧ m ≤ 6633802251116740608) → (2580562586483294208 ≤ m' ∧ m' ≤ 6633802251116740608) → ¬ mz ≤ 9110782046170513408) := fun h h' h2 => ct ⟨h, h', h2⟩
  clear hX hY hZ hR f1 f2 a1 a2 a3 a4 b1 b2 b3 b4 c1 c2 c3 c4 ta tb tc hT hQ hd1 hd2 ct hm hm' hmz hs ht hu sv iX iY iZ ba bb bc hab hee hst hL
  go_enter Tryz.func50, Tryz.ntmps50
  go_wp2
  refine wp_scope_jumps 0 (fun a' w' => w' = w ∧ ∃ u4 u5 u6 u7 u8 u9 u10 u11 u12 u13 u14 u15 u16 u17 u18 u19 u20 u21 u22 u23 u24 u25 u26 u27 u28 u29 u30 u31 u32 u33 u34 u35 u36 u37 u38 u39 u40 u41 u42 u43 u44 u45 u46 u47 u48 u49 u50 u51 u52 u53 u54 u55 u56 u57 u58 u59 u60 u61 u62 u63 : Value, a' = ⟨#[.int .i64 d, .float .f64 X, .float .f64 Y, .float .f64 Z, u4, u5, u6, u7, u8, u9, u10, u11, u12, u13, u14, u15, u16, u17, u18, u19, u20, u21, u22, u23, u24, u25, u26, u27, u28, u29, u30, u31, u32, u33, u34, u35, u36, u37, u38, u39, u40, u41, u42, u43, u44, u45, u46, u47, u48, u49, u50, u51, u52, u53, u54, u55, u56, u57, u58, u59, u60, u61, u62, u63], []⟩) (fun _ _ => 0) rfl ?_ ?_
  · clear g1 g2 g3 ta1 tb1 tc1 hp hr hm9
    by_cases c1 : (2580562586483294208 ≤ m ∧ m ≤ 6633802251116740608)
    · rw [decide_eq_true c1] at h1
      by_cases c2 : (2580562586483294208 ≤ m' ∧ m' ≤ 6633802251116740608)
      · rw [decide_eq_true c2] at h2
        rw [decide_eq_false (HT.out c1 c2)] at h3
        clear c1 c2 HT
        go_wp2_with fail
        refine h1.mono ?_; rintro e w' ⟨rfl, hw'⟩; obtain rfl := hw'.symm; clear hw' h1
        go_wp2_with fail
        refine h2.mono ?_; rintro e w' ⟨rfl, hw'⟩; obtain rfl := hw'.symm; clear hw' h2
        go_wp2_with fail
        refine h3.mono ?_; rintro e w' ⟨rfl, hw'⟩; obtain rfl := hw'.symm; clear hw' h3
        go_wp2_with fail
        go_step3
        exact ⟨rfl, rfl, _, _, _, _, _, _, _, _, _, _, _, _, _, _, _, _, _, _, _, _, _, _, _, _, _, _, _, _, _, _, _, _, _, _, _, _, _, _, _, _, _, _, _, _, _, _, _, _, _, _, _, _, _, _, _, _, _, _, _, _, rfl⟩
      · rw [decide_eq_false c2] at h2
        clear c1 c2 HT h3
        go_wp2_with fail
        refine h1.mono ?_; rintro e w' ⟨rfl, hw'⟩; obtain rfl := hw'.symm; clear hw' h1
        go_wp2_with fail
        refine h2.mono ?_; rintro e w' ⟨rfl, hw'⟩; obtain rfl := hw'.symm; clear hw' h2
        go_wp2_with fail
        go_step3
        exact ⟨rfl, rfl, _, _, _, _, _, _, _, _, _, _, _, _, _, _, _, _, _, _, _, _, _, _, _, _, _, _, _, _, _, _, _, _, _, _, _, _, _, _, _, _, _, _, _, _, _, _, _, _, _, _, _, _, _, _, _, _, _, _, _, _, rfl⟩
    · rw [decide_eq_false c1] at h1
      clear c1 HT h2 h3
      go_wp2_with fail
      refine h1.mono ?_; rintro e w' ⟨rfl, hw'⟩; obtain rfl := hw'.symm; clear hw' h1
      go_wp2_with fail
      go_step3
      exact ⟨rfl, rfl, _, _, _, _, _, _, _, _, _, _, _, _, _, _, _, _, _, _, _, _, _, _, _, _, _, _, _, _, _, _, _, _, _, _, _, _, _, _, _, _, _, _, _, _, _, _, _, _, _, _, _, _, _, _, _, _, _, _, _, _, rfl⟩
  · rintro a' w' ⟨rfl, u4, u5, u6, u7, u8, u9, u10, u11, u12, u13, u14, u15, u16, u17, u18, u19, u20, u21, u22, u23, u24, u25, u26, u27, u28, u29, u30, u31, u32, u33, u34, u35, u36, u37, u38, u39, u40, u41, u42, u43, u44, u45, u46, u47, u48, u49, u50, u51, u52, u53, u54, u55, u56, u57, u58, u59, u60, u61, u62, u63, rfl⟩
    clear h1 h2 h3 HT
    go_wp2_with fail
    refine g1.mono ?_; rintro e w9 ⟨rfl, hw'⟩; obtain rfl := hw'.symm; clear hw' g1
    go_wp2_with fail
    refine g2.mono ?_; rintro e w9 ⟨rfl, hw'⟩; obtain rfl := hw'.symm; clear hw' g2
    go_wp2_with fail
    refine g3.mono ?_; rintro e w9 ⟨rfl, hw'⟩; obtain rfl := hw'.symm; clear hw' g3
    go_wp2_with fail
    refine ta1.mono ?_; rintro e w1 ⟨va, rfl, lva, k1⟩
    have tb2 := tb1 w1 k1
    clear ta1 tb1
    go_wp2_with fail
    refine tb2.mono ?_; rintro e w2 ⟨vb, rfl, lvb, k2⟩
    have hm2 := hm9 va vb w2 (lva.kp k2) lvb
    have k02 := k1.trans k2
    clear tb2 hm9 lva lvb k1 k2
    go_wp2_with fail
    refine hm2.mono ?_; rintro e w3 ⟨vp, rfl, lvp, k3⟩
    have k03 := k02.trans k3
    have tc2 := tc1 w3 k03
    clear hm2 k02 k3 tc1
    go_wp2_with fail
    refine tc2.mono ?_; rintro e w4 ⟨vc, rfl, lvc, k4⟩
    have hp2 := hp vp vc w4 (lvp.kp k4) lvc
    have k04 := k03.trans k4
    clear tc2 hp lvp lvc k03 k4
    go_wp2_with fail
    refine hp2.mono ?_; rintro e w5 ⟨v, rfl, lv, k5⟩
    have k05 := k04.trans k5
    have hr2 := hr v w5 k05 lv
    clear hp2 hr k04 k5 lv
    go_wp2_with fail
    refine hr2.mono ?_; rintro e w6 ⟨rfl, k6⟩
    have k06 := k05.trans k6
    clear hr2 k05 k6
    go_wp2
    try simp only [Exit.jump]
    exact bodyPost_ret (v := .float .f64 R) (by simp [results, Tryz.results50, go_sem]) rfl ⟨rfl, k06⟩
set_option maxRecDepth 20000 in
set_option maxHeartbeats 1000000 in
theorem pfmaZ_ (d : Int) (n n' nz : Bool) (m m' mz : Nat) (hm : m < 9223372036854775808) (hm' : m' < 9223372036854775808) (hmz : mz < 9223372036854775808) (i1 : m < 9218868437227405312) (i2 : m' < 9218868437227405312) (i3 : ¬ mz < 9218868437227405312) (w : World) :
    Calls Tryz.prog 50 #[.int .i64 d, .float .f64 (Fq.wD n m), .float .f64 (Fq.wD n' m'), .float .f64 (Fq.wD nz mz)] w fun e w' => e = .returned (.float .f64 (Fq.wD nz mz)) ∧ Kp w w' := by
  have h1 := mild_ n m hm w
  have h2 := mild_ n' m' hm' w
  have h3 := tame_ nz mz hmz w
  have g1 := finite_ n m hm w
  have g2 := finite_ n' m' hm' w
  have g3 := finite_ nz mz hmz w
  obtain ⟨X, hX⟩ : ∃ X, X = Fq.wD n m := ⟨_, rfl⟩
  obtain ⟨Y, hY⟩ : ∃ Y, Y = Fq.wD n' m' := ⟨_, rfl⟩
  obtain ⟨Z, hZ⟩ : ∃ Z, Z = Fq.wD nz mz := ⟨_, rfl⟩
  rw [decide_eq_true i1] at g1
  rw [decide_eq_true i2] at g2
  rw [decide_eq_false i3] at g3
  rw [← hX] at h1 g1
  rw [← hY] at h2 g2
  rw [← hZ] at h3 g3
  rw [← hX, ← hY, ← hZ]
  have HT : Hid ((2580562586483294208 ≤ m ∧ m ≤ 6633802251116740608) → (2580562586483294208 ≤ m' ∧ m' ≤ 6633802251116740608) → ¬ mz ≤ 9110782046170513408) := fun h h' h2 => by omega
  clear hX hY hZ hm hm' hmz i1 i2 i3
  go_enter Tryz.func50, Tryz.ntmps50
  go_wp2
  refine wp_scope_jumps 0 (fun a' w' => w' = w ∧ ∃ u4 u5 u6 u7 u8 u9 u10 u11 u12 u13 u14 u15 u16 u17 u18 u19 u20 u21 u22 u23 u24 u25 u26 u27 u28 u29 u30 u31 u32 u33 u34 u35 u36 u37 u38 u39 u40 u41 u42 u43 u44 u45 u46 u47 u48 u49 u50 u51 u52 u53 u54 u55 u56 u57 u58 u59 u60 u61 u62 u63 : Value, a' = ⟨#[.int .i64 d, .float .f64 X, .float .f64 Y, .float .f64 Z, u4, u5, u6, u7, u8, u9, u10, u11, u12, u13, u14, u15, u16, u17, u18, u19, u20, u21, u22, u23, u24, u25, u26, u27, u28, u29, u30, u31, u32, u33, u34, u35, u36, u37, u38, u39, u40, u41, u42, u43, u44, u45, u46, u47, u48, u49, u50, u51, u52, u53, u54, u55, u56, u57, u58, u59, u60, u61, u62, u63], []⟩) (fun _ _ => 0) rfl ?_ ?_
  · clear g1 g2 g3
    by_cases c1 : (2580562586483294208 ≤ m ∧ m ≤ 6633802251116740608)
    · rw [decide_eq_true c1] at h1
      by_cases c2 : (2580562586483294208 ≤ m' ∧ m' ≤ 6633802251116740608)
      · rw [decide_eq_true c2] at h2
        rw [decide_eq_false (HT.out c1 c2)] at h3
        clear c1 c2 HT
        go_wp2_with fail
        refine h1.mono ?_; rintro e w' ⟨rfl, hw'⟩; obtain rfl := hw'.symm; clear hw' h1
        go_wp2_with fail
        refine h2.mono ?_; rintro e w' ⟨rfl, hw'⟩; obtain rfl := hw'.symm; clear hw' h2
        go_wp2_with fail
        refine h3.mono ?_; rintro e w' ⟨rfl, hw'⟩; obtain rfl := hw'.symm; clear hw' h3
        go_wp2_with fail
        go_step3
        exact ⟨rfl, rfl, _, _, _, _, _, _, _, _, _, _, _, _, _, _, _, _, _, _, _, _, _, _, _, _, _, _, _, _, _, _, _, _, _, _, _, _, _, _, _, _, _, _, _, _, _, _, _, _, _, _, _, _, _, _, _, _, _, _, _, _, rfl⟩
      · rw [decide_eq_false c2] at h2
        clear c1 c2 HT h3
        go_wp2_with fail
        refine h1.mono ?_; rintro e w' ⟨rfl, hw'⟩; obtain rfl := hw'.symm; clear hw' h1
        go_wp2_with fail
        refine h2.mono ?_; rintro e w' ⟨rfl, hw'⟩; obtain rfl := hw'.symm; clear hw' h2
        go_wp2_with fail
        go_step3
        exact ⟨rfl, rfl, _, _, _, _, _, _, _, _, _, _, _, _, _, _, _, _, _, _, _, _, _, _, _, _, _, _, _, _, _, _, _, _, _, _, _, _, _, _, _, _, _, _, _, _, _, _, _, _, _, _, _, _, _, _, _, _, _, _, _, _, rfl⟩
    · rw [decide_eq_false c1] at h1
      clear c1 HT h2 h3
      go_wp2_with fail
      refine h1.mono ?_; rintro e w' ⟨rfl, hw'⟩; obtain rfl := hw'.symm; clear hw' h1
      go_wp2_with fail
      go_step3
      exact ⟨rfl, rfl, _, _, _, _, _, _, _, _, _, _, _, _, _, _, _, _, _, _, _, _, _, _, _, _, _, _, _, _, _, _, _, _, _, _, _, _, _, _, _, _, _, _, _, _, _, _, _, _, _, _, _, _, _, _, _, _, _, _, _, _, rfl⟩
  · rintro a' w' ⟨rfl, u4, u5, u6, u7, u8, u9, u10, u11, u12, u13, u14, u15, u16, u17, u18, u19, u20, u21, u22, u23, u24, u25, u26, u27, u28, u29, u30, u31, u32, u33, u34, u35, u36, u37, u38, u39, u40, u41, u42, u43, u44, u45, u46, u47, u48, u49, u50, u51, u52, u53, u54, u55, u56, u57, u58, u59, u60, u61, u62, u63, rfl⟩
    clear h1 h2 h3 HT
    go_wp2_with fail
    refine g1.mono ?_; rintro e w9 ⟨rfl, hw'⟩; obtain rfl := hw'.symm; clear hw' g1
    go_wp2_with fail
    refine g2.mono ?_; rintro e w9 ⟨rfl, hw'⟩; obtain rfl := hw'.symm; clear hw' g2
    go_wp2_with fail
    refine g3.mono ?_; rintro e w9 ⟨rfl, hw'⟩; obtain rfl := hw'.symm; clear hw' g3
    go_wp2
    try simp only [Exit.jump]
    exact bodyPost_ret (v := .float .f64 Z) (by simp [results, Tryz.results50, go_sem]) rfl ⟨rfl, Kp.refl _⟩
set_option maxRecDepth 20000 in
set_option maxHeartbeats 1000000 in
theorem pfmaI_ (d : Int) (n n' nz : Bool) (m m' mz : Nat) (hm : m < 9223372036854775808) (hm' : m' < 9223372036854775808) (hmz : mz < 9223372036854775808) (hi : ¬ (m < 9218868437227405312 ∧ m' < 9218868437227405312)) (w w8 w9 : World) (RP RR : Nat) (hrun1 : (binOp .mul 26 (.float .f64 (Fq.wD n m)) (.float .f64 (Fq.wD n' m'))).run Tryz.prog w = .ok (.float .f64 RP) w8) (hrun2 : (binOp .add 26 (.float .f64 RP) (.float .f64 (Fq.wD nz mz))).run Tryz.prog w8 = .ok (.float .f64 RR) w9) (hk : Kp w w9) :
    Calls Tryz.prog 50 #[.int .i64 d, .float .f64 (Fq.wD n m), .float .f64 (Fq.wD n' m'), .float .f64 (Fq.wD nz mz)] w fun e w' => e = .returned (.float .f64 RR) ∧ Kp w w' := by
  have h1 := mild_ n m hm w
  have h2 := mild_ n' m' hm' w
  have h3 := tame_ nz mz hmz w
  have g1 := finite_ n m hm w
  have g2 := finite_ n' m' hm' w
  have g3 := finite_ nz mz hmz w
  obtain ⟨X, hX⟩ : ∃ X, X = Fq.wD n m := ⟨_, rfl⟩
  obtain ⟨Y, hY⟩ : ∃ Y, Y = Fq.wD n' m' := ⟨_, rfl⟩
  obtain ⟨Z, hZ⟩ : ∃ Z, Z = Fq.wD nz mz := ⟨_, rfl⟩
  rw [← hX] at h1 g1
  rw [← hY] at h2 g2
  rw [← hZ] at h3
  rw [← hX, ← hY] at hrun1
  rw [← hZ] at hrun2
  rw [← hX, ← hY, ← hZ]
  have HT : Hid ((2580562586483294208 ≤ m ∧ m ≤ 6633802251116740608) → (2580562586483294208 ≤ m' ∧ m' ≤ 6633802251116740608) → ¬ mz ≤ 9110782046170513408) := fun h h' h2 => hi ⟨by omega, by omega⟩
  have HI : Hid (m < 9218868437227405312 → ¬ m' < 9218868437227405312) := fun h h' => hi ⟨h, h'⟩
  clear hX hY hZ hm hm' hmz hi g3
  go_enter Tryz.func50, Tryz.ntmps50
  go_wp2
  refine wp_scope_jumps 0 (fun a' w' => w' = w ∧ ∃ u4 u5 u6 u7 u8 u9 u10 u11 u12 u13 u14 u15 u16 u17 u18 u19 u20 u21 u22 u23 u24 u25 u26 u27 u28 u29 u30 u31 u32 u33 u34 u35 u36 u37 u38 u39 u40 u41 u42 u43 u44 u45 u46 u47 u48 u49 u50 u51 u52 u53 u54 u55 u56 u57 u58 u59 u60 u61 u62 u63 : Value, a' = ⟨#[.int .i64 d, .float .f64 X, .float .f64 Y, .float .f64 Z, u4, u5, u6, u7, u8, u9, u10, u11, u12, u13, u14, u15, u16, u17, u18, u19, u20, u21, u22, u23, u24, u25, u26, u27, u28, u29, u30, u31, u32, u33, u34, u35, u36, u37, u38, u39, u40, u41, u42, u43, u44, u45, u46, u47, u48, u49, u50, u51, u52, u53, u54, u55, u56, u57, u58, u59, u60, u61, u62, u63], []⟩) (fun _ _ => 0) rfl ?_ ?_
  · clear g1 g2 hrun1 hrun2 HI
    by_cases c1 : (2580562586483294208 ≤ m ∧ m ≤ 6633802251116740608)
    · rw [decide_eq_true c1] at h1
      by_cases c2 : (2580562586483294208 ≤ m' ∧ m' ≤ 6633802251116740608)
      · rw [decide_eq_true c2] at h2
        rw [decide_eq_false (HT.out c1 c2)] at h3
        clear c1 c2 HT
        go_wp2_with fail
        refine h1.mono ?_; rintro e w' ⟨rfl, hw'⟩; obtain rfl := hw'.symm; clear hw' h1
        go_wp2_with fail
        refine h2.mono ?_; rintro e w' ⟨rfl, hw'⟩; obtain rfl := hw'.symm; clear hw' h2
        go_wp2_with fail
        refine h3.mono ?_; rintro e w' ⟨rfl, hw'⟩; obtain rfl := hw'.symm; clear hw' h3
        go_wp2_with fail
        go_step3
        exact ⟨rfl, rfl, _, _, _, _, _, _, _, _, _, _, _, _, _, _, _, _, _, _, _, _, _, _, _, _, _, _, _, _, _, _, _, _, _, _, _, _, _, _, _, _, _, _, _, _, _, _, _, _, _, _, _, _, _, _, _, _, _, _, _, _, rfl⟩
      · rw [decide_eq_false c2] at h2
        clear c1 c2 HT h3
        go_wp2_with fail
        refine h1.mono ?_; rintro e w' ⟨rfl, hw'⟩; obtain rfl := hw'.symm; clear hw' h1
        go_wp2_with fail
        refine h2.mono ?_; rintro e w' ⟨rfl, hw'⟩; obtain rfl := hw'.symm; clear hw' h2
        go_wp2_with fail
        go_step3
        exact ⟨rfl, rfl, _, _, _, _, _, _, _, _, _, _, _, _, _, _, _, _, _, _, _, _, _, _, _, _, _, _, _, _, _, _, _, _, _, _, _, _, _, _, _, _, _, _, _, _, _, _, _, _, _, _, _, _, _, _, _, _, _, _, _, _, rfl⟩
    · rw [decide_eq_false c1] at h1
      clear c1 HT h2 h3
      go_wp2_with fail
      refine h1.mono ?_; rintro e w' ⟨rfl, hw'⟩; obtain rfl := hw'.symm; clear hw' h1
      go_wp2_with fail
      go_step3
      exact ⟨rfl, rfl, _, _, _, _, _, _, _, _, _, _, _, _, _, _, _, _, _, _, _, _, _, _, _, _, _, _, _, _, _, _, _, _, _, _, _, _, _, _, _, _, _, _, _, _, _, _, _, _, _, _, _, _, _, _, _, _, _, _, _, _, rfl⟩
  · rintro a' w' ⟨rfl, u4, u5, u6, u7, u8, u9, u10, u11, u12, u13, u14, u15, u16, u17, u18, u19, u20, u21, u22, u23, u24, u25, u26, u27, u28, u29, u30, u31, u32, u33, u34, u35, u36, u37, u38, u39, u40, u41, u42, u43, u44, u45, u46, u47, u48, u49, u50, u51, u52, u53, u54, u55, u56, u57, u58, u59, u60, u61, u62, u63, rfl⟩
    clear h1 h2 h3 HT
    by_cases c1 : m < 9218868437227405312
    · rw [decide_eq_true c1] at g1
      rw [decide_eq_false (HI.out c1)] at g2
      clear c1 HI
      go_wp2_with fail
      refine g1.mono ?_; rintro e w7 ⟨rfl, hw'⟩; obtain rfl := hw'.symm; clear hw' g1
      go_wp2_with fail
      refine g2.mono ?_; rintro e w7 ⟨rfl, hw'⟩; obtain rfl := hw'.symm; clear hw' g2
      go_wp2
      try simp only [Exit.jump]
      exact bodyPost_ret (v := .float .f64 RR) (by simp [results, Tryz.results50, go_sem]) rfl ⟨rfl, hk⟩
    · rw [decide_eq_false c1] at g1
      clear c1 HI g2
      go_wp2_with fail
      refine g1.mono ?_; rintro e w7 ⟨rfl, hw'⟩; obtain rfl := hw'.symm; clear hw' g1
      go_wp2
      try simp only [Exit.jump]
      exact bodyPost_ret (v := .float .f64 RR) (by simp [results, Tryz.results50, go_sem]) rfl ⟨rfl, hk⟩
end Go.Proofs.YtinohggonicjhaaGreatDoor
