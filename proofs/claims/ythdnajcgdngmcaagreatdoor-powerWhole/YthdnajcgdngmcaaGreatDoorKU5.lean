import Derived.Test.YthdnajcgdngmcaaGreatDoorKU2
import Derived.Scope
import Derived.ScopeJumps
namespace Go.Proofs.YthdnajcgdngmcaaGreatDoor
open Go.RowKit
set_option maxRecDepth 20000 in
set_option maxHeartbeats 1000000 in
theorem pmulQ_ (d : Int) (n n' : Bool) (m m' : Nat) (c1 : 2580562586483294208 ≤ m ∧ m ≤ 6633802251116740608) (c2 : 2580562586483294208 ≤ m' ∧ m' ≤ 6633802251116740608) (w : World) :
    Calls Tryz.prog 65 #[.int .i64 d, .float .f64 (Fq.wD n m), .float .f64 (Fq.wD n' m')] w fun e w' => e = .returned (.float .f64 (mulW d (n ^^ n') (Fq.vV Ieee.double m * Fq.vV Ieee.double m'))) ∧ Kp w w' := by
  have h1 := mild_ n m (by omega) w
  have h2 := mild_ n' m' (by omega) w
  rw [decide_eq_true c1] at h1
  rw [decide_eq_true c2] at h2
  obtain ⟨L, hL⟩ : ∃ L : Nat, L = 1074 := ⟨_, rfl⟩
  obtain ⟨e, e1, e2, u1, v1, v2⟩ := mild_unit n m c1.1 c1.2
  obtain ⟨e', e3, e4, u2, v3, v4⟩ := mild_unit n' m' c2.1 c2.2
  obtain ⟨V, s, o, r, ro, K, zV, h3, r0, r8, q0, q1, hex, K1, K2, kV⟩ := twoProduct_ n n' m m' e e' (by omega) (by omega) (by omega) (by omega) (by omega) (by omega) u1 v1 v2 u2 v3 v4 L hL
  have h4 := stepped_ d V s o (n ^^ n') r ro K K1 K2 kV r0 r8 q0 q1 hex
  rw [sum_mul d V (n ^^ n') _ L hL (abs_v n n' m m' L V zV) (sgn_v n n' m m' L V zV)] at h4
  obtain ⟨X, hX⟩ : ∃ X, X = Fq.wD n m := ⟨_, rfl⟩
  obtain ⟨Y, hY⟩ : ∃ Y, Y = Fq.wD n' m' := ⟨_, rfl⟩
  obtain ⟨Z, hZ⟩ : ∃ Z, Z = mulW d (n ^^ n') (Fq.vV Ieee.double m * Fq.vV Ieee.double m') := ⟨_, rfl⟩
  obtain ⟨N, hN⟩ : ∃ N, N = Fq.wD s r := ⟨_, rfl⟩
  obtain ⟨O, hO⟩ : ∃ O, O = Fq.wD o ro := ⟨_, rfl⟩
  rw [← hX] at h1
  rw [← hY] at h2
  rw [← hX, ← hY, ← hN, ← hO] at h3
  rw [← hN, ← hO, ← hZ] at h4
  rw [← hX, ← hY, ← hZ]
  clear hX hY hZ hN hO c1 c2 u1 v1 v2 u2 v3 v4 zV r0 r8 q0 q1 hex K1 K2 kV hL e1 e2 e3 e4
  go_enter Tryz.func65, Tryz.ntmps65
  go_wp2
  refine wp_scope_straight ?_
  go_wp2_with fail
  refine h1.mono ?_; rintro e w' ⟨rfl, hw'⟩; obtain rfl := hw'.symm; clear hw' h1
  go_wp2_with fail
  refine h2.mono ?_; rintro e w' ⟨rfl, hw'⟩; obtain rfl := hw'.symm; clear hw' h2
  have h5 := h3 w
  clear h3
  go_wp2_with fail
  refine h5.mono ?_; rintro e w' ⟨rfl, hw'⟩; obtain rfl := hw'.symm; clear hw' h5
  have h6 := h4 w
  clear h4
  go_wp2_with fail
  refine h6.mono ?_; rintro e w1 ⟨rfl, k1⟩
  clear h6
  go_wp2
  try rw [Exit.noGoto_ret]
  exact bodyPost_ret (v := .float .f64 Z) (by simp [results, Tryz.results65, go_sem]) rfl ⟨rfl, k1⟩
set_option maxRecDepth 20000 in
set_option maxHeartbeats 1000000 in
theorem pmulE_ (d : Int) (n n' : Bool) (m m' : Nat) (hm : m < 9218868437227405312) (hm' : m' < 9218868437227405312) (z : m ≠ 0) (z' : m' ≠ 0) (ct : ¬ ((2580562586483294208 ≤ m ∧ m ≤ 6633802251116740608) ∧ (2580562586483294208 ≤ m' ∧ m' ≤ 6633802251116740608))) (w : World) (hT : Tab w) (hQ : Fq.Tab w) (hd1 : -9223372036854775808 ≤ d) (hd2 : d < 9223372036854775808) :
    Calls Tryz.prog 65 #[.int .i64 d, .float .f64 (Fq.wD n m), .float .f64 (Fq.wD n' m')] w fun e w' => e = .returned (.float .f64 (mulW d (n ^^ n') (Fq.vV Ieee.double m * Fq.vV Ieee.double m'))) ∧ Kp w w' := by
  have h1 := mild_ n m (by omega) w
  have h2 := mild_ n' m' (by omega) w
  have g1 := finite_ n m (by omega) w
  have g2 := finite_ n' m' (by omega) w
  rw [decide_eq_true hm] at g1
  rw [decide_eq_true hm'] at g2
  have o1 := Fq.eqzD n m (by omega)
  have o2 := Fq.eqzD n' m' (by omega)
  rw [show (m == 0) = false from by simp [z]] at o1
  rw [show (m' == 0) = false from by simp [z']] at o2
  obtain ⟨X, hX⟩ : ∃ X, X = Fq.wD n m := ⟨_, rfl⟩
  obtain ⟨Y, hY⟩ : ∃ Y, Y = Fq.wD n' m' := ⟨_, rfl⟩
  obtain ⟨Z, hZ⟩ : ∃ Z, Z = mulW d (n ^^ n') (Fq.vV Ieee.double m * Fq.vV Ieee.double m') := ⟨_, rfl⟩
  obtain ⟨a, ea, a1, a2, a3, a4, ta⟩ := take_ n m hm
  obtain ⟨b, eb, b1, b2, b3, b4, tb⟩ := take_ n' m' hm'
  rw [show (n && !(m == 0)) = n from by simp [z]] at ta
  rw [show (n' && !(m' == 0)) = n' from by simp [z']] at tb
  have hab : blen (a * b) ≤ 106 := by
    have h : blen (a * b) ≤ 53 + 53 := by
      rw [blen_le_iff, Nat.pow_add]
      exact Nat.mul_lt_mul'' (by rw [show (2 : Nat) ^ 53 = 9007199254740992 from by decide]; exact a4) (by rw [show (2 : Nat) ^ 53 = 9007199254740992 from by decide]; exact b4)
    omega
  have hom : ofW d (n ^^ n') (a * b) (ea + eb) = Z := by
    rw [hZ]
    refine of_mul d (n ^^ n') (a * b) (ea + eb) _ (by omega) (by omega) (by omega) ?_
    rw [← a1, ← b1, show (ea + eb + 2148).toNat = (ea + 1074).toNat + (eb + 1074).toNat from by omega, Nat.pow_add]
    simp only [Nat.mul_assoc, Nat.mul_left_comm]
  have hr : ∀ (v : Value) (w1 : World), Kp w w1 → Ls w1 v (dig (a * b)) → Calls Tryz.prog 101 #[.agg #[.bool (n ^^ n'), v, .int .i64 (ea + eb)], .int .i64 d] w1 fun e w' => e = .returned (.float .f64 Z) ∧ Kp w1 w' := fun v w1 k1 l1 => by
    rw [← hom]; exact rounded_ d (n ^^ n') (a * b) (ea + eb) v w1 l1 (hT.grown k1) (Fq.Tab.grown hQ k1) hd1 hd2 (dlen (a * b) 16384 (by omega))
  have hp := fun va vb w1 la lb => times_ n n' a b ea eb va vb w1 la lb a4 b4 a2 a3 b2 b3
  rw [← hX] at h1 g1 ta o1
  rw [← hY] at h2 g2 tb o2
  rw [← hX, ← hY, ← hZ]
  have ta1 := ta w hQ
  have tb1 := fun w1 (k : Kp w w1) => tb w1 (Fq.Tab.grown hQ k)
  obtain ⟨ee, hee⟩ : ∃ ee, ee = ea + eb := ⟨_, rfl⟩
  obtain ⟨ns, hns⟩ : ∃ ns, ns = (n ^^ n') := ⟨_, rfl⟩
  rw [← hee, ← hns] at hr
  simp only [← hee, ← hns] at hp
  have HT : Hid (2580562586483294208 ≤ m ∧ m ≤ 6633802251116740608 → ¬ (2580562586483294208 ≤ m' ∧ m' ≤ 6633802251116740608)) := fun h h' => ct ⟨h, h'⟩
  clear hX hY hZ hom hab a1 a2 a3 a4 b1 b2 b3 b4 ta tb hT hQ hd1 hd2 ct hm hm' z z' hee hns
  go_enter Tryz.func65, Tryz.ntmps65
  go_wp2
  refine wp_scope_jumps 0 (fun a' w' => w' = w ∧ ∃ u3 u4 u5 u6 u7 u8 u9 u10 u11 u12 u13 u14 u15 u16 u17 u18 u19 u20 u21 u22 u23 u24 u25 u26 u27 u28 u29 u30 u31 u32 u33 u34 u35 u36 u37 u38 u39 u40 u41 u42 u43 u44 u45 u46 u47 u48 u49 u50 u51 u52 u53 : Value, a' = ⟨#[.int .i64 d, .float .f64 X, .float .f64 Y, u3, u4, u5, u6, u7, u8, u9, u10, u11, u12, u13, u14, u15, u16, u17, u18, u19, u20, u21, u22, u23, u24, u25, u26, u27, u28, u29, u30, u31, u32, u33, u34, u35, u36, u37, u38, u39, u40, u41, u42, u43, u44, u45, u46, u47, u48, u49, u50, u51, u52, u53], []⟩) (fun _ _ => 0) rfl ?_ ?_
  · clear g1 g2 ta1 tb1 hp hr o1 o2
    by_cases c1 : 2580562586483294208 ≤ m ∧ m ≤ 6633802251116740608
    · rw [decide_eq_true c1] at h1
      rw [decide_eq_false (HT.out c1)] at h2
      clear c1 HT
      go_wp2_with fail
      refine h1.mono ?_; rintro e w' ⟨rfl, hw'⟩; obtain rfl := hw'.symm; clear hw' h1
      go_wp2_with fail
      refine h2.mono ?_; rintro e w' ⟨rfl, hw'⟩; obtain rfl := hw'.symm; clear hw' h2
      go_wp2_with fail
      go_step3
      exact ⟨rfl, rfl, _, _, _, _, _, _, _, _, _, _, _, _, _, _, _, _, _, _, _, _, _, _, _, _, _, _, _, _, _, _, _, _, _, _, _, _, _, _, _, _, _, _, _, _, _, _, _, _, _, _, _, rfl⟩
    · rw [decide_eq_false c1] at h1
      clear c1 HT h2
      go_wp2_with fail
      refine h1.mono ?_; rintro e w' ⟨rfl, hw'⟩; obtain rfl := hw'.symm; clear hw' h1
      go_wp2_with fail
      go_step3
      exact ⟨rfl, rfl, _, _, _, _, _, _, _, _, _, _, _, _, _, _, _, _, _, _, _, _, _, _, _, _, _, _, _, _, _, _, _, _, _, _, _, _, _, _, _, _, _, _, _, _, _, _, _, _, _, _, _, rfl⟩
  · rintro a' w' ⟨rfl, u3, u4, u5, u6, u7, u8, u9, u10, u11, u12, u13, u14, u15, u16, u17, u18, u19, u20, u21, u22, u23, u24, u25, u26, u27, u28, u29, u30, u31, u32, u33, u34, u35, u36, u37, u38, u39, u40, u41, u42, u43, u44, u45, u46, u47, u48, u49, u50, u51, u52, u53, rfl⟩
    clear h1 h2 HT
    go_wp2_with fail
    refine g1.mono ?_; rintro e w9 ⟨rfl, hw'⟩; obtain rfl := hw'.symm; clear hw' g1
    go_wp2_with fail
    refine g2.mono ?_; rintro e w9 ⟨rfl, hw'⟩; obtain rfl := hw'.symm; clear hw' g2
    go_wp2_with fail
    refine ta1.mono ?_; rintro e w1 ⟨va, rfl, lva, k1⟩
    have tb2 := tb1 w1 k1
    clear ta1 tb1
    go_wp2_with fail
    refine tb2.mono ?_; rintro e w2 ⟨vb, rfl, lvb, k2⟩
    have hp2 := hp va vb w2 (lva.kp k2) lvb
    have k02 := k1.trans k2
    clear tb2 hp lva lvb k1 k2
    go_wp2_with fail
    refine hp2.mono ?_; rintro e w3 ⟨v, rfl, lv, k3⟩
    have k03 := k02.trans k3
    have hr2 := hr v w3 k03 lv
    clear hp2 hr k02 k3 lv
    go_wp2_with fail
    refine hr2.mono ?_; rintro e w4 ⟨rfl, k4⟩
    have k04 := k03.trans k4
    clear hr2 k03 k4
    go_wp2
    try simp only [Exit.jump]
    exact bodyPost_ret (v := .float .f64 Z) (by simp [results, Tryz.results65, go_sem]) rfl ⟨rfl, k04⟩
set_option maxRecDepth 20000 in
set_option maxHeartbeats 1000000 in
theorem pmulP_ (d : Int) (n n' : Bool) (m m' : Nat) (hm : m < 9223372036854775808) (hm' : m' < 9223372036854775808) (hi : ¬ (m < 9218868437227405312 ∧ m' < 9218868437227405312 ∧ m ≠ 0 ∧ m' ≠ 0)) (w w9 : World) (RR R2 : Nat) (hrun : (binOp .mul 22 (.float .f64 (Fq.wD n m)) (.float .f64 (Fq.wD n' m'))).run Tryz.prog w = .ok (.float .f64 RR) w9) (hk : Kp w w9) (hpl : Calls Tryz.prog 98 #[.float .f64 RR] w9 fun e w' => e = .returned (.float .f64 R2) ∧ w' = w9) :
    Calls Tryz.prog 65 #[.int .i64 d, .float .f64 (Fq.wD n m), .float .f64 (Fq.wD n' m')] w fun e w' => e = .returned (.float .f64 R2) ∧ Kp w w' := by
  have h1 := mild_ n m hm w
  have h2 := mild_ n' m' hm' w
  have g1 := finite_ n m hm w
  have g2 := finite_ n' m' hm' w
  have o1 := Fq.eqzD n m hm
  have o2 := Fq.eqzD n' m' hm'
  obtain ⟨X, hX⟩ : ∃ X, X = Fq.wD n m := ⟨_, rfl⟩
  obtain ⟨Y, hY⟩ : ∃ Y, Y = Fq.wD n' m' := ⟨_, rfl⟩
  rw [← hX] at h1 g1 o1
  rw [← hY] at h2 g2 o2
  rw [← hX, ← hY] at hrun
  rw [← hX, ← hY]
  have HT : Hid (2580562586483294208 ≤ m ∧ m ≤ 6633802251116740608 → ¬ (2580562586483294208 ≤ m' ∧ m' ≤ 6633802251116740608)) := fun h h' => hi ⟨by omega, by omega, by omega, by omega⟩
  have HI : Hid (¬ (m < 9218868437227405312 ∧ m' < 9218868437227405312 ∧ m ≠ 0 ∧ m' ≠ 0)) := hi
  clear hX hY hi hm hm'
  go_enter Tryz.func65, Tryz.ntmps65
  go_wp2
  refine wp_scope_jumps 0 (fun a' w' => w' = w ∧ ∃ u3 u4 u5 u6 u7 u8 u9 u10 u11 u12 u13 u14 u15 u16 u17 u18 u19 u20 u21 u22 u23 u24 u25 u26 u27 u28 u29 u30 u31 u32 u33 u34 u35 u36 u37 u38 u39 u40 u41 u42 u43 u44 u45 u46 u47 u48 u49 u50 u51 u52 u53 : Value, a' = ⟨#[.int .i64 d, .float .f64 X, .float .f64 Y, u3, u4, u5, u6, u7, u8, u9, u10, u11, u12, u13, u14, u15, u16, u17, u18, u19, u20, u21, u22, u23, u24, u25, u26, u27, u28, u29, u30, u31, u32, u33, u34, u35, u36, u37, u38, u39, u40, u41, u42, u43, u44, u45, u46, u47, u48, u49, u50, u51, u52, u53], []⟩) (fun _ _ => 0) rfl ?_ ?_
  · clear g1 g2 o1 o2 hrun hpl HI
    by_cases c1 : 2580562586483294208 ≤ m ∧ m ≤ 6633802251116740608
    · rw [decide_eq_true c1] at h1
      rw [decide_eq_false (HT.out c1)] at h2
      clear c1 HT
      go_wp2_with fail
      refine h1.mono ?_; rintro e w' ⟨rfl, hw'⟩; obtain rfl := hw'.symm; clear hw' h1
      go_wp2_with fail
      refine h2.mono ?_; rintro e w' ⟨rfl, hw'⟩; obtain rfl := hw'.symm; clear hw' h2
      go_wp2_with fail
      go_step3
      exact ⟨rfl, rfl, _, _, _, _, _, _, _, _, _, _, _, _, _, _, _, _, _, _, _, _, _, _, _, _, _, _, _, _, _, _, _, _, _, _, _, _, _, _, _, _, _, _, _, _, _, _, _, _, _, _, _, rfl⟩
    · rw [decide_eq_false c1] at h1
      clear c1 HT h2
      go_wp2_with fail
      refine h1.mono ?_; rintro e w' ⟨rfl, hw'⟩; obtain rfl := hw'.symm; clear hw' h1
      go_wp2_with fail
      go_step3
      exact ⟨rfl, rfl, _, _, _, _, _, _, _, _, _, _, _, _, _, _, _, _, _, _, _, _, _, _, _, _, _, _, _, _, _, _, _, _, _, _, _, _, _, _, _, _, _, _, _, _, _, _, _, _, _, _, _, rfl⟩
  · rintro a' w' ⟨rfl, u3, u4, u5, u6, u7, u8, u9, u10, u11, u12, u13, u14, u15, u16, u17, u18, u19, u20, u21, u22, u23, u24, u25, u26, u27, u28, u29, u30, u31, u32, u33, u34, u35, u36, u37, u38, u39, u40, u41, u42, u43, u44, u45, u46, u47, u48, u49, u50, u51, u52, u53, rfl⟩
    clear h1 h2 HT
    by_cases c1 : m < 9218868437227405312
    · rw [decide_eq_true c1] at g1
      by_cases c2 : m' < 9218868437227405312
      · rw [decide_eq_true c2] at g2
        by_cases c3 : m = 0
        · rw [show (m == 0) = true from by simp [c3]] at o1
          clear c1 c2 c3 HI o2
          go_wp2_with fail
          refine g1.mono ?_; rintro e w8 ⟨rfl, hw'⟩; obtain rfl := hw'.symm; clear hw' g1
          go_wp2_with fail
          refine g2.mono ?_; rintro e w8 ⟨rfl, hw'⟩; obtain rfl := hw'.symm; clear hw' g2
          go_wp2_with fail
          refine hpl.mono ?_; rintro e w8 ⟨rfl, hw'⟩; obtain rfl := hw'.symm; clear hw' hpl
          go_wp2
          try simp only [Exit.jump]
          exact bodyPost_ret (v := .float .f64 R2) (by simp [results, Tryz.results65, go_sem]) rfl ⟨rfl, hk⟩
        · have c4 : m' = 0 := by have := HI.out; omega
          rw [show (m == 0) = false from by simp [c3]] at o1
          rw [show (m' == 0) = true from by simp [c4]] at o2
          clear c1 c2 c3 c4 HI
          go_wp2_with fail
          refine g1.mono ?_; rintro e w8 ⟨rfl, hw'⟩; obtain rfl := hw'.symm; clear hw' g1
          go_wp2_with fail
          refine g2.mono ?_; rintro e w8 ⟨rfl, hw'⟩; obtain rfl := hw'.symm; clear hw' g2
          go_wp2_with fail
          refine hpl.mono ?_; rintro e w8 ⟨rfl, hw'⟩; obtain rfl := hw'.symm; clear hw' hpl
          go_wp2
          try simp only [Exit.jump]
          exact bodyPost_ret (v := .float .f64 R2) (by simp [results, Tryz.results65, go_sem]) rfl ⟨rfl, hk⟩
      · rw [decide_eq_false c2] at g2
        clear c1 c2 HI o1 o2
        go_wp2_with fail
        refine g1.mono ?_; rintro e w8 ⟨rfl, hw'⟩; obtain rfl := hw'.symm; clear hw' g1
        go_wp2_with fail
        refine g2.mono ?_; rintro e w8 ⟨rfl, hw'⟩; obtain rfl := hw'.symm; clear hw' g2
        go_wp2_with fail
        refine hpl.mono ?_; rintro e w8 ⟨rfl, hw'⟩; obtain rfl := hw'.symm; clear hw' hpl
        go_wp2
        try simp only [Exit.jump]
        exact bodyPost_ret (v := .float .f64 R2) (by simp [results, Tryz.results65, go_sem]) rfl ⟨rfl, hk⟩
    · rw [decide_eq_false c1] at g1
      clear c1 HI o1 o2 g2
      go_wp2_with fail
      refine g1.mono ?_; rintro e w8 ⟨rfl, hw'⟩; obtain rfl := hw'.symm; clear hw' g1
      go_wp2_with fail
      refine hpl.mono ?_; rintro e w8 ⟨rfl, hw'⟩; obtain rfl := hw'.symm; clear hw' hpl
      go_wp2
      try simp only [Exit.jump]
      exact bodyPost_ret (v := .float .f64 R2) (by simp [results, Tryz.results65, go_sem]) rfl ⟨rfl, hk⟩
end Go.Proofs.YthdnajcgdngmcaaGreatDoor
