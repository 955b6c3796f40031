import Derived.Test.YtmgfbalhgfkibaaGreatDoorKEX
import Derived.Test.YtmgfbalhgfkibaaGreatDoorKXU1
import Derived.Scope
import Derived.ScopeJumps
import Derived.WalkMore
namespace Go.Proofs.YtmgfbalhgfkibaaGreatDoor
open Go.RowKit
set_option maxRecDepth 20000 in
set_option maxHeartbeats 1000000 in
theorem pmulQ_ (d : Int) (n n' : Bool) (m m' : Nat) (c1 : 2580562586483294208 ≤ m ∧ m ≤ 6633802251116740608) (c2 : 2580562586483294208 ≤ m' ∧ m' ≤ 6633802251116740608) (w : World) :
    Calls Tryz.prog 23 #[.int .i64 d, .float .f64 (Fq.wD n m), .float .f64 (Fq.wD n' m')] w fun e w' => e = .returned (.float .f64 (mulW d (n ^^ n') (Fq.vV Ieee.double m * Fq.vV Ieee.double m'))) ∧ Kp w w' := by
  have h1 := mild_ n m (by omega) w
  have h2 := mild_ n' m' (by omega) w
  rw [decide_eq_true c1] at h1
  rw [decide_eq_true c2] at h2
  obtain ⟨L, hL⟩ : ∃ L : Nat, L = 1074 := ⟨_, rfl⟩
  obtain ⟨e, e1, e2, u1, v1, v2⟩ := mild_unit n m c1.1 c1.2
  obtain ⟨e', e3, e4, u2, v3, v4⟩ := mild_unit n' m' c2.1 c2.2
  obtain ⟨V, s, o, r, ro, K, zV, h3, r0, r8, q0, q1, hex, K1, K2, kV⟩ := twoProduct_ n n' m m' e e' (by omega) (by omega) (by omega) (by omega) (by omega) (by omega) u1 v1 v2 u2 v3 v4 L hL
  have h4 := stepped_ d V s o (n ^^ n') r ro K K1 K2 kV r0 r8 q0 q1 hex
  rw [sum_mul d V (n ^^ n') _ L hL (abs_v n n' m m' L V zV) (sgn_v n n' m m' L V zV)] at h4
  obtain ⟨X, hX⟩ : ∃ X, X = Fq.wD n m := ⟨_, rfl⟩
  obtain ⟨Y, hY⟩ : ∃ Y, Y = Fq.wD n' m' := ⟨_, rfl⟩
  obtain ⟨Z, hZ⟩ : ∃ Z, Z = mulW d (n ^^ n') (Fq.vV Ieee.double m * Fq.vV Ieee.double m') := ⟨_, rfl⟩
  obtain ⟨N, hN⟩ : ∃ N, N = Fq.wD s r := ⟨_, rfl⟩
  obtain ⟨O, hO⟩ : ∃ O, O = Fq.wD o ro := ⟨_, rfl⟩
  rw [← hX] at h1
  rw [← hY] at h2
  rw [← hX, ← hY, ← hN, ← hO] at h3
  rw [← hN, ← hO, ← hZ] at h4
  rw [← hX, ← hY, ← hZ]
  clear hX hY hZ hN hO c1 c2 u1 v1 v2 u2 v3 v4 zV r0 r8 q0 q1 hex K1 K2 kV hL e1 e2 e3 e4
  go_enter Tryz.func23, Tryz.ntmps23
  go_wp2
  refine wp_scope_straight ?_
  go_wp2_with fail
  refine h1.mono ?_; rintro e w' ⟨rfl, hw'⟩; obtain rfl := hw'.symm; clear hw' h1
  go_wp2_with fail
  refine h2.mono ?_; rintro e w' ⟨rfl, hw'⟩; obtain rfl := hw'.symm; clear hw' h2
  have h5 := h3 w
  clear h3
  go_wp2_with fail
  refine h5.mono ?_; rintro e w' ⟨rfl, hw'⟩; obtain rfl := hw'.symm; clear hw' h5
  have h6 := h4 w
  clear h4
  go_wp2_with fail
  refine h6.mono ?_; rintro e w1 ⟨rfl, k1⟩
  clear h6
  go_wp2
  try rw [Exit.noGoto_ret]
  exact bodyPost_ret (v := .float .f64 Z) (by simp [results, Tryz.results23, go_sem]) rfl ⟨rfl, k1⟩
set_option maxRecDepth 20000 in
set_option maxHeartbeats 1000000 in
theorem pmulE_ (d : Int) (n n' : Bool) (m m' : Nat) (hm : m < 9218868437227405312) (hm' : m' < 9218868437227405312) (z : m ≠ 0) (z' : m' ≠ 0) (ct : ¬ ((2580562586483294208 ≤ m ∧ m ≤ 6633802251116740608) ∧ (2580562586483294208 ≤ m' ∧ m' ≤ 6633802251116740608))) (w : World) (hT : Tab w) (hQ : Fq.Tab w) (hd1 : -9223372036854775808 ≤ d) (hd2 : d < 9223372036854775808) :
    Calls Tryz.prog 23 #[.int .i64 d, .float .f64 (Fq.wD n m), .float .f64 (Fq.wD n' m')] w fun e w' => e = .returned (.float .f64 (mulW d (n ^^ n') (Fq.vV Ieee.double m * Fq.vV Ieee.double m'))) ∧ Kp w w' := by
  have h1 := mild_ n m (by omega) w
  have h2 := mild_ n' m' (by omega) w
  have g1 := finite_ n m (by omega) w
  have g2 := finite_ n' m' (by omega) w
  rw [decide_eq_true hm] at g1
  rw [decide_eq_true hm'] at g2
  have o1 := Fq.eqzD n m (by omega)
  have o2 := Fq.eqzD n' m' (by omega)
  rw [show (m == 0) = false from by simp [z]] at o1
  rw [show (m' == 0) = false from by simp [z']] at o2
  obtain ⟨X, hX⟩ : ∃ X, X = Fq.wD n m := ⟨_, rfl⟩
  obtain ⟨Y, hY⟩ : ∃ Y, Y = Fq.wD n' m' := ⟨_, rfl⟩
  obtain ⟨Z, hZ⟩ : ∃ Z, Z = mulW d (n ^^ n') (Fq.vV Ieee.double m * Fq.vV Ieee.double m') := ⟨_, rfl⟩
  obtain ⟨a, ea, a1, a2, a3, a4, ta⟩ := take_ n m hm
  obtain ⟨b, eb, b1, b2, b3, b4, tb⟩ := take_ n' m' hm'
  rw [show (n && !(m == 0)) = n from by simp [z]] at ta
  rw [show (n' && !(m' == 0)) = n' from by simp [z']] at tb
  have hab : blen (a * b) ≤ 106 := by
    have h : blen (a * b) ≤ 53 + 53 := by
      rw [blen_le_iff, Nat.pow_add]
      exact Nat.mul_lt_mul'' (by rw [show (2 : Nat) ^ 53 = 9007199254740992 from by decide]; exact a4) (by rw [show (2 : Nat) ^ 53 = 9007199254740992 from by decide]; exact b4)
    omega
  have hom : ofW d (n ^^ n') (a * b) (ea + eb) = Z := by
    rw [hZ]
    refine of_mul d (n ^^ n') (a * b) (ea + eb) _ (by omega) (by omega) (by omega) ?_
    rw [← a1, ← b1, show (ea + eb + 2148).toNat = (ea + 1074).toNat + (eb + 1074).toNat from by omega, Nat.pow_add]
    simp only [Nat.mul_assoc, Nat.mul_left_comm]
  have hr : ∀ (v : Value) (w1 : World), Kp w w1 → Ls w1 v (dig (a * b)) → Calls Tryz.prog 41 #[.agg #[.bool (n ^^ n'), v, .int .i64 (ea + eb)], .int .i64 d] w1 fun e w' => e = .returned (.float .f64 Z) ∧ Kp w1 w' := fun v w1 k1 l1 => by
    rw [← hom]; exact rounded_ d (n ^^ n') (a * b) (ea + eb) v w1 l1 (hT.grown k1) (Fq.Tab.grown hQ k1) hd1 hd2 (dlen (a * b) 16384 (by omega))
  have hp := fun va vb w1 la lb => times_ n n' a b ea eb va vb w1 la lb a4 b4 a2 a3 b2 b3
  rw [← hX] at h1 g1 ta o1
  rw [← hY] at h2 g2 tb o2
  rw [← hX, ← hY, ← hZ]
  have ta1 := ta w hQ
  have tb1 := fun w1 (k : Kp w w1) => tb w1 (Fq.Tab.grown hQ k)
  obtain ⟨ee, hee⟩ : ∃ ee, ee = ea + eb := ⟨_, rfl⟩
  obtain ⟨ns, hns⟩ : ∃ ns, ns = (n ^^ n') := ⟨_, rfl⟩
  rw [← hee, ← hns] at hr
  simp only [← hee, ← hns] at hp
  have HT : Hid (2580562586483294208 ≤ m ∧ m ≤ 6633802251116740608 → ¬ (2580562586483294208 ≤ m' ∧ m' ≤ 6633802251116740608)) := fun h h' => ct ⟨h, h'⟩
  clear hX hY hZ hom hab a1 a2 a3 a4 b1 b2 b3 b4 ta tb hT hQ hd1 hd2 ct hm hm' z z' hee hns
  go_enter Tryz.func23, Tryz.ntmps23
  go_wp2
  refine wp_scope_jumps 0 (fun a' w' => w' = w ∧ ∃ u3 u4 u5 u6 u7 u8 u9 u10 u11 u12 u13 u14 u15 u16 u17 u18 u19 u20 u21 u22 u23 u24 u25 u26 u27 u28 u29 u30 u31 u32 u33 u34 u35 u36 u37 u38 u39 u40 u41 u42 u43 u44 u45 u46 u47 u48 u49 u50 u51 u52 u53 : Value, a' = ⟨#[.int .i64 d, .float .f64 X, .float .f64 Y, u3, u4, u5, u6, u7, u8, u9, u10, u11, u12, u13, u14, u15, u16, u17, u18, u19, u20, u21, u22, u23, u24, u25, u26, u27, u28, u29, u30, u31, u32, u33, u34, u35, u36, u37, u38, u39, u40, u41, u42, u43, u44, u45, u46, u47, u48, u49, u50, u51, u52, u53], []⟩) (fun _ _ => 0) rfl ?_ ?_
  · clear g1 g2 ta1 tb1 hp hr o1 o2
    by_cases c1 : 2580562586483294208 ≤ m ∧ m ≤ 6633802251116740608
    · rw [decide_eq_true c1] at h1
      rw [decide_eq_false (HT.out c1)] at h2
      clear c1 HT
      go_wp2_with fail
      refine h1.mono ?_; rintro e w' ⟨rfl, hw'⟩; obtain rfl := hw'.symm; clear hw' h1
      go_wp2_with fail
      refine h2.mono ?_; rintro e w' ⟨rfl, hw'⟩; obtain rfl := hw'.symm; clear hw' h2
      go_wp2_with fail
      go_step3
      exact ⟨rfl, rfl, _, _, _, _, _, _, _, _, _, _, _, _, _, _, _, _, _, _, _, _, _, _, _, _, _, _, _, _, _, _, _, _, _, _, _, _, _, _, _, _, _, _, _, _, _, _, _, _, _, _, _, rfl⟩
    · rw [decide_eq_false c1] at h1
      clear c1 HT h2
      go_wp2_with fail
      refine h1.mono ?_; rintro e w' ⟨rfl, hw'⟩; obtain rfl := hw'.symm; clear hw' h1
      go_wp2_with fail
      go_step3
      exact ⟨rfl, rfl, _, _, _, _, _, _, _, _, _, _, _, _, _, _, _, _, _, _, _, _, _, _, _, _, _, _, _, _, _, _, _, _, _, _, _, _, _, _, _, _, _, _, _, _, _, _, _, _, _, _, _, rfl⟩
  · rintro a' w' ⟨rfl, u3, u4, u5, u6, u7, u8, u9, u10, u11, u12, u13, u14, u15, u16, u17, u18, u19, u20, u21, u22, u23, u24, u25, u26, u27, u28, u29, u30, u31, u32, u33, u34, u35, u36, u37, u38, u39, u40, u41, u42, u43, u44, u45, u46, u47, u48, u49, u50, u51, u52, u53, rfl⟩
    clear h1 h2 HT
    go_wp2_with fail
    refine g1.mono ?_; rintro e w9 ⟨rfl, hw'⟩; obtain rfl := hw'.symm; clear hw' g1
    go_wp2_with fail
    refine g2.mono ?_; rintro e w9 ⟨rfl, hw'⟩; obtain rfl := hw'.symm; clear hw' g2
    go_wp2_with fail
    refine ta1.mono ?_; rintro e w1 ⟨va, rfl, lva, k1⟩
    have tb2 := tb1 w1 k1
    clear ta1 tb1
    go_wp2_with fail
    refine tb2.mono ?_; rintro e w2 ⟨vb, rfl, lvb, k2⟩
    have hp2 := hp va vb w2 (lva.kp k2) lvb
    have k02 := k1.trans k2
    clear tb2 hp lva lvb k1 k2
    go_wp2_with fail
    refine hp2.mono ?_; rintro e w3 ⟨v, rfl, lv, k3⟩
    have k03 := k02.trans k3
    have hr2 := hr v w3 k03 lv
    clear hp2 hr k02 k3 lv
    go_wp2_with fail
    refine hr2.mono ?_; rintro e w4 ⟨rfl, k4⟩
    have k04 := k03.trans k4
    clear hr2 k03 k4
    go_wp2
    try simp only [Exit.jump]
    exact bodyPost_ret (v := .float .f64 Z) (by simp [results, Tryz.results23, go_sem]) rfl ⟨rfl, k04⟩
set_option maxRecDepth 20000 in
set_option maxHeartbeats 1000000 in
theorem pmulP_ (d : Int) (n n' : Bool) (m m' : Nat) (hm : m < 9223372036854775808) (hm' : m' < 9223372036854775808) (hi : ¬ (m < 9218868437227405312 ∧ m' < 9218868437227405312 ∧ m ≠ 0 ∧ m' ≠ 0)) (w w9 : World) (RR R2 : Nat) (hrun : (binOp .mul 26 (.float .f64 (Fq.wD n m)) (.float .f64 (Fq.wD n' m'))).run Tryz.prog w = .ok (.float .f64 RR) w9) (hk : Kp w w9) (hpl : Calls Tryz.prog 38 #[.float .f64 RR] w9 fun e w' => e = .returned (.float .f64 R2) ∧ w' = w9) :
    Calls Tryz.prog 23 #[.int .i64 d, .float .f64 (Fq.wD n m), .float .f64 (Fq.wD n' m')] w fun e w' => e = .returned (.float .f64 R2) ∧ Kp w w' := by
  have h1 := mild_ n m hm w
  have h2 := mild_ n' m' hm' w
  have g1 := finite_ n m hm w
  have g2 := finite_ n' m' hm' w
  have o1 := Fq.eqzD n m hm
  have o2 := Fq.eqzD n' m' hm'
  obtain ⟨X, hX⟩ : ∃ X, X = Fq.wD n m := ⟨_, rfl⟩
  obtain ⟨Y, hY⟩ : ∃ Y, Y = Fq.wD n' m' := ⟨_, rfl⟩
  rw [← hX] at h1 g1 o1
  rw [← hY] at h2 g2 o2
  rw [← hX, ← hY] at hrun
  rw [← hX, ← hY]
  have HT : Hid (2580562586483294208 ≤ m ∧ m ≤ 6633802251116740608 → ¬ (2580562586483294208 ≤ m' ∧ m' ≤ 6633802251116740608)) := fun h h' => hi ⟨by omega, by omega, by omega, by omega⟩
  have HI : Hid (¬ (m < 9218868437227405312 ∧ m' < 9218868437227405312 ∧ m ≠ 0 ∧ m' ≠ 0)) := hi
  clear hX hY hi hm hm'
  go_enter Tryz.func23, Tryz.ntmps23
  go_wp2
  refine wp_scope_jumps 0 (fun a' w' => w' = w ∧ ∃ u3 u4 u5 u6 u7 u8 u9 u10 u11 u12 u13 u14 u15 u16 u17 u18 u19 u20 u21 u22 u23 u24 u25 u26 u27 u28 u29 u30 u31 u32 u33 u34 u35 u36 u37 u38 u39 u40 u41 u42 u43 u44 u45 u46 u47 u48 u49 u50 u51 u52 u53 : Value, a' = ⟨#[.int .i64 d, .float .f64 X, .float .f64 Y, u3, u4, u5, u6, u7, u8, u9, u10, u11, u12, u13, u14, u15, u16, u17, u18, u19, u20, u21, u22, u23, u24, u25, u26, u27, u28, u29, u30, u31, u32, u33, u34, u35, u36, u37, u38, u39, u40, u41, u42, u43, u44, u45, u46, u47, u48, u49, u50, u51, u52, u53], []⟩) (fun _ _ => 0) rfl ?_ ?_
  · clear g1 g2 o1 o2 hrun hpl HI
    by_cases c1 : 2580562586483294208 ≤ m ∧ m ≤ 6633802251116740608
    · rw [decide_eq_true c1] at h1
      rw [decide_eq_false (HT.out c1)] at h2
      clear c1 HT
      go_wp2_with fail
      refine h1.mono ?_; rintro e w' ⟨rfl, hw'⟩; obtain rfl := hw'.symm; clear hw' h1
      go_wp2_with fail
      refine h2.mono ?_; rintro e w' ⟨rfl, hw'⟩; obtain rfl := hw'.symm; clear hw' h2
      go_wp2_with fail
      go_step3
      exact ⟨rfl, rfl, _, _, _, _, _, _, _, _, _, _, _, _, _, _, _, _, _, _, _, _, _, _, _, _, _, _, _, _, _, _, _, _, _, _, _, _, _, _, _, _, _, _, _, _, _, _, _, _, _, _, _, rfl⟩
    · rw [decide_eq_false c1] at h1
      clear c1 HT h2
      go_wp2_with fail
      refine h1.mono ?_; rintro e w' ⟨rfl, hw'⟩; obtain rfl := hw'.symm; clear hw' h1
      go_wp2_with fail
      go_step3
      exact ⟨rfl, rfl, _, _, _, _, _, _, _, _, _, _, _, _, _, _, _, _, _, _, _, _, _, _, _, _, _, _, _, _, _, _, _, _, _, _, _, _, _, _, _, _, _, _, _, _, _, _, _, _, _, _, _, rfl⟩
  · rintro a' w' ⟨rfl, u3, u4, u5, u6, u7, u8, u9, u10, u11, u12, u13, u14, u15, u16, u17, u18, u19, u20, u21, u22, u23, u24, u25, u26, u27, u28, u29, u30, u31, u32, u33, u34, u35, u36, u37, u38, u39, u40, u41, u42, u43, u44, u45, u46, u47, u48, u49, u50, u51, u52, u53, rfl⟩
    clear h1 h2 HT
    by_cases c1 : m < 9218868437227405312
    · rw [decide_eq_true c1] at g1
      by_cases c2 : m' < 9218868437227405312
      · rw [decide_eq_true c2] at g2
        by_cases c3 : m = 0
        · rw [show (m == 0) = true from by simp [c3]] at o1
          clear c1 c2 c3 HI o2
          go_wp2_with fail
          refine g1.mono ?_; rintro e w8 ⟨rfl, hw'⟩; obtain rfl := hw'.symm; clear hw' g1
          go_wp2_with fail
          refine g2.mono ?_; rintro e w8 ⟨rfl, hw'⟩; obtain rfl := hw'.symm; clear hw' g2
          go_wp2_with fail
          refine hpl.mono ?_; rintro e w8 ⟨rfl, hw'⟩; obtain rfl := hw'.symm; clear hw' hpl
          go_wp2
          try simp only [Exit.jump]
          exact bodyPost_ret (v := .float .f64 R2) (by simp [results, Tryz.results23, go_sem]) rfl ⟨rfl, hk⟩
        · have c4 : m' = 0 := by have := HI.out; omega
          rw [show (m == 0) = false from by simp [c3]] at o1
          rw [show (m' == 0) = true from by simp [c4]] at o2
          clear c1 c2 c3 c4 HI
          go_wp2_with fail
          refine g1.mono ?_; rintro e w8 ⟨rfl, hw'⟩; obtain rfl := hw'.symm; clear hw' g1
          go_wp2_with fail
          refine g2.mono ?_; rintro e w8 ⟨rfl, hw'⟩; obtain rfl := hw'.symm; clear hw' g2
          go_wp2_with fail
          refine hpl.mono ?_; rintro e w8 ⟨rfl, hw'⟩; obtain rfl := hw'.symm; clear hw' hpl
          go_wp2
          try simp only [Exit.jump]
          exact bodyPost_ret (v := .float .f64 R2) (by simp [results, Tryz.results23, go_sem]) rfl ⟨rfl, hk⟩
      · rw [decide_eq_false c2] at g2
        clear c1 c2 HI o1 o2
        go_wp2_with fail
        refine g1.mono ?_; rintro e w8 ⟨rfl, hw'⟩; obtain rfl := hw'.symm; clear hw' g1
        go_wp2_with fail
        refine g2.mono ?_; rintro e w8 ⟨rfl, hw'⟩; obtain rfl := hw'.symm; clear hw' g2
        go_wp2_with fail
        refine hpl.mono ?_; rintro e w8 ⟨rfl, hw'⟩; obtain rfl := hw'.symm; clear hw' hpl
        go_wp2
        try simp only [Exit.jump]
        exact bodyPost_ret (v := .float .f64 R2) (by simp [results, Tryz.results23, go_sem]) rfl ⟨rfl, hk⟩
    · rw [decide_eq_false c1] at g1
      clear c1 HI o1 o2 g2
      go_wp2_with fail
      refine g1.mono ?_; rintro e w8 ⟨rfl, hw'⟩; obtain rfl := hw'.symm; clear hw' g1
      go_wp2_with fail
      refine hpl.mono ?_; rintro e w8 ⟨rfl, hw'⟩; obtain rfl := hw'.symm; clear hw' hpl
      go_wp2
      try simp only [Exit.jump]
      exact bodyPost_ret (v := .float .f64 R2) (by simp [results, Tryz.results23, go_sem]) rfl ⟨rfl, hk⟩

set_option linter.unusedVariables false
def pz (z : Int) : Nat := Fq.wD (decide (z < 0)) z.natAbs
def g53 (d : Int) (c1 c2 : Nat) (V : Int) : Int := gpl 53 2098 9218868437227405311 9218868437227405312 d c1 c2 V
theorem g53_mono (d : Int) (c1 c2 : Nat) (hc : 0 < c2) (V V' : Int) (h : V ≤ V') : g53 d c1 c2 V ≤ g53 d c1 c2 V' := gpl_mono 53 2098 9218868437227405311 9218868437227405312 d c1 c2 hc (by decide) (by decide) (by decide) (by decide) V V' h
theorem g53_le (d : Int) (c1 c2 : Nat) (V : Int) : -9218868437227405312 ≤ g53 d c1 c2 V ∧ g53 d c1 c2 V ≤ 9218868437227405312 := gpl_le 53 2098 9218868437227405311 9218868437227405312 d c1 c2 (by decide) (by decide) (by decide) (by decide) V
theorem mdW_pz (s : Bool) (M : Nat) : mdW s M = pz (if s then -(M : Int) else M) := by
  unfold mdW pz Fq.wD
  by_cases z : M = 0
  · rw [if_pos z, z]; cases s <;> simp
  · rw [if_neg z]
    cases s
    · simp <;> omega
    · simp <;> omega
theorem rV_neg (d : Int) (A K : Nat) : rV d 53 A 1 (-(K : Int)) = rU d 53 (A * 1) (2 ^ K) := by
  unfold rV
  rw [show (-(K : Int)).toNat = 0 from by omega, show (- -(K : Int)).toNat = K from by omega, Nat.pow_zero, Nat.one_mul]
def fmaW (d V : Int) : Nat := if V = 0 then 0 else mdW (decide (V < 0)) (finU 53 2098 9218868437227405311 9218868437227405312 (dirN (decide (V < 0)) d) (rV (dirN (decide (V < 0)) d) 53 V.natAbs 1 (-1074)))
theorem fmaW_g (K : Nat) (hK : K = 1074) (d V : Int) : fmaW d V = pz (g53 d 1 (2 ^ K) V) := by
  unfold fmaW g53 gpl
  rw [show (-1074 : Int) = -(K : Int) from by omega]
  by_cases z : V = 0
  · rw [if_pos z, if_pos z]; rfl
  · rw [if_neg z, if_neg z, mdW_pz, rV_neg]
    by_cases n : V < 0
    · rw [if_pos n, decide_eq_true n]; rfl
    · rw [if_neg n, decide_eq_false n]; rfl
theorem mulW_g (K : Nat) (hK : K = 1074) (d : Int) (n n' : Bool) (m m' : Nat) : mulW d (n ^^ n') (Fq.vV Ieee.double m * Fq.vV Ieee.double m') = pz (g53 d 1 (2 ^ K) (Iv n m * Iv n' m')) := by
  rw [← fmaW_g K hK]
  have e : Iv n m * Iv n' m' = if (n ^^ n') then -((Fq.vV Ieee.double m * Fq.vV Ieee.double m' : Nat) : Int) else ((Fq.vV Ieee.double m * Fq.vV Ieee.double m' : Nat) : Int) := by
    unfold Iv
    rw [Int.natCast_mul]
    cases n <;> cases n' <;> simp [Int.neg_mul, Int.mul_neg]
  rw [e]
  generalize Fq.vV Ieee.double m * Fq.vV Ieee.double m' = P
  generalize (n ^^ n') = s
  unfold mulW fmaW
  by_cases z : P = 0
  · rw [if_pos z, z, if_pos (by cases s <;> rfl)]
  · rw [if_neg z, if_neg (by cases s <;> simp <;> omega)]
    cases s
    · rw [if_neg (by decide), show decide (((P : Nat) : Int) < 0) = false from decide_eq_false (by omega), show ((P : Nat) : Int).natAbs = P from by omega]
    · rw [if_pos rfl, show decide (-((P : Nat) : Int) < 0) = true from decide_eq_true (by omega), show (-((P : Nat) : Int)).natAbs = P from by omega]
theorem mulG_ (K : Nat) (hK : K = 1074) (d : Int) (n n' : Bool) (m m' : Nat) (hm : m < 9218868437227405312) (hm' : m' < 9218868437227405312) (hd1 : -9223372036854775808 ≤ d) (hd2 : d < 9223372036854775808) (w : World) (hT : Tab w) (hQ : Fq.Tab w) : Calls Tryz.prog 23 #[.int .i64 d, .float .f64 (Fq.wD n m), .float .f64 (Fq.wD n' m')] w fun e w' => e = .returned (.float .f64 (pz (g53 d 1 (2 ^ K) (Iv n m * Iv n' m')))) ∧ Kp w w' := by
  rw [← mulW_g K hK]
  by_cases z : m = 0 ∨ m' = 0
  · have h0 : mulW d (n ^^ n') (Fq.vV Ieee.double m * Fq.vV Ieee.double m') = 0 := by
      unfold mulW
      refine if_pos (Nat.mul_eq_zero.2 ?_)
      rcases z with z | z
      · exact Or.inl ((vV_zero m).2 z)
      · exact Or.inr ((vV_zero m').2 z)
    rw [h0]
    have hp := Fq.plain_d (n ^^ n') 0 (by decide) w
    rw [show Fq.wD ((n ^^ n') && !((0 : Nat) == 0)) 0 = 0 from by simp; rfl] at hp
    exact pmulP_ d n n' m m' (by omega) (by omega) (fun h => by omega) w w (Fq.wD (n ^^ n') 0) 0 (run_float_arith w .mul 26 .f64 _ _ _ (mul_zero n n' m m' hm hm' z)) (Kp.refl _) hp
  · by_cases ct : (2580562586483294208 ≤ m ∧ m ≤ 6633802251116740608) ∧ (2580562586483294208 ≤ m' ∧ m' ≤ 6633802251116740608)
    · exact pmulQ_ d n n' m m' ct.1 ct.2 w
    · exact pmulE_ d n n' m m' hm hm' (fun h => z (Or.inl h)) (fun h => z (Or.inr h)) ct w hT hQ hd1 hd2

def H4c (w : World) (b : Nat) (v0 v1 v2 v3 : Value) : Prop := w.cell? ⟨b, 0, none⟩ = some v0 ∧ w.cell? ⟨b, 1, none⟩ = some v1 ∧ w.cell? ⟨b, 2, none⟩ = some v2 ∧ w.cell? ⟨b, 3, none⟩ = some v3 ∧ w.frozen? ⟨b, 0, none⟩ = false ∧ w.frozen? ⟨b, 1, none⟩ = false ∧ w.frozen? ⟨b, 2, none⟩ = false ∧ w.frozen? ⟨b, 3, none⟩ = false
theorem H4c.keep {W w : World} {b : Nat} {v0 v1 v2 v3 : Value} (h : H4c W b v0 v1 v2 v3) (g : Kp W w) : H4c w b v0 v1 v2 v3 := by
  obtain ⟨h0, h1, h2, h3, h4, h5, h6, h7⟩ := h
  exact ⟨kkeep g h0, kkeep g h1, kkeep g h2, kkeep g h3, (kfro g (cell_lt h0)).trans h4, (kfro g (cell_lt h0)).trans h5, (kfro g (cell_lt h0)).trans h6, (kfro g (cell_lt h0)).trans h7⟩
theorem H4c.new (w : World) (v0 v1 v2 v3 : Value) (t : TypeId) : H4c (w.alloc (.cells #[v0, v1, v2, v3] t)) w.heap.size v0 v1 v2 v3 := by
  unfold H4c; simp [go_sem]
theorem H4c.lt {w : World} {b : Nat} {v0 v1 v2 v3 : Value} (h : H4c w b v0 v1 v2 v3) : b < w.heap.size := cell_lt h.1
set_option maxRecDepth 20000 in
set_option maxHeartbeats 1000000 in
theorem H4c.put {w : World} {b : Nat} {v0 v1 v2 v3 : Value} (h : H4c w b v0 v1 v2 v3) (u0 u1 u2 u3 : Value) : H4c (((((w.setCell ⟨b, 0, none⟩ u0).setCell ⟨b, 1, none⟩ u1).setCell ⟨b, 2, none⟩ u2).setCell ⟨b, 3, none⟩ u3)) b u0 u1 u2 u3 := by
  obtain ⟨h0, h1, h2, h3, h4, h5, h6, h7⟩ := h
  unfold H4c; simp [go_sem, h0, h1, h2, h3, h4, h5, h6, h7]
theorem H4c.far1 {w : World} {b : Nat} {v0 v1 v2 v3 : Value} (h : H4c w b v0 v1 v2 v3) (x : Addr) (hne : x.block ≠ b) (u : Value) : H4c (w.setCell x u) b v0 v1 v2 v3 := by
  obtain ⟨h0, h1, h2, h3, h4, h5, h6, h7⟩ := h
  exact ⟨(World.cell?_setCell_far _ _ _ _ hne).trans h0, (World.cell?_setCell_far _ _ _ _ hne).trans h1, (World.cell?_setCell_far _ _ _ _ hne).trans h2, (World.cell?_setCell_far _ _ _ _ hne).trans h3, (World.frozen?_setCell _ _ _ _).trans h4, (World.frozen?_setCell _ _ _ _).trans h5, (World.frozen?_setCell _ _ _ _).trans h6, (World.frozen?_setCell _ _ _ _).trans h7⟩

set_option linter.unusedVariables false
def NB (p q : Option Addr) (b : Nat) : Prop := (∀ a, p = some a → a.block ≠ b) ∧ (∀ a, q = some a → a.block ≠ b)
theorem Own.setNe {w : World} {base : Nat} {p : Option Addr} {l c : Nat} {xs : List Int} (h : Own w base (.slice p l c) xs) {x : Addr} (hx : ∀ a, p = some a → a.block ≠ x.block) (u : Value) : Own (w.setCell x u) base (.slice p l c) xs := by
  refine ownsRow_setCell_other h ?_ u
  cases p with
  | none => simp [Value.ownBlock]
  | some a => simpa [Value.ownBlock] using hx a rfl
theorem Own.blk {w : World} {base : Nat} {p : Option Addr} {l c : Nat} {xs : List Int} (h : Own w base (.slice p l c) xs) : ∀ a, p = some a → base ≤ a.block ∧ a.block < w.heap.size := by
  intro a ha
  rcases h.2 with ⟨h1, -⟩ | ⟨g, cap, cur, h1, h2, h3, -⟩
  · simp at h1; rw [h1.1] at ha; cases ha
  · simp at h1
    rw [h1.1] at ha
    obtain rfl := Option.some.inj ha
    refine ⟨h2, ?_⟩
    exact lt_of_block h3
theorem RP.setNe {base : Nat} {w : World} {s : Bool} {p : Option Addr} {l c : Nat} {q : Option Addr} {k d : Nat} {n : Bool} {m : Nat} (h : RP base w s p l c q k d n m) {x : Addr} (hx : NB p q x.block) (u : Value) : RP base (w.setCell x u) s p l c q k d n m := by
  obtain ⟨a, b, h1, h2, h3⟩ := h
  exact ⟨a, b, h1.setNe hx.1 u, h2.setNe hx.2 u, h3⟩
theorem RP.nought {base : Nat} {w : World} {s : Bool} {p : Option Addr} {l c : Nat} {q : Option Addr} {k d : Nat} {n : Bool} (h : RP base w s p l c q k d n 0) (n' : Bool) : RP base w s p l c q k d n' 0 := by
  obtain ⟨a, b, h1, h2, h3⟩ := h
  refine ⟨a, b, h1, h2, fun K hK => ?_⟩
  obtain ⟨f1, f2, f3, f4, f5⟩ := h3 K hK
  exact ⟨f1, f2, by rw [← f3]; unfold Iv; rw [Fq.vV_zero]; cases n <;> cases n' <;> rfl, f4, f5⟩
theorem RP.nbLow {base : Nat} {w : World} {s : Bool} {p : Option Addr} {l c : Nat} {q : Option Addr} {k d : Nat} {n : Bool} {m : Nat} (h : RP base w s p l c q k d n m) {b : Nat} (hb : b < base) : NB p q b := by
  obtain ⟨x, y, h1, h2, -⟩ := h
  exact ⟨fun a ha => by have := (h1.blk a ha).1; omega, fun a ha => by have := (h2.blk a ha).1; omega⟩
end Go.Proofs.YtmgfbalhgfkibaaGreatDoor
