import Derived.Test.YthngdlifpbhagaaGreatDoorProg
import Derived.Test.YthngdlifpbhagaaGreatDoorKXA0
import Derived.Test.YthngdlifpbhagaaGreatDoorKXM
import Derived.Test.YthngdlifpbhagaaGreatDoorKXY
import Derived.Test.YthngdlifpbhagaaGreatDoorKXQF
import Derived.Test.YthngdlifpbhagaaGreatDoorKQA
import Derived.Test.YthngdlifpbhagaaGreatDoorKQP
import Derived.Test.YthngdlifpbhagaaGreatDoorKXQU
import Derived.Test.YthngdlifpbhagaaGreatDoorKQB
import Derived.Test.YthngdlifpbhagaaGreatDoorKQBT
import Derived.Test.YthngdlifpbhagaaGreatDoorKQJd
import Derived.Test.YthngdlifpbhagaaGreatDoorKHB
import Derived.Test.YthngdlifpbhagaaGreatDoorKLX
import Derived.Test.YthngdlifpbhagaaGreatDoorKXMR
import Derived.Test.YthngdlifpbhagaaGreatDoorKXG1
import Derived.Test.YthngdlifpbhagaaGreatDoorKXH2Q
import Derived.Test.YthngdlifpbhagaaGreatDoorKXNM
import Derived.Test.YthngdlifpbhagaaGreatDoorKXMQ
import Derived.Test.YthngdlifpbhagaaGreatDoorKXMS
import Derived.Test.YthngdlifpbhagaaGreatDoorKXO3
import Derived.Test.YthngdlifpbhagaaGreatDoorKXO
import Derived.Test.YthngdlifpbhagaaGreatDoorKXS2
import Derived.Test.YthngdlifpbhagaaGreatDoorKXU1
import Derived.Test.YthngdlifpbhagaaGreatDoorKLN
import Derived.Test.YthngdlifpbhagaaGreatDoorKXT
import Derived.Test.YthngdlifpbhagaaGreatDoorKXRT
import Derived.Test.YthngdlifpbhagaaGreatDoorKXRL
import Derived.Test.YthngdlifpbhagaaGreatDoorKXCO
import Derived.Test.YthngdlifpbhagaaGreatDoorKXRN
import Derived.Test.YthngdlifpbhagaaGreatDoorKW4
import Derived.Test.YthngdlifpbhagaaGreatDoorKBY
import Derived.Test.YthngdlifpbhagaaGreatDoorKXBW
import Derived.Test.YthngdlifpbhagaaGreatDoorKXTZ
import Derived.Test.YthngdlifpbhagaaGreatDoorKXG4
import Derived.Test.YthngdlifpbhagaaGreatDoorKXS4
import Derived.WalkKit
import Derived.ProofKit
import Derived.RowKit3
import Derived.WalkSpells
import Derived.StillTactics
import Derived.Deep.QuietTactic
import Derived.BigQuiet
import Derived.Below
import Derived.Deep.OwnRows
import Derived.OwnWalk
import Derived.Laws.BitsAllLaws
import Derived.Laws.Slices
import Derived.Laws.Bits64b
import Derived.Laws.FloatArith
import Derived.Laws.Small
import Derived.WalkMore
import Derived.ScopeJumps
import Derived.Scope
import Derived.Deep.RegionHeld3
namespace Go.Proofs.YthngdlifpbhagaaGreatDoor
open Go.RowKit
set_option maxRecDepth 20000 in
set_option maxHeartbeats 1000000 in
theorem pmulQ_ (d : Int) (n n' : Bool) (m m' : Nat) (c1 : 2580562586483294208 ≤ m ∧ m ≤ 6633802251116740608) (c2 : 2580562586483294208 ≤ m' ∧ m' ≤ 6633802251116740608) (w : World) :
    Calls Tryz.prog 34 #[.int .i64 d, .float .f64 (Fq.wD n m), .float .f64 (Fq.wD n' m')] w fun e w' => e = .returned (.float .f64 (mulW d (n ^^ n') (Fq.vV Ieee.double m * Fq.vV Ieee.double m'))) ∧ Kp w w' := by
  have h1 := mild_ n m (by omega) w
  have h2 := mild_ n' m' (by omega) w
  rw [decide_eq_true c1] at h1
  rw [decide_eq_true c2] at h2
  obtain ⟨L, hL⟩ : ∃ L : Nat, L = 1074 := ⟨_, rfl⟩
  obtain ⟨e, e1, e2, u1, v1, v2⟩ := mild_unit n m c1.1 c1.2
  obtain ⟨e', e3, e4, u2, v3, v4⟩ := mild_unit n' m' c2.1 c2.2
  obtain ⟨V, s, o, r, ro, K, zV, h3, r0, r8, q0, q1, hex, K1, K2, kV⟩ := twoProduct_ n n' m m' e e' (by omega) (by omega) (by omega) (by omega) (by omega) (by omega) u1 v1 v2 u2 v3 v4 L hL
  have h4 := stepped_ d V s o (n ^^ n') r ro K K1 K2 kV r0 r8 q0 q1 hex
  rw [sum_mul d V (n ^^ n') _ L hL (abs_v n n' m m' L V zV) (sgn_v n n' m m' L V zV)] at h4
  obtain ⟨X, hX⟩ : ∃ X, X = Fq.wD n m := ⟨_, rfl⟩
  obtain ⟨Y, hY⟩ : ∃ Y, Y = Fq.wD n' m' := ⟨_, rfl⟩
  obtain ⟨Z, hZ⟩ : ∃ Z, Z = mulW d (n ^^ n') (Fq.vV Ieee.double m * Fq.vV Ieee.double m') := ⟨_, rfl⟩
  obtain ⟨N, hN⟩ : ∃ N, N = Fq.wD s r := ⟨_, rfl⟩
  obtain ⟨O, hO⟩ : ∃ O, O = Fq.wD o ro := ⟨_, rfl⟩
  rw [← hX] at h1
  rw [← hY] at h2
  rw [← hX, ← hY, ← hN, ← hO] at h3
  rw [← hN, ← hO, ← hZ] at h4
  rw [← hX, ← hY, ← hZ]
  clear hX hY hZ hN hO c1 c2 u1 v1 v2 u2 v3 v4 zV r0 r8 q0 q1 hex K1 K2 kV hL e1 e2 e3 e4
  go_enter Tryz.func34, Tryz.ntmps34
  go_wp2
  refine wp_scope_straight ?_
  go_wp2_with fail
  refine h1.mono ?_; rintro e w' ⟨rfl, hw'⟩; obtain rfl := hw'.symm; clear hw' h1
  go_wp2_with fail
  refine h2.mono ?_; rintro e w' ⟨rfl, hw'⟩; obtain rfl := hw'.symm; clear hw' h2
  have h5 := h3 w
  clear h3
  go_wp2_with fail
  refine h5.mono ?_; rintro e w' ⟨rfl, hw'⟩; obtain rfl := hw'.symm; clear hw' h5
  have h6 := h4 w
  clear h4
  go_wp2_with fail
  refine h6.mono ?_; rintro e w1 ⟨rfl, k1⟩
  clear h6
  go_wp2
  try rw [Exit.noGoto_ret]
  exact bodyPost_ret (v := .float .f64 Z) (by simp [results, Tryz.results34, go_sem]) rfl ⟨rfl, k1⟩
set_option maxRecDepth 20000 in
set_option maxHeartbeats 1000000 in
theorem pmulE_ (d : Int) (n n' : Bool) (m m' : Nat) (hm : m < 9218868437227405312) (hm' : m' < 9218868437227405312) (z : m ≠ 0) (z' : m' ≠ 0) (ct : ¬ ((2580562586483294208 ≤ m ∧ m ≤ 6633802251116740608) ∧ (2580562586483294208 ≤ m' ∧ m' ≤ 6633802251116740608))) (w : World) (hT : Tab w) (hQ : Fq.Tab w) (hd1 : -9223372036854775808 ≤ d) (hd2 : d < 9223372036854775808) :
    Calls Tryz.prog 34 #[.int .i64 d, .float .f64 (Fq.wD n m), .float .f64 (Fq.wD n' m')] w fun e w' => e = .returned (.float .f64 (mulW d (n ^^ n') (Fq.vV Ieee.double m * Fq.vV Ieee.double m'))) ∧ Kp w w' := by
  have h1 := mild_ n m (by omega) w
  have h2 := mild_ n' m' (by omega) w
  have g1 := finite_ n m (by omega) w
  have g2 := finite_ n' m' (by omega) w
  rw [decide_eq_true hm] at g1
  rw [decide_eq_true hm'] at g2
  have o1 := Fq.eqzD n m (by omega)
  have o2 := Fq.eqzD n' m' (by omega)
  rw [show (m == 0) = false from by simp [z]] at o1
  rw [show (m' == 0) = false from by simp [z']] at o2
  obtain ⟨X, hX⟩ : ∃ X, X = Fq.wD n m := ⟨_, rfl⟩
  obtain ⟨Y, hY⟩ : ∃ Y, Y = Fq.wD n' m' := ⟨_, rfl⟩
  obtain ⟨Z, hZ⟩ : ∃ Z, Z = mulW d (n ^^ n') (Fq.vV Ieee.double m * Fq.vV Ieee.double m') := ⟨_, rfl⟩
  obtain ⟨a, ea, a1, a2, a3, a4, ta⟩ := take_ n m hm
  obtain ⟨b, eb, b1, b2, b3, b4, tb⟩ := take_ n' m' hm'
  rw [show (n && !(m == 0)) = n from by simp [z]] at ta
  rw [show (n' && !(m' == 0)) = n' from by simp [z']] at tb
  have hab : blen (a * b) ≤ 106 := by
    have h : blen (a * b) ≤ 53 + 53 := by
      rw [blen_le_iff, Nat.pow_add]
      exact Nat.mul_lt_mul'' (by rw [show (2 : Nat) ^ 53 = 9007199254740992 from by decide]; exact a4) (by rw [show (2 : Nat) ^ 53 = 9007199254740992 from by decide]; exact b4)
    omega
  have hom : ofW d (n ^^ n') (a * b) (ea + eb) = Z := by
    rw [hZ]
    refine of_mul d (n ^^ n') (a * b) (ea + eb) _ (by omega) (by omega) (by omega) ?_
    rw [← a1, ← b1, show (ea + eb + 2148).toNat = (ea + 1074).toNat + (eb + 1074).toNat from by omega, Nat.pow_add]
    simp only [Nat.mul_assoc, Nat.mul_left_comm]
  have hr : ∀ (v : Value) (w1 : World), Kp w w1 → Ls w1 v (dig (a * b)) → Calls Tryz.prog 20 #[.agg #[.bool (n ^^ n'), v, .int .i64 (ea + eb)], .int .i64 d] w1 fun e w' => e = .returned (.float .f64 Z) ∧ Kp w1 w' := fun v w1 k1 l1 => by
    rw [← hom]; exact rounded_ d (n ^^ n') (a * b) (ea + eb) v w1 l1 (hT.grown k1) (Fq.Tab.grown hQ k1) hd1 hd2 (dlen (a * b) 16384 (by omega))
  have hp := fun va vb w1 la lb => times_ n n' a b ea eb va vb w1 la lb a4 b4 a2 a3 b2 b3
  rw [← hX] at h1 g1 ta o1
  rw [← hY] at h2 g2 tb o2
  rw [← hX, ← hY, ← hZ]
  have ta1 := ta w hQ
  have tb1 := fun w1 (k : Kp w w1) => tb w1 (Fq.Tab.grown hQ k)
  obtain ⟨ee, hee⟩ : ∃ ee, ee = ea + eb := ⟨_, rfl⟩
  obtain ⟨ns, hns⟩ : ∃ ns, ns = (n ^^ n') := ⟨_, rfl⟩
  rw [← hee, ← hns] at hr
  simp only [← hee, ← hns] at hp
  have HT : Hid (2580562586483294208 ≤ m ∧ m ≤ 6633802251116740608 → ¬ (2580562586483294208 ≤ m' ∧ m' ≤ 6633802251116740608)) := fun h h' => ct ⟨h, h'⟩
  clear hX hY hZ hom hab a1 a2 a3 a4 b1 b2 b3 b4 ta tb hT hQ hd1 hd2 ct hm hm' z z' hee hns
  go_enter Tryz.func34, Tryz.ntmps34
  go_wp2
  refine wp_scope_jumps 0 (fun a' w' => w' = w ∧ ∃ u3 u4 u5 u6 u7 u8 u9 u10 u11 u12 u13 u14 u15 u16 u17 u18 u19 u20 u21 u22 u23 u24 u25 u26 u27 u28 u29 u30 u31 u32 u33 u34 u35 u36 u37 u38 u39 u40 u41 u42 u43 u44 u45 u46 u47 u48 u49 u50 u51 u52 u53 : Value, a' = ⟨#[.int .i64 d, .float .f64 X, .float .f64 Y, u3, u4, u5, u6, u7, u8, u9, u10, u11, u12, u13, u14, u15, u16, u17, u18, u19, u20, u21, u22, u23, u24, u25, u26, u27, u28, u29, u30, u31, u32, u33, u34, u35, u36, u37, u38, u39, u40, u41, u42, u43, u44, u45, u46, u47, u48, u49, u50, u51, u52, u53], []⟩) (fun _ _ => 0) rfl ?_ ?_
  · clear g1 g2 ta1 tb1 hp hr o1 o2
    by_cases c1 : 2580562586483294208 ≤ m ∧ m ≤ 6633802251116740608
    · rw [decide_eq_true c1] at h1
      rw [decide_eq_false (HT.out c1)] at h2
      clear c1 HT
      go_wp2_with fail
      refine h1.mono ?_; rintro e w' ⟨rfl, hw'⟩; obtain rfl := hw'.symm; clear hw' h1
      go_wp2_with fail
      refine h2.mono ?_; rintro e w' ⟨rfl, hw'⟩; obtain rfl := hw'.symm; clear hw' h2
      go_wp2_with fail
      go_step3
      exact ⟨rfl, rfl, _, _, _, _, _, _, _, _, _, _, _, _, _, _, _, _, _, _, _, _, _, _, _, _, _, _, _, _, _, _, _, _, _, _, _, _, _, _, _, _, _, _, _, _, _, _, _, _, _, _, _, rfl⟩
    · rw [decide_eq_false c1] at h1
      clear c1 HT h2
      go_wp2_with fail
      refine h1.mono ?_; rintro e w' ⟨rfl, hw'⟩; obtain rfl := hw'.symm; clear hw' h1
      go_wp2_with fail
      go_step3
      exact ⟨rfl, rfl, _, _, _, _, _, _, _, _, _, _, _, _, _, _, _, _, _, _, _, _, _, _, _, _, _, _, _, _, _, _, _, _, _, _, _, _, _, _, _, _, _, _, _, _, _, _, _, _, _, _, _, rfl⟩
  · rintro a' w' ⟨rfl, u3, u4, u5, u6, u7, u8, u9, u10, u11, u12, u13, u14, u15, u16, u17, u18, u19, u20, u21, u22, u23, u24, u25, u26, u27, u28, u29, u30, u31, u32, u33, u34, u35, u36, u37, u38, u39, u40, u41, u42, u43, u44, u45, u46, u47, u48, u49, u50, u51, u52, u53, rfl⟩
    clear h1 h2 HT
    go_wp2_with fail
    refine g1.mono ?_; rintro e w9 ⟨rfl, hw'⟩; obtain rfl := hw'.symm; clear hw' g1
    go_wp2_with fail
    refine g2.mono ?_; rintro e w9 ⟨rfl, hw'⟩; obtain rfl := hw'.symm; clear hw' g2
    go_wp2_with fail
    refine ta1.mono ?_; rintro e w1 ⟨va, rfl, lva, k1⟩
    have tb2 := tb1 w1 k1
    clear ta1 tb1
    go_wp2_with fail
    refine tb2.mono ?_; rintro e w2 ⟨vb, rfl, lvb, k2⟩
    have hp2 := hp va vb w2 (lva.kp k2) lvb
    have k02 := k1.trans k2
    clear tb2 hp lva lvb k1 k2
    go_wp2_with fail
    refine hp2.mono ?_; rintro e w3 ⟨v, rfl, lv, k3⟩
    have k03 := k02.trans k3
    have hr2 := hr v w3 k03 lv
    clear hp2 hr k02 k3 lv
    go_wp2_with fail
    refine hr2.mono ?_; rintro e w4 ⟨rfl, k4⟩
    have k04 := k03.trans k4
    clear hr2 k03 k4
    go_wp2
    try simp only [Exit.jump]
    exact bodyPost_ret (v := .float .f64 Z) (by simp [results, Tryz.results34, go_sem]) rfl ⟨rfl, k04⟩
set_option maxRecDepth 20000 in
set_option maxHeartbeats 1000000 in
theorem pmulP_ (d : Int) (n n' : Bool) (m m' : Nat) (hm : m < 9223372036854775808) (hm' : m' < 9223372036854775808) (hi : ¬ (m < 9218868437227405312 ∧ m' < 9218868437227405312 ∧ m ≠ 0 ∧ m' ≠ 0)) (w w9 : World) (RR R2 : Nat) (hrun : (binOp .mul 25 (.float .f64 (Fq.wD n m)) (.float .f64 (Fq.wD n' m'))).run Tryz.prog w = .ok (.float .f64 RR) w9) (hk : Kp w w9) (hpl : Calls Tryz.prog 33 #[.float .f64 RR] w9 fun e w' => e = .returned (.float .f64 R2) ∧ w' = w9) :
    Calls Tryz.prog 34 #[.int .i64 d, .float .f64 (Fq.wD n m), .float .f64 (Fq.wD n' m')] w fun e w' => e = .returned (.float .f64 R2) ∧ Kp w w' := by
  have h1 := mild_ n m hm w
  have h2 := mild_ n' m' hm' w
  have g1 := finite_ n m hm w
  have g2 := finite_ n' m' hm' w
  have o1 := Fq.eqzD n m hm
  have o2 := Fq.eqzD n' m' hm'
  obtain ⟨X, hX⟩ : ∃ X, X = Fq.wD n m := ⟨_, rfl⟩
  obtain ⟨Y, hY⟩ : ∃ Y, Y = Fq.wD n' m' := ⟨_, rfl⟩
  rw [← hX] at h1 g1 o1
  rw [← hY] at h2 g2 o2
  rw [← hX, ← hY] at hrun
  rw [← hX, ← hY]
  have HT : Hid (2580562586483294208 ≤ m ∧ m ≤ 6633802251116740608 → ¬ (2580562586483294208 ≤ m' ∧ m' ≤ 6633802251116740608)) := fun h h' => hi ⟨by omega, by omega, by omega, by omega⟩
  have HI : Hid (¬ (m < 9218868437227405312 ∧ m' < 9218868437227405312 ∧ m ≠ 0 ∧ m' ≠ 0)) := hi
  clear hX hY hi hm hm'
  go_enter Tryz.func34, Tryz.ntmps34
  go_wp2
  refine wp_scope_jumps 0 (fun a' w' => w' = w ∧ ∃ u3 u4 u5 u6 u7 u8 u9 u10 u11 u12 u13 u14 u15 u16 u17 u18 u19 u20 u21 u22 u23 u24 u25 u26 u27 u28 u29 u30 u31 u32 u33 u34 u35 u36 u37 u38 u39 u40 u41 u42 u43 u44 u45 u46 u47 u48 u49 u50 u51 u52 u53 : Value, a' = ⟨#[.int .i64 d, .float .f64 X, .float .f64 Y, u3, u4, u5, u6, u7, u8, u9, u10, u11, u12, u13, u14, u15, u16, u17, u18, u19, u20, u21, u22, u23, u24, u25, u26, u27, u28, u29, u30, u31, u32, u33, u34, u35, u36, u37, u38, u39, u40, u41, u42, u43, u44, u45, u46, u47, u48, u49, u50, u51, u52, u53], []⟩) (fun _ _ => 0) rfl ?_ ?_
  · clear g1 g2 o1 o2 hrun hpl HI
    by_cases c1 : 2580562586483294208 ≤ m ∧ m ≤ 6633802251116740608
    · rw [decide_eq_true c1] at h1
      rw [decide_eq_false (HT.out c1)] at h2
      clear c1 HT
      go_wp2_with fail
      refine h1.mono ?_; rintro e w' ⟨rfl, hw'⟩; obtain rfl := hw'.symm; clear hw' h1
      go_wp2_with fail
      refine h2.mono ?_; rintro e w' ⟨rfl, hw'⟩; obtain rfl := hw'.symm; clear hw' h2
      go_wp2_with fail
      go_step3
      exact ⟨rfl, rfl, _, _, _, _, _, _, _, _, _, _, _, _, _, _, _, _, _, _, _, _, _, _, _, _, _, _, _, _, _, _, _, _, _, _, _, _, _, _, _, _, _, _, _, _, _, _, _, _, _, _, _, rfl⟩
    · rw [decide_eq_false c1] at h1
      clear c1 HT h2
      go_wp2_with fail
      refine h1.mono ?_; rintro e w' ⟨rfl, hw'⟩; obtain rfl := hw'.symm; clear hw' h1
      go_wp2_with fail
      go_step3
      exact ⟨rfl, rfl, _, _, _, _, _, _, _, _, _, _, _, _, _, _, _, _, _, _, _, _, _, _, _, _, _, _, _, _, _, _, _, _, _, _, _, _, _, _, _, _, _, _, _, _, _, _, _, _, _, _, _, rfl⟩
  · rintro a' w' ⟨rfl, u3, u4, u5, u6, u7, u8, u9, u10, u11, u12, u13, u14, u15, u16, u17, u18, u19, u20, u21, u22, u23, u24, u25, u26, u27, u28, u29, u30, u31, u32, u33, u34, u35, u36, u37, u38, u39, u40, u41, u42, u43, u44, u45, u46, u47, u48, u49, u50, u51, u52, u53, rfl⟩
    clear h1 h2 HT
    by_cases c1 : m < 9218868437227405312
    · rw [decide_eq_true c1] at g1
      by_cases c2 : m' < 9218868437227405312
      · rw [decide_eq_true c2] at g2
        by_cases c3 : m = 0
        · rw [show (m == 0) = true from by simp [c3]] at o1
          clear c1 c2 c3 HI o2
          go_wp2_with fail
          refine g1.mono ?_; rintro e w8 ⟨rfl, hw'⟩; obtain rfl := hw'.symm; clear hw' g1
          go_wp2_with fail
          refine g2.mono ?_; rintro e w8 ⟨rfl, hw'⟩; obtain rfl := hw'.symm; clear hw' g2
          go_wp2_with fail
          refine hpl.mono ?_; rintro e w8 ⟨rfl, hw'⟩; obtain rfl := hw'.symm; clear hw' hpl
          go_wp2
          try simp only [Exit.jump]
          exact bodyPost_ret (v := .float .f64 R2) (by simp [results, Tryz.results34, go_sem]) rfl ⟨rfl, hk⟩
        · have c4 : m' = 0 := by have := HI.out; omega
          rw [show (m == 0) = false from by simp [c3]] at o1
          rw [show (m' == 0) = true from by simp [c4]] at o2
          clear c1 c2 c3 c4 HI
          go_wp2_with fail
          refine g1.mono ?_; rintro e w8 ⟨rfl, hw'⟩; obtain rfl := hw'.symm; clear hw' g1
          go_wp2_with fail
          refine g2.mono ?_; rintro e w8 ⟨rfl, hw'⟩; obtain rfl := hw'.symm; clear hw' g2
          go_wp2_with fail
          refine hpl.mono ?_; rintro e w8 ⟨rfl, hw'⟩; obtain rfl := hw'.symm; clear hw' hpl
          go_wp2
          try simp only [Exit.jump]
          exact bodyPost_ret (v := .float .f64 R2) (by simp [results, Tryz.results34, go_sem]) rfl ⟨rfl, hk⟩
      · rw [decide_eq_false c2] at g2
        clear c1 c2 HI o1 o2
        go_wp2_with fail
        refine g1.mono ?_; rintro e w8 ⟨rfl, hw'⟩; obtain rfl := hw'.symm; clear hw' g1
        go_wp2_with fail
        refine g2.mono ?_; rintro e w8 ⟨rfl, hw'⟩; obtain rfl := hw'.symm; clear hw' g2
        go_wp2_with fail
        refine hpl.mono ?_; rintro e w8 ⟨rfl, hw'⟩; obtain rfl := hw'.symm; clear hw' hpl
        go_wp2
        try simp only [Exit.jump]
        exact bodyPost_ret (v := .float .f64 R2) (by simp [results, Tryz.results34, go_sem]) rfl ⟨rfl, hk⟩
    · rw [decide_eq_false c1] at g1
      clear c1 HI o1 o2 g2
      go_wp2_with fail
      refine g1.mono ?_; rintro e w8 ⟨rfl, hw'⟩; obtain rfl := hw'.symm; clear hw' g1
      go_wp2_with fail
      refine hpl.mono ?_; rintro e w8 ⟨rfl, hw'⟩; obtain rfl := hw'.symm; clear hw' hpl
      go_wp2
      try simp only [Exit.jump]
      exact bodyPost_ret (v := .float .f64 R2) (by simp [results, Tryz.results34, go_sem]) rfl ⟨rfl, hk⟩
set_option maxRecDepth 20000 in
set_option maxHeartbeats 1000000 in
theorem rmul9_ (sa sb : Bool) (a1 a2 b1 b2 : Nat) (P1 P2 Q1 Q2 : Option Addr) (C1 C2 D1 D2 : Nat) (w : World) (h1 : Arr w P1 (dig a1)) (l1 : (dig a1).length ≤ C1) (h2 : Arr w P2 (dig a2)) (l2 : (dig a2).length ≤ C2) (h3 : Arr w Q1 (dig b1)) (l3 : (dig b1).length ≤ D1) (h4 : Arr w Q2 (dig b2)) (l4 : (dig b2).length ≤ D2) (k1 : len32 a1 ≤ 4000) (k2 : len32 a2 ≤ 4000) (k3 : len32 b1 ≤ 4000) (k4 : len32 b2 ≤ 4000) (z2 : a2 ≠ 0) (z4 : b2 ≠ 0) (X D : Nat) (hX : X = a1 * b1) (hD : D = a2 * b2) (lX : len32 X ≤ 16000) (lD : len32 D ≤ 16000) :
    Calls Tryz.prog 28 #[.agg #[.bool sa, .slice P1 (dig a1).length C1, .slice P2 (dig a2).length C2], .agg #[.bool sb, .slice Q1 (dig b1).length D1, .slice Q2 (dig b2).length D2]] w fun e w' => ∃ (vn vd : Value) (a' b' : Nat) (ng : Bool), e = .returned (.agg #[.bool ng, vn, vd]) ∧ Ls w' vn (dig a') ∧ Ls w' vd (dig b') ∧ (FracOf X D 0 a' b' ∧ (X ≠ 0 → ng = (sa ^^ sb))) ∧ Kp w w' := by
  have hz : D ≠ 0 := by rw [hD]; exact Nat.mul_ne_zero z2 z4
  obtain ⟨E1, g1⟩ : ∃ E, E = (dig a1).length := ⟨_, rfl⟩
  obtain ⟨E2, g2⟩ : ∃ E, E = (dig a2).length := ⟨_, rfl⟩
  obtain ⟨E3, g3⟩ : ∃ E, E = (dig b1).length := ⟨_, rfl⟩
  obtain ⟨E4, g4⟩ : ∃ E, E = (dig b2).length := ⟨_, rfl⟩
  rw [← g1, ← g2, ← g3, ← g4]
  obtain ⟨B, hB⟩ : ∃ B, B = w.heap.size := ⟨_, rfl⟩
  obtain ⟨wA, hwA⟩ : ∃ wA, wA = w.alloc (.cells #[.bool sa, .slice P1 E1 C1, .slice P2 E2 C2] 47) := ⟨_, rfl⟩
  obtain ⟨wB, hwB⟩ : ∃ wB, wB = wA.alloc (.cells #[.bool sb, .slice Q1 E3 D1, .slice Q2 E4 D2] 47) := ⟨_, rfl⟩
  obtain ⟨w0, hw0⟩ : ∃ w0, w0 = wB.alloc (.cells #[.bool false, .slice none 0 0, .slice none 0 0] 47) := ⟨_, rfl⟩
  have sA : wA.heap.size = B + 1 := by rw [hwA, hB]; simp
  have sB : wB.heap.size = B + 2 := by rw [hwB]; simp [sA]
  have kAB : Kp wA wB := by rw [hwB]; exact (Kp.refl wA).alloc _
  have x0 : wB.cell? ⟨B, 0, none⟩ = some (.bool sa) := kkeep kAB (by rw [hwA, hB]; simp [go_sem])
  have x1 : wB.cell? ⟨B, 1, none⟩ = some (.slice P1 E1 C1) := kkeep kAB (by rw [hwA, hB]; simp [go_sem])
  have x2 : wB.cell? ⟨B, 2, none⟩ = some (.slice P2 E2 C2) := kkeep kAB (by rw [hwA, hB]; simp [go_sem])
  have y0 : wB.cell? ⟨B + 1, 0, none⟩ = some (.bool sb) := by rw [hwB, ← sA]; simp [go_sem]
  have y1 : wB.cell? ⟨B + 1, 1, none⟩ = some (.slice Q1 E3 D1) := by rw [hwB, ← sA]; simp [go_sem]
  have y2 : wB.cell? ⟨B + 1, 2, none⟩ = some (.slice Q2 E4 D2) := by rw [hwB, ← sA]; simp [go_sem]
  have r0 : w0.cell? ⟨B + 2, 0, none⟩ = some (.bool false) := by rw [hw0, ← sB]; simp [go_sem]
  have r1 : w0.cell? ⟨B + 2, 1, none⟩ = some (.slice none 0 0) := by rw [hw0, ← sB]; simp [go_sem]
  have r2 : w0.cell? ⟨B + 2, 2, none⟩ = some (.slice none 0 0) := by rw [hw0, ← sB]; simp [go_sem]
  have f0 : w0.frozen? ⟨B + 2, 0, none⟩ = false := by rw [hw0, ← sB]; simp [go_sem]
  have f1 : w0.frozen? ⟨B + 2, 1, none⟩ = false := by rw [hw0, ← sB]; simp [go_sem]
  have f2 : w0.frozen? ⟨B + 2, 2, none⟩ = false := by rw [hw0, ← sB]; simp [go_sem]
  have kw : Kp w w0 := by rw [hw0, hwB, hwA]; exact (((Kp.refl w).alloc _).alloc _).alloc _
  have kS : Kp wB w0 := by rw [hw0]; exact (Kp.refl wB).alloc _
  have kD : Kp wB w0.drew := kS.drew
  have hge : wB.heap.size ≤ (⟨B + 2, 0, none⟩ : Addr).block := by simp only; omega
  have hlt := cell_lt r0
  have HP1 : Hid (∀ W : World, Kp w0 W → Calls Tryz.prog 58 #[.slice P1 E1 C1, .slice Q1 E3 D1] W fun e w' => ∃ p c, e = .returned (.slice p (dig X).length c) ∧ Arr w' p (dig X) ∧ (dig X).length ≤ c ∧ Kp W w') := by
    show ∀ W : World, Kp w0 W → Calls Tryz.prog 58 #[.slice P1 E1 C1, .slice Q1 E3 D1] W fun e w' => ∃ p c, e = .returned (.slice p (dig X).length c) ∧ Arr w' p (dig X) ∧ (dig X).length ≤ c ∧ Kp W w'
    intro W k
    rw [hX]; exact timesR _ _ a1 b1 W ⟨P1, C1, by rw [g1], h1.grown (kw.trans k), l1⟩ ⟨Q1, D1, by rw [g3], h3.grown (kw.trans k), l3⟩ (by omega) (by omega)
  have HP2 : Hid (∀ W : World, Kp w0 W → Calls Tryz.prog 58 #[.slice P2 E2 C2, .slice Q2 E4 D2] W fun e w' => ∃ p c, e = .returned (.slice p (dig D).length c) ∧ Arr w' p (dig D) ∧ (dig D).length ≤ c ∧ Kp W w') := by
    show ∀ W : World, Kp w0 W → Calls Tryz.prog 58 #[.slice P2 E2 C2, .slice Q2 E4 D2] W fun e w' => ∃ p c, e = .returned (.slice p (dig D).length c) ∧ Arr w' p (dig D) ∧ (dig D).length ≤ c ∧ Kp W w'
    intro W k
    rw [hD]; exact timesR _ _ a2 b2 W ⟨P2, C2, by rw [g2], h2.grown (kw.trans k), l2⟩ ⟨Q2, D2, by rw [g4], h4.grown (kw.trans k), l4⟩ (by omega) (by omega)
  obtain ⟨NX, hNX⟩ : ∃ N, N = (dig X).length := ⟨_, rfl⟩
  obtain ⟨ND, hND⟩ : ∃ N, N = (dig D).length := ⟨_, rfl⟩
  obtain ⟨st, hst⟩ : ∃ st, st = (sa ^^ sb) := ⟨_, rfl⟩
  have hst2 : (sa != sb) = st := by rw [hst]
  have hst3 : (!decide (sa = sb)) = st := by rw [hst]; cases sa <;> cases sb <;> rfl
  have hst4 : (!(sa == sb)) = st := by rw [hst]; cases sa <;> cases sb <;> rfl
  have HFR : Hid (∀ (p : Option Addr) (c : Nat) (q : Option Addr) (d : Nat) (W : World), Kp w0 W → Arr W p (dig X) → (dig X).length ≤ c → Arr W q (dig D) → (dig D).length ≤ d → Calls Tryz.prog 59 #[.bool st, .slice p (dig X).length c, .slice q (dig D).length d, .int .i64 0] W fun e w' => ∃ (vn vd : Value) (a' b' : Nat) (ng : Bool), e = .returned (.agg #[.bool ng, vn, vd]) ∧ Own w' W.heap.size vn (dig a') ∧ Own w' W.heap.size vd (dig b') ∧ (FracOf X D 0 a' b' ∧ (X ≠ 0 → ng = st)) ∧ Kp W w') := by
    show ∀ (p : Option Addr) (c : Nat) (q : Option Addr) (d : Nat) (W : World), Kp w0 W → Arr W p (dig X) → (dig X).length ≤ c → Arr W q (dig D) → (dig D).length ≤ d → Calls Tryz.prog 59 #[.bool st, .slice p (dig X).length c, .slice q (dig D).length d, .int .i64 0] W fun e w' => ∃ (vn vd : Value) (a' b' : Nat) (ng : Bool), e = .returned (.agg #[.bool ng, vn, vd]) ∧ Own w' W.heap.size vn (dig a') ∧ Own w' W.heap.size vd (dig b') ∧ (FracOf X D 0 a' b' ∧ (X ≠ 0 → ng = st)) ∧ Kp W w'
    intro p c q d W kk ar ll ar' ll'
    have g := frac_ st (.slice p (dig X).length c) (.slice q (dig D).length d) (dig X) (dig D) 0 W ⟨p, c, rfl, ar, ll⟩ ⟨q, d, rfl, ar', ll'⟩ (Wd_dig _) (Wd_dig _) (by change len32 _ ≤ _; omega) (by change len32 _ ≤ _; omega) (by rw [val_dig]; exact hz) (by decide)
    rw [val_dig, val_dig] at g
    exact g
  rw [← hNX, ← hND] at HFR
  rw [← hNX] at HP1
  rw [← hND] at HP2
  rw [← hst]
  have HW : Hid (w0 = wB.alloc (.cells #[.bool false, .slice none 0 0, .slice none 0 0] 47) ∧ wB = wA.alloc (.cells #[.bool sb, .slice Q1 E3 D1, .slice Q2 E4 D2] 47) ∧ wA = w.alloc (.cells #[.bool sa, .slice P1 E1 C1, .slice P2 E2 C2] 47) ∧ B = w.heap.size ∧ Kp w w0) := ⟨hw0, hwB, hwA, hB, kw⟩
  clear hNX hND hst hw0 hwB hwA hB sA sB kw kAB h1 l1 h2 l2 h3 l3 h4 l4 k1 k2 k3 k4 z2 z4 hX hD hz lX lD g1 g2 g3 g4
  go_enter Tryz.func28, Tryz.ntmps28
  go_upto_region 1 with fail
  rw [← HW.out.2.2.2.1]
  try rw [← HW.out.2.2.1]
  try rw [← HW.out.2.1]
  try rw [← HW.out.1]
  go_region_held3 (fun w' => w'.cell? ⟨B, 0, none⟩ = some (.bool sa) ∧ w'.cell? ⟨B, 1, none⟩ = some (.slice P1 E1 C1) ∧ w'.cell? ⟨B, 2, none⟩ = some (.slice P2 E2 C2) ∧ w'.cell? ⟨B + 1, 0, none⟩ = some (.bool sb) ∧ w'.cell? ⟨B + 1, 1, none⟩ = some (.slice Q1 E3 D1) ∧ w'.cell? ⟨B + 1, 2, none⟩ = some (.slice Q2 E4 D2)) (refine ⟨kkeep (W := wB) ?_ x0, kkeep (W := wB) ?_ x1, kkeep (W := wB) ?_ x2, kkeep (W := wB) ?_ y0, kkeep (W := wB) ?_ y1, kkeep (W := wB) ?_ y2⟩ <;> ((repeat (first | with_reducible exact kC | with_reducible exact kB | with_reducible exact kA | with_reducible exact kS | with_reducible exact kD | with_reducible exact Kp.refl _ | with_reducible refine Kp.drew ?_ | refine Kp.setCell ?_ hge _)); done)) (first | (go_at_call 59; have hh := ar2; refine (HFR.out pp cc pq cq _ ?q1 ?q2 ll1 ?q3 ll2).mono ?_; (case q1 => ((repeat (first | with_reducible exact kk2 | with_reducible exact kk1 | with_reducible exact Kp.refl _ | with_reducible refine Kp.drew ?_)); done)); (case q2 => exact ar1.grown k12); (case q3 => exact ar2); rintro e v3 ⟨vn, vd, a', b', ng, rfl, o1, o2, ff, k23⟩; have kk3 : Kp w0 v3 := Kp.trans ?q4 k23; (case q4 => ((repeat (first | with_reducible exact kk2 | with_reducible exact kk1 | with_reducible exact Kp.refl _ | with_reducible refine Kp.drew ?_)); done)); have kC : Kp wB v3 := kS.trans kk3; obtain ⟨pn, cn, rfl, an, ln⟩ := o1.arr; obtain ⟨pd, cd, rfl, ad, ld⟩ := o2.arr; have R0 := kkeep kk3 r0; have R1 := kkeep kk3 r1; have R2 := kkeep kk3 r2; have F0 := (kfro kk3 hlt).trans f0; have F1 := (kfro kk3 hlt).trans f1; have F2 := (kfro kk3 hlt).trans f2) | (go_at_call 58; have hh := ar1; refine (HP2.out _ ?q5).mono ?_; (case q5 => ((repeat (first | with_reducible exact kk2 | with_reducible exact kk1 | with_reducible exact Kp.refl _ | with_reducible refine Kp.drew ?_)); done)); rintro e v2 ⟨pq, cq, rfl, ar2, ll2, k12⟩; have kk2 : Kp w0 v2 := Kp.trans ?q7 k12; (case q7 => ((repeat (first | with_reducible exact kk2 | with_reducible exact kk1 | with_reducible exact Kp.refl _ | with_reducible refine Kp.drew ?_)); done)); have kB : Kp wB v2 := kS.trans kk2) | (go_at_call 58; refine (HP1.out _ ?q8).mono ?_; (case q8 => ((repeat (first | with_reducible exact kk2 | with_reducible exact kk1 | with_reducible exact Kp.refl _ | with_reducible refine Kp.drew ?_)); done)); rintro e v1 ⟨pp, cc, rfl, ar1, ll1, k01⟩; have kk1 : Kp w0 v1 := Kp.trans ?q10 k01; (case q10 => ((repeat (first | with_reducible exact kk2 | with_reducible exact kk1 | with_reducible exact Kp.refl _ | with_reducible refine Kp.drew ?_)); done)); have kA : Kp wB v1 := kS.trans kk1))
  have hs1 := Below.size kk2
  obtain ⟨wz, hwz⟩ : ∃ wz, wz = ((v3.setCell ⟨B + 2, 0, none⟩ (.bool ng)).setCell ⟨B + 2, 1, none⟩ (.slice pn (dig a').length cn)).setCell ⟨B + 2, 2, none⟩ (.slice pd (dig b').length cd) := ⟨_, rfl⟩
  have kb : Kb (B + 2) v3 wz := by rw [hwz]; exact (((Kb.refl (B + 2) v3).setCell 0 _).setCell 1 _).setCell 2 _
  have O1 := o1.kb kb (fun g hg => by have := o1.lt g hg; omega)
  have O2 := o2.kb kb (fun g hg => by have := o2.lt g hg; omega)
  have hkw : Kp w wz := kb.kp (HW.out.2.2.2.2.trans kk3) (by rw [HW.out.2.2.2.1]; omega)
  have HO : Hid (Ls wz (.slice pn (dig a').length cn) (dig a') ∧ Ls wz (.slice pd (dig b').length cd) (dig b') ∧ (FracOf X D 0 a' b' ∧ (X ≠ 0 → ng = st)) ∧ Kp w wz ∧ wz = ((v3.setCell ⟨B + 2, 0, none⟩ (.bool ng)).setCell ⟨B + 2, 1, none⟩ (.slice pn (dig a').length cn)).setCell ⟨B + 2, 2, none⟩ (.slice pd (dig b').length cd)) := ⟨O1.ls, O2.ls, ff, hkw, hwz⟩
  clear hs1 hwz kb O1 O2 hkw o1 o2 ff k23 kk3 kC an ln ad ld kk2 k12 kB ar2 ll2 kk1 k01 kA ar1 ll1 HP1 HP2 HFR kS kD hge
  go_wp2
  obtain ⟨q1, q2, q3, q4, q5⟩ := HO.out
  rw [q5] at q1 q2 q4
  exact bodyPost_ret (v := .agg #[.bool ng, .slice pn (dig a').length cn, .slice pd (dig b').length cd]) (by simp [results, Tryz.results28, go_sem, R0, R1, R2]) rfl ⟨_, _, a', b', ng, rfl, q1, q2, q3, q4⟩
set_option maxRecDepth 20000 in
set_option maxHeartbeats 400000 in
theorem zero3_ (n : Bool) (m : Nat) (hm : m < 9223372036854775808) (w : World) : Calls Tryz.prog 39 #[.int .u64 ((Fq.wD n m : Nat) : Int)] w fun e w' => e = .returned (.bool (decide (m = 0))) ∧ w' = w := by
  obtain ⟨X, hX⟩ : ∃ X, X = Fq.wD n m := ⟨_, rfl⟩
  have f1 := (noTop n m X hm hX).1
  rw [← hX]
  clear hX hm
  by_cases c : m = 0
  · have t1 : ((m : Int) == 0) = true := by rw [c]; rfl
    rw [decide_eq_true c]
    clear c
    go_enter Tryz.func39, Tryz.ntmps39
    go_wp2
    exact bodyPost_ret (v := .bool true) (by simp [results, Tryz.results39, go_sem]) rfl ⟨rfl, rfl⟩
  · have t1 : ((m : Int) == 0) = false := by simp; omega
    rw [decide_eq_false c]
    clear c
    go_enter Tryz.func39, Tryz.ntmps39
    go_wp2
    exact bodyPost_ret (v := .bool false) (by simp [results, Tryz.results39, go_sem]) rfl ⟨rfl, rfl⟩
theorem neg3_ (n : Bool) (m : Nat) (hm : m < 9223372036854775808) (z : m ≠ 0) (w : World) : Calls Tryz.prog 38 #[.int .u64 ((Fq.wD n m : Nat) : Int)] w fun e w' => e = .returned (.bool n) ∧ w' = w := by
  obtain ⟨X, hX⟩ : ∃ X, X = Fq.wD n m := ⟨_, rfl⟩
  have t1 : (9223372036854775808 < (X : Int)) ↔ n = true := by
    rw [hX]; unfold Fq.wD
    cases n <;> simp <;> omega
  rw [← hX]
  clear hX hm z
  cases n
  · have t2 : ¬ (9223372036854775808 < (X : Int)) := fun h => by simp at t1; omega
    clear t1
    go_enter Tryz.func38, Tryz.ntmps38
    go_wp2
    exact bodyPost_ret (v := .bool false) (by simp [results, Tryz.results38, go_sem] <;> omega) rfl ⟨rfl, rfl⟩
  · have t2 : 9223372036854775808 < (X : Int) := t1.2 rfl
    clear t1
    go_enter Tryz.func38, Tryz.ntmps38
    go_wp2
    exact bodyPost_ret (v := .bool true) (by simp [results, Tryz.results38, go_sem] <;> omega) rfl ⟨rfl, rfl⟩
theorem infin3_ (b : Bool) (w : World) : Calls Tryz.prog 37 #[.bool b] w fun e w' => e = .returned (.int .u64 ((Fq.wD b 9218868437227405312 : Nat) : Int)) ∧ w' = w := by
  cases b
  · rw [show ((Fq.wD false 9218868437227405312 : Nat) : Int) = 9218868437227405312 from rfl]
    go_enter Tryz.func37, Tryz.ntmps37
    go_wp2
    exact bodyPost_ret (v := .int .u64 9218868437227405312) (by simp [results, Tryz.results37, go_sem]) rfl ⟨rfl, rfl⟩
  · rw [show ((Fq.wD true 9218868437227405312 : Nat) : Int) = 18442240474082181120 from rfl]
    go_enter Tryz.func37, Tryz.ntmps37
    go_wp2
    exact bodyPost_ret (v := .int .u64 18442240474082181120) (by simp [results, Tryz.results37, go_sem]) rfl ⟨rfl, rfl⟩
theorem sgn_iv (n sa : Bool) (m : Nat) (h : Iv n m = (if sa then -((Fq.vV Ieee.double m : Nat) : Int) else ((Fq.vV Ieee.double m : Nat) : Int))) (hv : Fq.vV Ieee.double m ≠ 0) : sa = n := by
  unfold Iv at h
  cases n <;> cases sa <;> simp at h ⊢ <;> omega
theorem blen_mul9 (u v : Nat) (h1 : blen u ≤ 1500) (h2 : blen v ≤ 1500) : blen (u * v) ≤ 3000 := by
  obtain ⟨T5, hT5⟩ : ∃ T5 : Nat, T5 = 1500 := ⟨_, rfl⟩
  have g : blen (u * v) ≤ T5 + T5 := by
    rw [blen_le_iff, Nat.pow_add]
    exact Nat.mul_lt_mul'' ((blen_le_iff u T5).1 (by omega)) ((blen_le_iff v T5).1 (by omega))
  omega
set_option maxRecDepth 20000 in
set_option maxHeartbeats 400000 in
theorem rmulV_ (d : Int) (n n' : Bool) (m m' : Nat) (K : Nat) (hK : K = 1074) (sa sb : Bool) (a1 a2 b1 b2 : Nat) (P1 P2 Q1 Q2 : Option Addr) (C1 C2 D1 D2 : Nat) (w : World) (h1 : Arr w P1 (dig a1)) (l1 : (dig a1).length ≤ C1) (h2 : Arr w P2 (dig a2)) (l2 : (dig a2).length ≤ C2) (h3 : Arr w Q1 (dig b1)) (l3 : (dig b1).length ≤ D1) (h4 : Arr w Q2 (dig b2)) (l4 : (dig b2).length ≤ D2) (ha : (a2 ≠ 0 ∧ a1 * 2 ^ K = Fq.vV Ieee.double m * a2 ∧ Iv n m = (if sa then -((Fq.vV Ieee.double m : Nat) : Int) else ((Fq.vV Ieee.double m : Nat) : Int)) ∧ blen a1 ≤ 1500 ∧ blen a2 ≤ 1500)) (hb : (b2 ≠ 0 ∧ b1 * 2 ^ K = Fq.vV Ieee.double m' * b2 ∧ Iv n' m' = (if sb then -((Fq.vV Ieee.double m' : Nat) : Int) else ((Fq.vV Ieee.double m' : Nat) : Int)) ∧ blen b1 ≤ 1500 ∧ blen b2 ≤ 1500)) :
    Calls Tryz.prog 28 #[.agg #[.bool sa, .slice P1 (dig a1).length C1, .slice P2 (dig a2).length C2], .agg #[.bool sb, .slice Q1 (dig b1).length D1, .slice Q2 (dig b2).length D2]] w fun e w' => ∃ (vn vd : Value) (a' b' : Nat) (ng : Bool), e = .returned (.agg #[.bool ng, vn, vd]) ∧ Ls w' vn (dig a') ∧ Ls w' vd (dig b') ∧ (refW 53 1074 2098 9218868437227405311 0 d ng a' b' = mulW d (n ^^ n') (Fq.vV Ieee.double m * Fq.vV Ieee.double m') ∧ b' ≠ 0 ∧ blen a' ≤ 4194304 ∧ blen b' ≤ 4194304) ∧ Kp w w' := by
  obtain ⟨za, ea, ia, ba1, ba2⟩ := ha
  obtain ⟨zb, eb, ib, bb1, bb2⟩ := hb
  obtain ⟨X, hX⟩ : ∃ X, X = a1 * b1 := ⟨_, rfl⟩
  obtain ⟨D, hD⟩ : ∃ D, D = a2 * b2 := ⟨_, rfl⟩
  have hzD : D ≠ 0 := by rw [hD]; exact Nat.mul_ne_zero za zb
  have bX : blen X ≤ 3000 := by rw [hX]; exact blen_mul9 _ _ ba1 bb1
  have bD : blen D ≤ 3000 := by rw [hD]; exact blen_mul9 _ _ ba2 bb2
  have eX : X * 2 ^ (K + K) = Fq.vV Ieee.double m * Fq.vV Ieee.double m' * D := by
    have h : X * 2 ^ (K + K) = a1 * 2 ^ K * (b1 * 2 ^ K) := by rw [hX, Nat.pow_add]; simp only [Nat.mul_assoc, Nat.mul_left_comm]
    rw [h, ea, eb, hD]; simp only [Nat.mul_assoc, Nat.mul_left_comm]
  have hsg : X ≠ 0 → (sa ^^ sb) = (n ^^ n') := fun hx => by
    have q1 : Fq.vV Ieee.double m ≠ 0 := fun h0 => by
      rw [h0, Nat.zero_mul] at ea
      rcases Nat.mul_eq_zero.1 ea with h | h
      · exact hx (by rw [hX, h, Nat.zero_mul])
      · have := Nat.two_pow_pos K; omega
    have q2 : Fq.vV Ieee.double m' ≠ 0 := fun h0 => by
      rw [h0, Nat.zero_mul] at eb
      rcases Nat.mul_eq_zero.1 eb with h | h
      · exact hx (by rw [hX, h, Nat.mul_zero])
      · have := Nat.two_pow_pos K; omega
    rw [sgn_iv n sa m ia q1, sgn_iv n' sb m' ib q2]
  refine (rmul9_ sa sb a1 a2 b1 b2 P1 P2 Q1 Q2 C1 C2 D1 D2 w h1 l1 h2 l2 h3 l3 h4 l4 (dlen a1 4000 (by omega)) (dlen a2 4000 (by omega)) (dlen b1 4000 (by omega)) (dlen b2 4000 (by omega)) za zb X D hX hD (dlen X 16000 (by omega)) (dlen D 16000 (by omega))).mono ?_
  rintro e w' ⟨vn, vd, a', b', ng, he, q1, q2, ⟨q3, q5⟩, q4⟩
  refine ⟨vn, vd, a', b', ng, he, q1, q2, ⟨ref_mul d ng (n ^^ n') X D a' b' _ K hK hzD q3 (fun hx => (q5 hx).trans (hsg hx)) eX, q3.1, ?_, ?_⟩, q4⟩
  · have g1 := q3.2.2.2.1; simp at g1; omega
  · have g1 := q3.2.2.2.2; simp at g1; omega
set_option maxRecDepth 20000 in
set_option maxHeartbeats 1000000 in
theorem rprodF_ (d : Int) (n n' : Bool) (m m' : Nat) (hm : m < 9218868437227405312) (hm' : m' < 9218868437227405312) (w : World) :
    Calls Tryz.prog 24 #[.int .i64 d, .int .u64 ((Fq.wD n m : Nat) : Int), .int .u64 ((Fq.wD n' m' : Nat) : Int)] w fun e w' => e = .returned (.int .u64 ((mulW d (n ^^ n') (Fq.vV Ieee.double m * Fq.vV Ieee.double m') : Nat) : Int)) ∧ Kp w w' := by
  have i1 := fun w => isnan_ n m (by omega) w
  have i2 := fun w => isnan_ n' m' (by omega) w
  have j1 := fun w => isinf_ n m (by omega) w
  have j2 := fun w => isinf_ n' m' (by omega) w
  rw [decide_eq_false (by omega)] at i1 i2 j1 j2
  obtain ⟨K, hK⟩ : ∃ K : Nat, K = 1074 := ⟨_, rfl⟩
  have b1 := fromV_ n m hm K hK w
  have b2 := fun w1 => fromV_ n' m' hm' K hK w1
  have ra := fun sa sb a1 a2 b1 b2 P1 P2 Q1 Q2 C1 C2 D1 D2 w => rmulV_ d n n' m m' K hK sa sb a1 a2 b1 b2 P1 P2 Q1 Q2 C1 C2 D1 D2 w
  obtain ⟨Z, hZ⟩ : ∃ Z, Z = mulW d (n ^^ n') (Fq.vV Ieee.double m * Fq.vV Ieee.double m') := ⟨_, rfl⟩
  obtain ⟨X, hX⟩ : ∃ X, X = Fq.wD n m := ⟨_, rfl⟩
  obtain ⟨Y, hY⟩ : ∃ Y, Y = Fq.wD n' m' := ⟨_, rfl⟩
  rw [← hX] at i1 j1 b1
  rw [← hY] at i2 j2 b2
  rw [← hZ] at ra
  rw [← hX, ← hY, ← hZ]
  have HR : Hid (∀ sa sb a1 a2 b1 b2 P1 P2 Q1 Q2 C1 C2 D1 D2 w, _) := ra
  clear ra hX hY hZ hK hm hm'
  go_enter Tryz.func24, Tryz.ntmps24
  go_wp2_with fail
  refine (i1 w).mono ?_; rintro e w' ⟨rfl, hw'⟩; obtain rfl := hw'.symm; clear hw'
  go_wp2_with fail
  refine (i2 w).mono ?_; rintro e w' ⟨rfl, hw'⟩; obtain rfl := hw'.symm; clear hw'
  go_wp2_with fail
  refine (j1 w).mono ?_; rintro e w' ⟨rfl, hw'⟩; obtain rfl := hw'.symm; clear hw'
  go_wp2_with fail
  refine (j2 w).mono ?_; rintro e w' ⟨rfl, hw'⟩; obtain rfl := hw'.symm; clear hw'
  clear i1 i2 j1 j2
  go_wp2_with fail
  refine b1.mono ?_; rintro e w1 ⟨p1, p2, c1, c2, a1, a2, sa, rfl, u1, u2, u3, u4, fa, k1⟩
  have b3 := b2 w1
  clear b1 b2
  obtain ⟨E1, g1⟩ : ∃ E, E = (dig a1).length := ⟨_, rfl⟩
  obtain ⟨E2, g2⟩ : ∃ E, E = (dig a2).length := ⟨_, rfl⟩
  rw [← g1, ← g2]
  have G1 : Hid (E1 = (dig a1).length ∧ E2 = (dig a2).length ∧ _) := ⟨g1, g2, fa⟩
  clear g1 g2 fa
  go_wp2_with fail
  refine b3.mono ?_; rintro e w2 ⟨q1, q2, d1, d2, e1, e2, sb, rfl, v1, v2, v3, v4, fb, k2⟩
  have hr := HR.out sa sb a1 a2 e1 e2 p1 p2 q1 q2 c1 c2 d1 d2 w2 (u1.grown k2) u2 (u3.grown k2) u4 v1 v2 v3 v4 G1.out.2.2 fb
  rw [← G1.out.1, ← G1.out.2.1] at hr
  obtain ⟨E3, g3⟩ : ∃ E, E = (dig e1).length := ⟨_, rfl⟩
  obtain ⟨E4, g4⟩ : ∃ E, E = (dig e2).length := ⟨_, rfl⟩
  rw [← g3, ← g4] at hr ⊢
  have k02 := k1.trans k2
  clear b3 u1 u2 u3 u4 v1 v2 v3 v4 fb k1 k2 g3 g4 G1 HR
  go_wp2_with fail
  refine hr.mono ?_; rintro e w3 ⟨vn, vd, a', b', ng, rfl, lv1, lv2, ⟨hw1, hw2, hw3, hw4⟩, k3⟩
  have hb := rbits_ d ng vn vd a' b' w3 lv1 lv2 hw2 hw3 hw4
  rw [hw1] at hb
  have k03 := k02.trans k3
  clear hr lv1 lv2 hw1 hw2 hw3 hw4 k02 k3
  go_wp2_with fail
  refine hb.mono ?_; rintro e w4 ⟨rfl, k4⟩
  have k04 := k03.trans k4
  clear hb k03 k4
  go_wp2
  exact bodyPost_ret (v := .int .u64 (Z : Int)) (by simp [results, Tryz.results24, go_sem]) rfl ⟨rfl, k04⟩
set_option maxRecDepth 20000 in
set_option maxHeartbeats 1000000 in
theorem rprodB_ (d : Int) (n n' : Bool) (m m' : Nat) (hm : m < 9223372036854775808) (hm' : m' < 9223372036854775808) (hb : badP m m') (w : World) :
    Calls Tryz.prog 24 #[.int .i64 d, .int .u64 ((Fq.wD n m : Nat) : Int), .int .u64 ((Fq.wD n' m' : Nat) : Int)] w fun e w' => e = .returned (.int .u64 9221120237041090561) ∧ Kp w w' := by
  have i1 := fun w => isnan_ n m hm w
  have i2 := fun w => isnan_ n' m' hm' w
  have j1 := fun w => isinf_ n m hm w
  have j2 := fun w => isinf_ n' m' hm' w
  have z1 := fun w => zero3_ n m hm w
  have z2 := fun w => zero3_ n' m' hm' w
  obtain ⟨X, hX⟩ : ∃ X, X = Fq.wD n m := ⟨_, rfl⟩
  obtain ⟨Y, hY⟩ : ∃ Y, Y = Fq.wD n' m' := ⟨_, rfl⟩
  rw [← hX] at i1 j1 z1
  rw [← hY] at i2 j2 z2
  rw [← hX, ← hY]
  unfold badP at hb
  by_cases c1 : 9218868437227405312 < m
  · rw [decide_eq_true c1] at i1
    clear hX hY i2 j1 j2 z1 z2 c1 hb hm hm'
    go_enter Tryz.func24, Tryz.ntmps24
    go_wp2_with fail
    refine (i1 w).mono ?_; rintro e w' ⟨rfl, hw'⟩; obtain rfl := hw'.symm; clear hw'
    go_wp2
    exact bodyPost_ret (v := .int .u64 9221120237041090561) (by simp [results, Tryz.results24, go_sem]) rfl ⟨rfl, Kp.refl _⟩
  · rw [decide_eq_false c1] at i1
    by_cases c2 : 9218868437227405312 < m'
    · rw [decide_eq_true c2] at i2
      clear hX hY j1 j2 z1 z2 c1 c2 hb hm hm'
      go_enter Tryz.func24, Tryz.ntmps24
      go_wp2_with fail
      refine (i1 w).mono ?_; rintro e w' ⟨rfl, hw'⟩; obtain rfl := hw'.symm; clear hw'
      go_wp2_with fail
      refine (i2 w).mono ?_; rintro e w' ⟨rfl, hw'⟩; obtain rfl := hw'.symm; clear hw'
      go_wp2
      exact bodyPost_ret (v := .int .u64 9221120237041090561) (by simp [results, Tryz.results24, go_sem]) rfl ⟨rfl, Kp.refl _⟩
    · rw [decide_eq_false c2] at i2
      rcases (hb.resolve_left c1).resolve_left c2 with ⟨e1, e2⟩ | ⟨e1, e2⟩
      · rw [decide_eq_true e1] at j1
        rw [decide_eq_false (by omega)] at z1
        rw [decide_eq_true e2] at z2
        clear hX hY j2 c1 c2 hb hm hm' e1 e2
        go_enter Tryz.func24, Tryz.ntmps24
        go_wp2_with fail
        refine (i1 w).mono ?_; rintro e w' ⟨rfl, hw'⟩; obtain rfl := hw'.symm; clear hw'
        go_wp2_with fail
        refine (i2 w).mono ?_; rintro e w' ⟨rfl, hw'⟩; obtain rfl := hw'.symm; clear hw'
        go_wp2_with fail
        refine (j1 w).mono ?_; rintro e w' ⟨rfl, hw'⟩; obtain rfl := hw'.symm; clear hw'
        go_wp2_with fail
        refine (z1 w).mono ?_; rintro e w' ⟨rfl, hw'⟩; obtain rfl := hw'.symm; clear hw'
        go_wp2_with fail
        refine (z2 w).mono ?_; rintro e w' ⟨rfl, hw'⟩; obtain rfl := hw'.symm; clear hw'
        go_wp2
        exact bodyPost_ret (v := .int .u64 9221120237041090561) (by simp [results, Tryz.results24, go_sem]) rfl ⟨rfl, Kp.refl _⟩
      · rw [decide_eq_false (by omega)] at j1
        rw [decide_eq_true e2] at j2
        rw [decide_eq_true e1] at z1
        clear hX hY z2 c1 c2 hb hm hm' e1 e2
        go_enter Tryz.func24, Tryz.ntmps24
        go_wp2_with fail
        refine (i1 w).mono ?_; rintro e w' ⟨rfl, hw'⟩; obtain rfl := hw'.symm; clear hw'
        go_wp2_with fail
        refine (i2 w).mono ?_; rintro e w' ⟨rfl, hw'⟩; obtain rfl := hw'.symm; clear hw'
        go_wp2_with fail
        refine (j1 w).mono ?_; rintro e w' ⟨rfl, hw'⟩; obtain rfl := hw'.symm; clear hw'
        go_wp2_with fail
        refine (j2 w).mono ?_; rintro e w' ⟨rfl, hw'⟩; obtain rfl := hw'.symm; clear hw'
        go_wp2_with fail
        refine (z1 w).mono ?_; rintro e w' ⟨rfl, hw'⟩; obtain rfl := hw'.symm; clear hw'
        go_wp2
        exact bodyPost_ret (v := .int .u64 9221120237041090561) (by simp [results, Tryz.results24, go_sem]) rfl ⟨rfl, Kp.refl _⟩
set_option maxRecDepth 20000 in
set_option maxHeartbeats 1000000 in
theorem rprodI_ (d : Int) (n n' : Bool) (m m' : Nat) (hm : m < 9223372036854775808) (hm' : m' < 9223372036854775808) (hb : ¬ badP m m') (hi : ¬ (m < 9218868437227405312 ∧ m' < 9218868437227405312)) (w : World) :
    Calls Tryz.prog 24 #[.int .i64 d, .int .u64 ((Fq.wD n m : Nat) : Int), .int .u64 ((Fq.wD n' m' : Nat) : Int)] w fun e w' => e = .returned (.int .u64 ((Fq.wD (n ^^ n') 9218868437227405312 : Nat) : Int)) ∧ Kp w w' := by
  unfold badP at hb
  have hz : m ≠ 0 := by omega
  have hz' : m' ≠ 0 := by omega
  have i1 := fun w => isnan_ n m hm w
  have i2 := fun w => isnan_ n' m' hm' w
  have j1 := fun w => isinf_ n m hm w
  have j2 := fun w => isinf_ n' m' hm' w
  have z1 := fun w => zero3_ n m hm w
  have z2 := fun w => zero3_ n' m' hm' w
  obtain ⟨X, hX⟩ : ∃ X, X = Fq.wD n m := ⟨_, rfl⟩
  obtain ⟨Y, hY⟩ : ∃ Y, Y = Fq.wD n' m' := ⟨_, rfl⟩
  have n1 := fun w => neg3_ n m hm hz w
  have n2 := fun w => neg3_ n' m' hm' hz' w
  have f1 := fun w => infin3_ (n ^^ n') w
  rw [← hX] at i1 j1 z1 n1
  rw [← hY] at i2 j2 z2 n2
  obtain ⟨Z, hZ⟩ : ∃ Z, Z = Fq.wD (n ^^ n') 9218868437227405312 := ⟨_, rfl⟩
  rw [← hZ] at f1
  rw [← hX, ← hY, ← hZ]
  rw [decide_eq_false (by omega)] at i1 i2 z1 z2
  obtain ⟨st, hst⟩ : ∃ st, st = (n ^^ n') := ⟨_, rfl⟩
  have hst2 : (n != n') = st := by rw [hst]
  have hst3 : (!decide (n = n')) = st := by rw [hst]; cases n <;> cases n' <;> rfl
  have hst4 : (!(n == n')) = st := by rw [hst]; cases n <;> cases n' <;> rfl
  rw [← hst] at f1
  clear hst hZ hX hY hz hz'
  by_cases c3 : m = 9218868437227405312
  · rw [decide_eq_true c3] at j1
    clear hb hi hm hm' c3 j2
    go_enter Tryz.func24, Tryz.ntmps24
    go_wp2_with fail
    refine (i1 w).mono ?_; rintro e w' ⟨rfl, hw'⟩; obtain rfl := hw'.symm; clear hw'
    go_wp2_with fail
    refine (i2 w).mono ?_; rintro e w' ⟨rfl, hw'⟩; obtain rfl := hw'.symm; clear hw'
    go_wp2_with fail
    refine (j1 w).mono ?_; rintro e w' ⟨rfl, hw'⟩; obtain rfl := hw'.symm; clear hw'
    go_wp2_with fail
    refine (z1 w).mono ?_; rintro e w' ⟨rfl, hw'⟩; obtain rfl := hw'.symm; clear hw'
    go_wp2_with fail
    refine (z2 w).mono ?_; rintro e w' ⟨rfl, hw'⟩; obtain rfl := hw'.symm; clear hw'
    go_wp2_with fail
    refine (n1 w).mono ?_; rintro e w' ⟨rfl, hw'⟩; obtain rfl := hw'.symm; clear hw'
    go_wp2_with fail
    refine (n2 w).mono ?_; rintro e w' ⟨rfl, hw'⟩; obtain rfl := hw'.symm; clear hw'
    go_wp2_with fail
    refine (f1 w).mono ?_; rintro e w' ⟨rfl, hw'⟩; obtain rfl := hw'.symm; clear hw'
    go_wp2
    exact bodyPost_ret (v := .int .u64 (Z : Int)) (by simp [results, Tryz.results24, go_sem]) rfl ⟨rfl, Kp.refl _⟩
  · rw [decide_eq_false c3] at j1
    rw [decide_eq_true (by omega)] at j2
    clear hb hi hm hm' c3
    go_enter Tryz.func24, Tryz.ntmps24
    go_wp2_with fail
    refine (i1 w).mono ?_; rintro e w' ⟨rfl, hw'⟩; obtain rfl := hw'.symm; clear hw'
    go_wp2_with fail
    refine (i2 w).mono ?_; rintro e w' ⟨rfl, hw'⟩; obtain rfl := hw'.symm; clear hw'
    go_wp2_with fail
    refine (j1 w).mono ?_; rintro e w' ⟨rfl, hw'⟩; obtain rfl := hw'.symm; clear hw'
    go_wp2_with fail
    refine (j2 w).mono ?_; rintro e w' ⟨rfl, hw'⟩; obtain rfl := hw'.symm; clear hw'
    go_wp2_with fail
    refine (z1 w).mono ?_; rintro e w' ⟨rfl, hw'⟩; obtain rfl := hw'.symm; clear hw'
    go_wp2_with fail
    refine (z2 w).mono ?_; rintro e w' ⟨rfl, hw'⟩; obtain rfl := hw'.symm; clear hw'
    go_wp2_with fail
    refine (n1 w).mono ?_; rintro e w' ⟨rfl, hw'⟩; obtain rfl := hw'.symm; clear hw'
    go_wp2_with fail
    refine (n2 w).mono ?_; rintro e w' ⟨rfl, hw'⟩; obtain rfl := hw'.symm; clear hw'
    go_wp2_with fail
    refine (f1 w).mono ?_; rintro e w' ⟨rfl, hw'⟩; obtain rfl := hw'.symm; clear hw'
    go_wp2
    exact bodyPost_ret (v := .int .u64 (Z : Int)) (by simp [results, Tryz.results24, go_sem]) rfl ⟨rfl, Kp.refl _⟩
end Go.Proofs.YthngdlifpbhagaaGreatDoor
