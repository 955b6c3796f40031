import Derived.Test.YtpjjmpdgchbdaaaGreatDoorProg
import Derived.Test.YtpjjmpdgchbdaaaGreatDoorKXA0
import Derived.Test.YtpjjmpdgchbdaaaGreatDoorKXM
import Derived.Test.YtpjjmpdgchbdaaaGreatDoorKXY
import Derived.Test.YtpjjmpdgchbdaaaGreatDoorKXQF
import Derived.Test.YtpjjmpdgchbdaaaGreatDoorKQA
import Derived.Test.YtpjjmpdgchbdaaaGreatDoorKQP
import Derived.Test.YtpjjmpdgchbdaaaGreatDoorKXQU
import Derived.Test.YtpjjmpdgchbdaaaGreatDoorKQB
import Derived.Test.YtpjjmpdgchbdaaaGreatDoorKQBT
import Derived.Test.YtpjjmpdgchbdaaaGreatDoorKQJd
import Derived.Test.YtpjjmpdgchbdaaaGreatDoorKHB
import Derived.Test.YtpjjmpdgchbdaaaGreatDoorKLX
import Derived.Test.YtpjjmpdgchbdaaaGreatDoorKMR7Q
import Derived.Test.YtpjjmpdgchbdaaaGreatDoorKXG1
import Derived.Test.YtpjjmpdgchbdaaaGreatDoorKXH2Q
import Derived.Test.YtpjjmpdgchbdaaaGreatDoorKXMR
import Derived.Test.YtpjjmpdgchbdaaaGreatDoorKNSm
import Derived.Test.YtpjjmpdgchbdaaaGreatDoorKXMQ
import Derived.Test.YtpjjmpdgchbdaaaGreatDoorKMR18
import Derived.Test.YtpjjmpdgchbdaaaGreatDoorKXMS
import Derived.Test.YtpjjmpdgchbdaaaGreatDoorKXO3
import Derived.Test.YtpjjmpdgchbdaaaGreatDoorKXO
import Derived.Test.YtpjjmpdgchbdaaaGreatDoorKXP
import Derived.Test.YtpjjmpdgchbdaaaGreatDoorKXS2
import Derived.Test.YtpjjmpdgchbdaaaGreatDoorKXU1
import Derived.Test.YtpjjmpdgchbdaaaGreatDoorKXYA
import Derived.Test.YtpjjmpdgchbdaaaGreatDoorKYC
import Derived.Test.YtpjjmpdgchbdaaaGreatDoorKXT
import Derived.Test.YtpjjmpdgchbdaaaGreatDoorKRX
import Derived.Test.YtpjjmpdgchbdaaaGreatDoorKXRL
import Derived.Test.YtpjjmpdgchbdaaaGreatDoorKXCO
import Derived.Test.YtpjjmpdgchbdaaaGreatDoorKLN
import Derived.Test.YtpjjmpdgchbdaaaGreatDoorKXRN
import Derived.Test.YtpjjmpdgchbdaaaGreatDoorKW4
import Derived.Test.YtpjjmpdgchbdaaaGreatDoorKBY
import Derived.Test.YtpjjmpdgchbdaaaGreatDoorKXBW
import Derived.Test.YtpjjmpdgchbdaaaGreatDoorKXTZ
import Derived.Test.YtpjjmpdgchbdaaaGreatDoorKXG4
import Derived.Test.YtpjjmpdgchbdaaaGreatDoorKXYE
import Derived.WalkKit
import Derived.ProofKit
import Derived.RowKit3
import Derived.WalkSpells
import Derived.StillTactics
import Derived.Deep.QuietTactic
import Derived.BigQuiet
import Derived.Below
import Derived.Deep.OwnRows
import Derived.OwnWalk
import Derived.Laws.BitsAllLaws
import Derived.Laws.Slices
import Derived.Laws.Bits64b
import Derived.Laws.FloatArith
import Derived.Laws.Small
import Derived.WalkMore
import Derived.ScopeJumps
import Derived.Scope
namespace Go.Proofs.YtpjjmpdgchbdaaaGreatDoor
open Go.RowKit
set_option maxRecDepth 20000 in
set_option maxHeartbeats 1000000 in
theorem pdivQ_ (d : Int) (n n' : Bool) (m m' : Nat) (c1 : 2580562586483294208 ≤ m ∧ m ≤ 6633802251116740608) (c2 : 2580562586483294208 ≤ m' ∧ m' ≤ 6633802251116740608) (w : World) :
    Calls Tryz.prog 5 #[.int .i64 d, .float .f64 (Fq.wD n m), .float .f64 (Fq.wD n' m')] w fun e w' => e = .returned (.float .f64 (divW d (n ^^ n') (Fq.vV Ieee.double m) (Fq.vV Ieee.double m'))) ∧ Kp w w' := by
  have h1 := mild_ n m (by omega) w
  have h2 := mild_ n' m' (by omega) w
  rw [decide_eq_true c1] at h1
  rw [decide_eq_true c2] at h2
  obtain ⟨V, s, o, r, ro, K, h3, r0, r8, q0, q1, g1, g2, K1, K2, kV, hsum⟩ := twoQuotient_ n n' m m' c1 c2
  have h4 := steppedG_ d V s o (n ^^ n') r ro K K1 K2 kV r0 r8 q0 q1 g1 g2
  rw [hsum d] at h4
  obtain ⟨X, hX⟩ : ∃ X, X = Fq.wD n m := ⟨_, rfl⟩
  obtain ⟨Y, hY⟩ : ∃ Y, Y = Fq.wD n' m' := ⟨_, rfl⟩
  obtain ⟨Z, hZ⟩ : ∃ Z, Z = divW d (n ^^ n') (Fq.vV Ieee.double m) (Fq.vV Ieee.double m') := ⟨_, rfl⟩
  obtain ⟨N, hN⟩ : ∃ N, N = Fq.wD s r := ⟨_, rfl⟩
  obtain ⟨O, hO⟩ : ∃ O, O = Fq.wD o ro := ⟨_, rfl⟩
  rw [← hX] at h1
  rw [← hY] at h2
  rw [← hX, ← hY, ← hN, ← hO] at h3
  rw [← hN, ← hO, ← hZ] at h4
  rw [← hX, ← hY, ← hZ]
  clear hX hY hZ hN hO c1 c2 r0 r8 q0 q1 g1 g2 K1 K2 kV hsum
  go_enter Tryz.func5, Tryz.ntmps5
  go_wp2
  refine wp_scope_straight ?_
  go_wp2_with fail
  refine h1.mono ?_; rintro e w' ⟨rfl, hw'⟩; obtain rfl := hw'.symm; clear hw' h1
  go_wp2_with fail
  refine h2.mono ?_; rintro e w' ⟨rfl, hw'⟩; obtain rfl := hw'.symm; clear hw' h2
  have h5 := h3 w
  clear h3
  go_wp2_with fail
  refine h5.mono ?_; rintro e w' ⟨rfl, hw'⟩; obtain rfl := hw'.symm; clear hw' h5
  have h6 := h4 w
  clear h4
  go_wp2_with fail
  refine h6.mono ?_; rintro e w1 ⟨rfl, k1⟩
  clear h6
  go_wp2
  try rw [Exit.noGoto_ret]
  exact bodyPost_ret (v := .float .f64 Z) (by simp [results, Tryz.results5, go_sem]) rfl ⟨rfl, k1⟩
set_option maxRecDepth 20000 in
set_option maxHeartbeats 1000000 in
theorem pdivE_ (d : Int) (n n' : Bool) (m m' : Nat) (hm : m < 9218868437227405312) (hm' : m' < 9218868437227405312) (z : m ≠ 0) (z' : m' ≠ 0) (ct : ¬ ((2580562586483294208 ≤ m ∧ m ≤ 6633802251116740608) ∧ (2580562586483294208 ≤ m' ∧ m' ≤ 6633802251116740608))) (w : World) (hQ : Fq.Tab w) (hd1 : -9223372036854775808 ≤ d) (hd2 : d < 9223372036854775808) :
    Calls Tryz.prog 5 #[.int .i64 d, .float .f64 (Fq.wD n m), .float .f64 (Fq.wD n' m')] w fun e w' => e = .returned (.float .f64 (divW d (n ^^ n') (Fq.vV Ieee.double m) (Fq.vV Ieee.double m'))) ∧ Kp w w' := by
  have h1 := mild_ n m (by omega) w
  have h2 := mild_ n' m' (by omega) w
  have g1 := finite_ n m (by omega) w
  have g2 := finite_ n' m' (by omega) w
  rw [decide_eq_true hm] at g1
  rw [decide_eq_true hm'] at g2
  have o1 := Fq.eqzD n m (by omega)
  have o2 := Fq.eqzD n' m' (by omega)
  rw [show (m == 0) = false from by simp [z]] at o1
  rw [show (m' == 0) = false from by simp [z']] at o2
  obtain ⟨X, hX⟩ : ∃ X, X = Fq.wD n m := ⟨_, rfl⟩
  obtain ⟨Y, hY⟩ : ∃ Y, Y = Fq.wD n' m' := ⟨_, rfl⟩
  obtain ⟨Z, hZ⟩ : ∃ Z, Z = divW d (n ^^ n') (Fq.vV Ieee.double m) (Fq.vV Ieee.double m') := ⟨_, rfl⟩
  obtain ⟨a, ea, a1, a2, a3, a4, ta⟩ := take_ n m hm
  obtain ⟨b, eb, b1, b2, b3, b4, tb⟩ := take_ n' m' hm'
  rw [show (n && !(m == 0)) = n from by simp [z]] at ta
  rw [show (n' && !(m' == 0)) = n' from by simp [z']] at tb
  have la : len32 a ≤ 16384 := dlen a 16384 (by
    have : blen a ≤ 53 := by rw [blen_le_iff, show (2 : Nat) ^ 53 = 9007199254740992 from by decide]; exact a4
    omega)
  have lb : len32 b ≤ 16384 := dlen b 16384 (by
    have : blen b ≤ 53 := by rw [blen_le_iff, show (2 : Nat) ^ 53 = 9007199254740992 from by decide]; exact b4
    omega)
  have za : a ≠ 0 := fun h => by rw [h, Nat.zero_mul] at a1; exact z ((vV_zero m).1 a1.symm)
  have zb : b ≠ 0 := fun h => by rw [h, Nat.zero_mul] at b1; exact z' ((vV_zero m').1 b1.symm)
  have hom : ratW d (n ^^ n') a b (ea - eb) = Z := by
    rw [hZ, ← a1, ← b1]
    exact rat_div d (n ^^ n') a b _ _ ea eb za zb la lb (by omega) (by omega)
  have hp : ∀ (va vb : Value) (w1 : World), Kp w w1 → Ls w1 va (dig a) → Ls w1 vb (dig b) → Calls Tryz.prog 16 #[.agg #[.bool n, va, .int .i64 ea], .int .i64 d, .agg #[.bool n', vb, .int .i64 eb]] w1 fun e w' => e = .returned (.float .f64 Z) ∧ Kp w1 w' := fun va vb w1 k l1 l2 => by
    rw [← hom]; exact by_ d n n' a b ea eb va vb w1 (Fq.Tab.grown hQ k) hd1 hd2 l1 l2 la lb a2 a3 b2 b3
  rw [← hX] at h1 g1 ta o1
  rw [← hY] at h2 g2 tb o2
  rw [← hX, ← hY, ← hZ]
  have ta1 := ta w hQ
  have tb1 := fun w1 (k : Kp w w1) => tb w1 (Fq.Tab.grown hQ k)
  have HT : Hid (2580562586483294208 ≤ m ∧ m ≤ 6633802251116740608 → ¬ (2580562586483294208 ≤ m' ∧ m' ≤ 6633802251116740608)) := fun h h' => ct ⟨h, h'⟩
  clear hX hY hZ hom la lb za zb a1 a2 a3 a4 b1 b2 b3 b4 ta tb hQ hd1 hd2 ct hm hm' z z'
  go_enter Tryz.func5, Tryz.ntmps5
  go_wp2
  refine wp_scope_jumps 0 (fun a' w' => w' = w ∧ ∃ u3 u4 u5 u6 u7 u8 u9 u10 u11 u12 u13 u14 u15 u16 u17 u18 u19 u20 u21 u22 u23 u24 u25 u26 u27 u28 u29 u30 u31 u32 u33 u34 u35 u36 u37 u38 u39 u40 u41 u42 u43 u44 u45 u46 u47 u48 u49 u50 u51 u52 u53 u54 : Value, a' = ⟨#[.int .i64 d, .float .f64 X, .float .f64 Y, u3, u4, u5, u6, u7, u8, u9, u10, u11, u12, u13, u14, u15, u16, u17, u18, u19, u20, u21, u22, u23, u24, u25, u26, u27, u28, u29, u30, u31, u32, u33, u34, u35, u36, u37, u38, u39, u40, u41, u42, u43, u44, u45, u46, u47, u48, u49, u50, u51, u52, u53, u54], []⟩) (fun _ _ => 0) rfl ?_ ?_
  · clear g1 g2 ta1 tb1 hp o1 o2
    by_cases c1 : 2580562586483294208 ≤ m ∧ m ≤ 6633802251116740608
    · rw [decide_eq_true c1] at h1
      rw [decide_eq_false (HT.out c1)] at h2
      clear c1 HT
      go_wp2_with fail
      refine h1.mono ?_; rintro e w' ⟨rfl, hw'⟩; obtain rfl := hw'.symm; clear hw' h1
      go_wp2_with fail
      refine h2.mono ?_; rintro e w' ⟨rfl, hw'⟩; obtain rfl := hw'.symm; clear hw' h2
      go_wp2_with fail
      go_step3
      exact ⟨rfl, rfl, _, _, _, _, _, _, _, _, _, _, _, _, _, _, _, _, _, _, _, _, _, _, _, _, _, _, _, _, _, _, _, _, _, _, _, _, _, _, _, _, _, _, _, _, _, _, _, _, _, _, _, _, rfl⟩
    · rw [decide_eq_false c1] at h1
      clear c1 HT h2
      go_wp2_with fail
      refine h1.mono ?_; rintro e w' ⟨rfl, hw'⟩; obtain rfl := hw'.symm; clear hw' h1
      go_wp2_with fail
      go_step3
      exact ⟨rfl, rfl, _, _, _, _, _, _, _, _, _, _, _, _, _, _, _, _, _, _, _, _, _, _, _, _, _, _, _, _, _, _, _, _, _, _, _, _, _, _, _, _, _, _, _, _, _, _, _, _, _, _, _, _, rfl⟩
  · rintro a' w' ⟨rfl, u3, u4, u5, u6, u7, u8, u9, u10, u11, u12, u13, u14, u15, u16, u17, u18, u19, u20, u21, u22, u23, u24, u25, u26, u27, u28, u29, u30, u31, u32, u33, u34, u35, u36, u37, u38, u39, u40, u41, u42, u43, u44, u45, u46, u47, u48, u49, u50, u51, u52, u53, u54, rfl⟩
    clear h1 h2 HT
    go_wp2_with fail
    refine g1.mono ?_; rintro e w9 ⟨rfl, hw'⟩; obtain rfl := hw'.symm; clear hw' g1
    go_wp2_with fail
    refine g2.mono ?_; rintro e w9 ⟨rfl, hw'⟩; obtain rfl := hw'.symm; clear hw' g2
    go_wp2_with fail
    refine ta1.mono ?_; rintro e w1 ⟨va, rfl, lva, k1⟩
    have tb2 := tb1 w1 k1
    clear ta1 tb1
    go_wp2_with fail
    refine tb2.mono ?_; rintro e w2 ⟨vb, rfl, lvb, k2⟩
    have k02 := k1.trans k2
    have hp2 := hp va vb w2 k02 (lva.kp k2) lvb
    clear tb2 hp lva lvb k1 k2
    go_wp2_with fail
    refine hp2.mono ?_; rintro e w3 ⟨rfl, k3⟩
    have k03 := k02.trans k3
    clear hp2 k02 k3
    go_wp2
    try simp only [Exit.jump]
    exact bodyPost_ret (v := .float .f64 Z) (by simp [results, Tryz.results5, go_sem]) rfl ⟨rfl, k03⟩
set_option maxRecDepth 20000 in
set_option maxHeartbeats 1000000 in
theorem pdivP_ (d : Int) (n n' : Bool) (m m' : Nat) (hm : m < 9223372036854775808) (hm' : m' < 9223372036854775808) (z' : m' ≠ 0) (hi : ¬ (m < 9218868437227405312 ∧ m' < 9218868437227405312 ∧ m ≠ 0)) (w w9 : World) (RR R2 : Nat) (hrun : (binOp .quo 24 (.float .f64 (Fq.wD n m)) (.float .f64 (Fq.wD n' m'))).run Tryz.prog w = .ok (.float .f64 RR) w9) (hk : Kp w w9) (hpl : Calls Tryz.prog 14 #[.float .f64 RR] w9 fun e w' => e = .returned (.float .f64 R2) ∧ w' = w9) :
    Calls Tryz.prog 5 #[.int .i64 d, .float .f64 (Fq.wD n m), .float .f64 (Fq.wD n' m')] w fun e w' => e = .returned (.float .f64 R2) ∧ Kp w w' := by
  have h1 := mild_ n m hm w
  have h2 := mild_ n' m' hm' w
  have g1 := finite_ n m hm w
  have g2 := finite_ n' m' hm' w
  have o1 := Fq.eqzD n m hm
  have o2 := Fq.eqzD n' m' hm'
  rw [show (m' == 0) = false from by simp [z']] at o2
  obtain ⟨X, hX⟩ : ∃ X, X = Fq.wD n m := ⟨_, rfl⟩
  obtain ⟨Y, hY⟩ : ∃ Y, Y = Fq.wD n' m' := ⟨_, rfl⟩
  rw [← hX] at h1 g1 o1
  rw [← hY] at h2 g2 o2
  rw [← hX, ← hY] at hrun
  rw [← hX, ← hY]
  have HT : Hid (2580562586483294208 ≤ m ∧ m ≤ 6633802251116740608 → ¬ (2580562586483294208 ≤ m' ∧ m' ≤ 6633802251116740608)) := fun h h' => hi ⟨by omega, by omega, by omega⟩
  have HI : Hid (¬ (m < 9218868437227405312 ∧ m' < 9218868437227405312 ∧ m ≠ 0)) := hi
  clear hX hY hi hm hm' z'
  go_enter Tryz.func5, Tryz.ntmps5
  go_wp2
  refine wp_scope_jumps 0 (fun a' w' => w' = w ∧ ∃ u3 u4 u5 u6 u7 u8 u9 u10 u11 u12 u13 u14 u15 u16 u17 u18 u19 u20 u21 u22 u23 u24 u25 u26 u27 u28 u29 u30 u31 u32 u33 u34 u35 u36 u37 u38 u39 u40 u41 u42 u43 u44 u45 u46 u47 u48 u49 u50 u51 u52 u53 u54 : Value, a' = ⟨#[.int .i64 d, .float .f64 X, .float .f64 Y, u3, u4, u5, u6, u7, u8, u9, u10, u11, u12, u13, u14, u15, u16, u17, u18, u19, u20, u21, u22, u23, u24, u25, u26, u27, u28, u29, u30, u31, u32, u33, u34, u35, u36, u37, u38, u39, u40, u41, u42, u43, u44, u45, u46, u47, u48, u49, u50, u51, u52, u53, u54], []⟩) (fun _ _ => 0) rfl ?_ ?_
  · clear g1 g2 o1 o2 hrun hpl HI
    by_cases c1 : 2580562586483294208 ≤ m ∧ m ≤ 6633802251116740608
    · rw [decide_eq_true c1] at h1
      rw [decide_eq_false (HT.out c1)] at h2
      clear c1 HT
      go_wp2_with fail
      refine h1.mono ?_; rintro e w' ⟨rfl, hw'⟩; obtain rfl := hw'.symm; clear hw' h1
      go_wp2_with fail
      refine h2.mono ?_; rintro e w' ⟨rfl, hw'⟩; obtain rfl := hw'.symm; clear hw' h2
      go_wp2_with fail
      go_step3
      exact ⟨rfl, rfl, _, _, _, _, _, _, _, _, _, _, _, _, _, _, _, _, _, _, _, _, _, _, _, _, _, _, _, _, _, _, _, _, _, _, _, _, _, _, _, _, _, _, _, _, _, _, _, _, _, _, _, _, rfl⟩
    · rw [decide_eq_false c1] at h1
      clear c1 HT h2
      go_wp2_with fail
      refine h1.mono ?_; rintro e w' ⟨rfl, hw'⟩; obtain rfl := hw'.symm; clear hw' h1
      go_wp2_with fail
      go_step3
      exact ⟨rfl, rfl, _, _, _, _, _, _, _, _, _, _, _, _, _, _, _, _, _, _, _, _, _, _, _, _, _, _, _, _, _, _, _, _, _, _, _, _, _, _, _, _, _, _, _, _, _, _, _, _, _, _, _, _, rfl⟩
  · rintro a' w' ⟨rfl, u3, u4, u5, u6, u7, u8, u9, u10, u11, u12, u13, u14, u15, u16, u17, u18, u19, u20, u21, u22, u23, u24, u25, u26, u27, u28, u29, u30, u31, u32, u33, u34, u35, u36, u37, u38, u39, u40, u41, u42, u43, u44, u45, u46, u47, u48, u49, u50, u51, u52, u53, u54, rfl⟩
    clear h1 h2 HT
    by_cases c1 : m < 9218868437227405312
    · rw [decide_eq_true c1] at g1
      by_cases c2 : m' < 9218868437227405312
      · rw [decide_eq_true c2] at g2
        have c3 : m = 0 := by have := HI.out; omega
        rw [show (m == 0) = true from by simp [c3]] at o1
        clear c1 c2 c3 HI
        go_wp2_with fail
        refine g1.mono ?_; rintro e w8 ⟨rfl, hw'⟩; obtain rfl := hw'.symm; clear hw' g1
        go_wp2_with fail
        refine g2.mono ?_; rintro e w8 ⟨rfl, hw'⟩; obtain rfl := hw'.symm; clear hw' g2
        go_wp2_with fail
        refine hpl.mono ?_; rintro e w8 ⟨rfl, hw'⟩; obtain rfl := hw'.symm; clear hw' hpl
        go_wp2
        try simp only [Exit.jump]
        exact bodyPost_ret (v := .float .f64 R2) (by simp [results, Tryz.results5, go_sem]) rfl ⟨rfl, hk⟩
      · rw [decide_eq_false c2] at g2
        clear c1 c2 HI o1
        go_wp2_with fail
        refine g1.mono ?_; rintro e w8 ⟨rfl, hw'⟩; obtain rfl := hw'.symm; clear hw' g1
        go_wp2_with fail
        refine g2.mono ?_; rintro e w8 ⟨rfl, hw'⟩; obtain rfl := hw'.symm; clear hw' g2
        go_wp2_with fail
        refine hpl.mono ?_; rintro e w8 ⟨rfl, hw'⟩; obtain rfl := hw'.symm; clear hw' hpl
        go_wp2
        try simp only [Exit.jump]
        exact bodyPost_ret (v := .float .f64 R2) (by simp [results, Tryz.results5, go_sem]) rfl ⟨rfl, hk⟩
    · rw [decide_eq_false c1] at g1
      clear c1 HI o1 g2
      go_wp2_with fail
      refine g1.mono ?_; rintro e w8 ⟨rfl, hw'⟩; obtain rfl := hw'.symm; clear hw' g1
      go_wp2_with fail
      refine hpl.mono ?_; rintro e w8 ⟨rfl, hw'⟩; obtain rfl := hw'.symm; clear hw' hpl
      go_wp2
      try simp only [Exit.jump]
      exact bodyPost_ret (v := .float .f64 R2) (by simp [results, Tryz.results5, go_sem]) rfl ⟨rfl, hk⟩
set_option maxRecDepth 20000 in
set_option maxHeartbeats 1000000 in
theorem pdivN_ (d : Int) (n n' : Bool) (m : Nat) (hm : m < 9223372036854775808) (w : World) :
    Calls Tryz.prog 5 #[.int .i64 d, .float .f64 (Fq.wD n m), .float .f64 (Fq.wD n' 0)] w fun e w' => e = .returned (.float .f64 (if m = 0 ∨ 9218868437227405312 < m then 9221120237041090561 else Fq.wD n 9218868437227405312)) ∧ Kp w w' := by
  obtain ⟨m', hm0⟩ : ∃ m' : Nat, m' = 0 := ⟨_, rfl⟩
  have h1 := mild_ n m hm w
  have h2 := mild_ n' m' (by omega) w
  have o2 := Fq.eqzD n' m' (by omega)
  rw [show (m' == 0) = true from by simp [hm0]] at o2
  have hb := byNought_ n m hm w
  obtain ⟨R, hR⟩ : ∃ R, R = (if m = 0 ∨ 9218868437227405312 < m then 9221120237041090561 else Fq.wD n 9218868437227405312) := ⟨_, rfl⟩
  rw [← hR, ← hm0]
  obtain ⟨X, hX⟩ : ∃ X, X = Fq.wD n m := ⟨_, rfl⟩
  obtain ⟨Y, hY⟩ : ∃ Y, Y = Fq.wD n' m' := ⟨_, rfl⟩
  rw [← hX] at h1 hb
  rw [← hY] at h2 o2
  rw [← hR] at hb
  rw [← hX, ← hY]
  have HT : Hid (2580562586483294208 ≤ m ∧ m ≤ 6633802251116740608 → ¬ (2580562586483294208 ≤ m' ∧ m' ≤ 6633802251116740608)) := fun h h' => by omega
  clear hX hY hR hm hm0
  go_enter Tryz.func5, Tryz.ntmps5
  go_wp2
  refine wp_scope_jumps 0 (fun a' w' => w' = w ∧ ∃ u3 u4 u5 u6 u7 u8 u9 u10 u11 u12 u13 u14 u15 u16 u17 u18 u19 u20 u21 u22 u23 u24 u25 u26 u27 u28 u29 u30 u31 u32 u33 u34 u35 u36 u37 u38 u39 u40 u41 u42 u43 u44 u45 u46 u47 u48 u49 u50 u51 u52 u53 u54 : Value, a' = ⟨#[.int .i64 d, .float .f64 X, .float .f64 Y, u3, u4, u5, u6, u7, u8, u9, u10, u11, u12, u13, u14, u15, u16, u17, u18, u19, u20, u21, u22, u23, u24, u25, u26, u27, u28, u29, u30, u31, u32, u33, u34, u35, u36, u37, u38, u39, u40, u41, u42, u43, u44, u45, u46, u47, u48, u49, u50, u51, u52, u53, u54], []⟩) (fun _ _ => 0) rfl ?_ ?_
  · clear o2 hb
    by_cases c1 : 2580562586483294208 ≤ m ∧ m ≤ 6633802251116740608
    · rw [decide_eq_true c1] at h1
      rw [decide_eq_false (HT.out c1)] at h2
      clear c1 HT
      go_wp2_with fail
      refine h1.mono ?_; rintro e w' ⟨rfl, hw'⟩; obtain rfl := hw'.symm; clear hw' h1
      go_wp2_with fail
      refine h2.mono ?_; rintro e w' ⟨rfl, hw'⟩; obtain rfl := hw'.symm; clear hw' h2
      go_wp2_with fail
      go_step3
      exact ⟨rfl, rfl, _, _, _, _, _, _, _, _, _, _, _, _, _, _, _, _, _, _, _, _, _, _, _, _, _, _, _, _, _, _, _, _, _, _, _, _, _, _, _, _, _, _, _, _, _, _, _, _, _, _, _, _, rfl⟩
    · rw [decide_eq_false c1] at h1
      clear c1 HT h2
      go_wp2_with fail
      refine h1.mono ?_; rintro e w' ⟨rfl, hw'⟩; obtain rfl := hw'.symm; clear hw' h1
      go_wp2_with fail
      go_step3
      exact ⟨rfl, rfl, _, _, _, _, _, _, _, _, _, _, _, _, _, _, _, _, _, _, _, _, _, _, _, _, _, _, _, _, _, _, _, _, _, _, _, _, _, _, _, _, _, _, _, _, _, _, _, _, _, _, _, _, rfl⟩
  · rintro a' w' ⟨rfl, u3, u4, u5, u6, u7, u8, u9, u10, u11, u12, u13, u14, u15, u16, u17, u18, u19, u20, u21, u22, u23, u24, u25, u26, u27, u28, u29, u30, u31, u32, u33, u34, u35, u36, u37, u38, u39, u40, u41, u42, u43, u44, u45, u46, u47, u48, u49, u50, u51, u52, u53, u54, rfl⟩
    clear h1 h2 HT
    go_wp2_with fail
    refine hb.mono ?_; rintro e w8 ⟨rfl, hw'⟩; obtain rfl := hw'.symm; clear hw' hb
    go_wp2
    try simp only [Exit.jump]
    exact bodyPost_ret (v := .float .f64 R) (by simp [results, Tryz.results5, go_sem]) rfl ⟨rfl, Kp.refl _⟩
theorem iv_zero9 (n : Bool) : Iv n 0 = 0 := by unfold Iv; cases n <;> rfl
theorem ordfin (n : Bool) (R : Nat) (h : R ≤ 9218868437227405312) : (FloatKind.f64.format.order (Fq.wD n R) (Fq.wD n R) != some .eq) = false := by
  rw [Fq.ordD n n R R h h, Fq.cmp_eq rfl]; rfl
theorem ordnn (r : Nat) (h1 : 9218868437227405312 < r % 9223372036854775808) (h2 : r < 18446744073709551616) : (FloatKind.f64.format.order r r != some .eq) = true := by
  have e : r = Fq.wD (decide (9223372036854775808 ≤ r)) (r % 9223372036854775808) := by
    unfold Fq.wD
    by_cases c : 9223372036854775808 ≤ r
    · rw [decide_eq_true c, if_pos rfl]; omega
    · rw [decide_eq_false c, if_neg (by simp)]; omega
  have h3 := Fq.ordD_nanl (decide (9223372036854775808 ≤ r)) (r % 9223372036854775808) r h1 (Nat.mod_lt _ (by decide))
  rw [← e] at h3
  rw [h3]; rfl
theorem orddiv (d : Int) (ng : Bool) (P Q : Nat) : (FloatKind.f64.format.order (divW d ng P Q) (divW d ng P Q) != some .eq) = false := by
  unfold divW
  by_cases c : P = 0
  · rw [if_pos c]; exact ordfin false 0 (by decide)
  · rw [if_neg c]; exact ordselfD _ _ (fin_leD _ _)
theorem quot_both (d : Int) (n n' : Bool) (m m' : Nat) (hm : m < 9223372036854775808) (hm' : m' < 9223372036854775808) (hd1 : -9223372036854775808 ≤ d) (hd2 : d < 9223372036854775808) :
    ∃ Z : Nat, (∀ w : World, Fq.Tab w → Calls Tryz.prog 5 #[.int .i64 d, .float .f64 (Fq.wD n m), .float .f64 (Fq.wD n' m')] w fun e w' => ∃ R, e = .returned (.float .f64 R) ∧ (∀ w1 : World, Calls Tryz.prog 4 #[.float .f64 R] w1 fun e w' => e = .returned (.int .u64 (Z : Int)) ∧ w' = w1) ∧ Kp w w') ∧ (∀ w : World, Calls Tryz.prog 7 #[.int .i64 d, .int .u64 ((Fq.wD n m : Nat) : Int), .int .u64 ((Fq.wD n' m' : Nat) : Int)] w fun e w' => e = .returned (.int .u64 (Z : Int)) ∧ Kp w w') := by
  have ordc : (FloatKind.f64.format.order 9221120237041090561 9221120237041090561 != some .eq) = true := ordnn 9221120237041090561 (by decide) (by decide)
  by_cases z' : m' = 0
  · by_cases c : m = 0 ∨ 9218868437227405312 < m
    · refine ⟨9221120237041090561, fun w hQ => ?_, fun w => rquoB_ d n n' m m' hm hm' (by unfold badQ; omega) w⟩
      have h := pdivN_ d n n' m hm w
      rw [if_pos c, ← z'] at h
      exact h.mono fun e w' h => ⟨_, h.1, fun w1 => bitsNaN_ _ ordc w1, h.2⟩
    · refine ⟨Fq.wD n 9218868437227405312, fun w hQ => ?_, fun w => rquoN_ d n n' m m' hm hm' (by omega) (by omega) z' w⟩
      have h := pdivN_ d n n' m hm w
      rw [if_neg c] at h
      rw [z']
      exact h.mono fun e w' h => ⟨_, h.1, fun w1 => bitsN_ _ (ordfin _ _ (Nat.le_refl _)) w1, h.2⟩
  · by_cases hb : badQ m m'
    · refine ⟨9221120237041090561, fun w hQ => ?_, fun w => rquoB_ d n n' m m' hm hm' (Or.inl hb) w⟩
      obtain ⟨R, p1, p2, hrun⟩ := run_nan_quo _ _ (div_bad n n' m m' hm hm' hb) w
      obtain ⟨a, b, hb9, hR⟩ := word_of R p2
      have hp := Fq.plain_d a b (by omega) w.drew
      rw [show (a && !(b == 0)) = a from by simp; omega, ← hR] at hp
      refine (pdivP_ d n n' m m' hm hm' z' (fun h => by unfold badQ at hb; omega) w w.drew R R hrun (Kp.refl _).drew hp).mono fun e w' h => ?_
      exact ⟨R, h.1, fun w1 => bitsNaN_ _ (ordnn R p1 p2) w1, h.2⟩
    · unfold badQ at hb
      have plz0 : ∀ w : World, Calls Tryz.prog 14 #[.float .f64 (Fq.wD (n ^^ n') 0)] w fun e w' => e = .returned (.float .f64 0) ∧ w' = w := fun w => by
        have hp := Fq.plain_d (n ^^ n') 0 (by decide) w
        rw [show Fq.wD ((n ^^ n') && !((0 : Nat) == 0)) 0 = 0 from by simp; rfl] at hp
        exact hp
      by_cases c1 : m = 9218868437227405312
      · refine ⟨Fq.wD (n ^^ n') 9218868437227405312, fun w hQ => ?_, fun w => rquoI_ d n n' m m' hm hm' c1 (by omega) z' w⟩
        have hp := Fq.plain_d (n ^^ n') 9218868437227405312 (by decide) w
        rw [show ((n ^^ n') && !((9218868437227405312 : Nat) == 0)) = (n ^^ n') from by simp] at hp
        refine (pdivP_ d n n' m m' hm hm' z' (fun h => by omega) w w _ _ (run_float_arith w .quo 24 .f64 _ _ _ (div_inf n n' m m' c1 (by omega))) (Kp.refl _) hp).mono fun e w' h => ?_
        exact ⟨_, h.1, fun w1 => bitsN_ _ (ordfin _ _ (Nat.le_refl _)) w1, h.2⟩
      · have c1' : m < 9218868437227405312 := by omega
        by_cases c2 : m' = 9218868437227405312
        · refine ⟨0, fun w hQ => ?_, fun w => rquoJ_ d n n' m m' hm hm' c1' c2 w⟩
          refine (pdivP_ d n n' m m' hm hm' z' (fun h => by omega) w w _ _ (run_float_arith w .quo 24 .f64 _ _ _ (div_zero n n' m m' c1' (Or.inl c2))) (Kp.refl _) (plz0 w)).mono fun e w' h => ?_
          exact ⟨_, h.1, fun w1 => bitsN_ _ (ordfin false 0 (by decide)) w1, h.2⟩
        · have c2' : m' < 9218868437227405312 := by omega
          refine ⟨divW d (n ^^ n') (Fq.vV Ieee.double m) (Fq.vV Ieee.double m'), fun w hQ => ?_, fun w => rquoF_ d n n' m m' c1' c2' z' w⟩
          suffices h : Calls Tryz.prog 5 #[.int .i64 d, .float .f64 (Fq.wD n m), .float .f64 (Fq.wD n' m')] w fun e w' => e = .returned (.float .f64 (divW d (n ^^ n') (Fq.vV Ieee.double m) (Fq.vV Ieee.double m'))) ∧ Kp w w' from
            h.mono fun e w' h => ⟨_, h.1, fun w1 => bitsN_ _ (orddiv _ _ _ _) w1, h.2⟩
          by_cases z : m = 0
          · have h0 : divW d (n ^^ n') (Fq.vV Ieee.double m) (Fq.vV Ieee.double m') = 0 := by
              unfold divW
              exact if_pos ((vV_zero m).2 z)
            rw [h0]
            exact pdivP_ d n n' m m' hm hm' z' (fun h => by omega) w w _ _ (run_float_arith w .quo 24 .f64 _ _ _ (div_zero n n' m m' c1' (Or.inr ⟨z, c2', z'⟩))) (Kp.refl _) (plz0 w)
          · by_cases ct : (2580562586483294208 ≤ m ∧ m ≤ 6633802251116740608) ∧ (2580562586483294208 ≤ m' ∧ m' ≤ 6633802251116740608)
            · exact pdivQ_ d n n' m m' ct.1 ct.2 w
            · exact pdivE_ d n n' m m' c1' c2' z z' ct w hQ hd1 hd2
set_option maxRecDepth 20000 in
set_option maxHeartbeats 1000000 in
theorem quotients_ (d : Int) (X Y : Nat) (w : World) (hQ : Fq.Tab w) (hd1 : -9223372036854775808 ≤ d) (hd2 : d < 9223372036854775808) (hX : X < 18446744073709551616) (hY : Y < 18446744073709551616) :
    Calls Tryz.prog 3 #[.int .i64 d, .int .u64 (X : Int), .int .u64 (Y : Int)] w fun e w' => e = .returned (.bool true) ∧ Kp w w' := by
  obtain ⟨n, m, hm, eX⟩ := word_of X hX
  obtain ⟨n', m', hm', eY⟩ := word_of Y hY
  obtain ⟨Z1, p1, q1⟩ := quot_both d n n' m m' (by omega) (by omega) hd1 hd2
  rw [← eX, ← eY] at p1 q1
  have f1 := fl_ X
  have f2 := fl_ Y
  clear eX eY hm hm' hX hY hd1 hd2
  go_enter Tryz.func3, Tryz.ntmps3
  go_wp2_with fail
  refine (f1 _).mono ?_; rintro e w' ⟨rfl, hw'⟩; obtain rfl := hw'.symm; clear hw'
  go_wp2_with fail
  refine (f2 _).mono ?_; rintro e w' ⟨rfl, hw'⟩; obtain rfl := hw'.symm; clear hw'
  have hc := p1 _ hQ
  go_wp2_with fail
  refine hc.mono ?_; rintro e w1 ⟨R1, rfl, hb1, k1⟩; clear hc
  go_wp2_with fail
  refine (hb1 _).mono ?_; rintro e w' ⟨rfl, hw'⟩; obtain rfl := hw'.symm; clear hw' hb1
  have hc := q1 w1
  go_wp2_with fail
  refine hc.mono ?_; rintro e w2 ⟨rfl, k2⟩; clear hc
  have kk := k1.trans k2
  clear f1 f2 p1 q1 k1 k2 hQ
  go_wp2
  exact bodyPost_ret (v := .bool true) (by simp [results, Tryz.results3, go_sem]) rfl ⟨rfl, kk⟩
end Go.Proofs.YtpjjmpdgchbdaaaGreatDoor
