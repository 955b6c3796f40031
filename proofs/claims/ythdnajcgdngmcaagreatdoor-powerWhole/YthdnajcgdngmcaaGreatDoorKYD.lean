import Derived.Test.YthdnajcgdngmcaaGreatDoorKMR30
import Derived.Test.YthdnajcgdngmcaaGreatDoorKYA
import Derived.Scope
import Derived.ScopeJumps
namespace Go.Proofs.YthdnajcgdngmcaaGreatDoor
open Go.RowKit
set_option maxRecDepth 20000 in
set_option maxHeartbeats 1000000 in
theorem pdivQ_ (d : Int) (n n' : Bool) (m m' : Nat) (c1 : 2580562586483294208 ≤ m ∧ m ≤ 6633802251116740608) (c2 : 2580562586483294208 ≤ m' ∧ m' ≤ 6633802251116740608) (w : World) :
    Calls Tryz.prog 114 #[.int .i64 d, .float .f64 (Fq.wD n m), .float .f64 (Fq.wD n' m')] w fun e w' => e = .returned (.float .f64 (divW d (n ^^ n') (Fq.vV Ieee.double m) (Fq.vV Ieee.double m'))) ∧ Kp w w' := by
  have h1 := mild_ n m (by omega) w
  have h2 := mild_ n' m' (by omega) w
  rw [decide_eq_true c1] at h1
  rw [decide_eq_true c2] at h2
  obtain ⟨V, s, o, r, ro, K, h3, r0, r8, q0, q1, g1, g2, K1, K2, kV, hsum⟩ := twoQuotient_ n n' m m' c1 c2
  have h4 := steppedG_ d V s o (n ^^ n') r ro K K1 K2 kV r0 r8 q0 q1 g1 g2
  rw [hsum d] at h4
  obtain ⟨X, hX⟩ : ∃ X, X = Fq.wD n m := ⟨_, rfl⟩
  obtain ⟨Y, hY⟩ : ∃ Y, Y = Fq.wD n' m' := ⟨_, rfl⟩
  obtain ⟨Z, hZ⟩ : ∃ Z, Z = divW d (n ^^ n') (Fq.vV Ieee.double m) (Fq.vV Ieee.double m') := ⟨_, rfl⟩
  obtain ⟨N, hN⟩ : ∃ N, N = Fq.wD s r := ⟨_, rfl⟩
  obtain ⟨O, hO⟩ : ∃ O, O = Fq.wD o ro := ⟨_, rfl⟩
  rw [← hX] at h1
  rw [← hY] at h2
  rw [← hX, ← hY, ← hN, ← hO] at h3
  rw [← hN, ← hO, ← hZ] at h4
  rw [← hX, ← hY, ← hZ]
  clear hX hY hZ hN hO c1 c2 r0 r8 q0 q1 g1 g2 K1 K2 kV hsum
  go_enter Tryz.func114, Tryz.ntmps114
  go_wp2
  refine wp_scope_straight ?_
  go_wp2_with fail
  refine h1.mono ?_; rintro e w' ⟨rfl, hw'⟩; obtain rfl := hw'.symm; clear hw' h1
  go_wp2_with fail
  refine h2.mono ?_; rintro e w' ⟨rfl, hw'⟩; obtain rfl := hw'.symm; clear hw' h2
  have h5 := h3 w
  clear h3
  go_wp2_with fail
  refine h5.mono ?_; rintro e w' ⟨rfl, hw'⟩; obtain rfl := hw'.symm; clear hw' h5
  have h6 := h4 w
  clear h4
  go_wp2_with fail
  refine h6.mono ?_; rintro e w1 ⟨rfl, k1⟩
  clear h6
  go_wp2
  try rw [Exit.noGoto_ret]
  exact bodyPost_ret (v := .float .f64 Z) (by simp [results, Tryz.results114, go_sem]) rfl ⟨rfl, k1⟩
set_option maxRecDepth 20000 in
set_option maxHeartbeats 1000000 in
theorem pdivE_ (d : Int) (n n' : Bool) (m m' : Nat) (hm : m < 9218868437227405312) (hm' : m' < 9218868437227405312) (z : m ≠ 0) (z' : m' ≠ 0) (ct : ¬ ((2580562586483294208 ≤ m ∧ m ≤ 6633802251116740608) ∧ (2580562586483294208 ≤ m' ∧ m' ≤ 6633802251116740608))) (w : World) (hQ : Fq.Tab w) (hd1 : -9223372036854775808 ≤ d) (hd2 : d < 9223372036854775808) :
    Calls Tryz.prog 114 #[.int .i64 d, .float .f64 (Fq.wD n m), .float .f64 (Fq.wD n' m')] w fun e w' => e = .returned (.float .f64 (divW d (n ^^ n') (Fq.vV Ieee.double m) (Fq.vV Ieee.double m'))) ∧ Kp w w' := by
  have h1 := mild_ n m (by omega) w
  have h2 := mild_ n' m' (by omega) w
  have g1 := finite_ n m (by omega) w
  have g2 := finite_ n' m' (by omega) w
  rw [decide_eq_true hm] at g1
  rw [decide_eq_true hm'] at g2
  have o1 := Fq.eqzD n m (by omega)
  have o2 := Fq.eqzD n' m' (by omega)
  rw [show (m == 0) = false from by simp [z]] at o1
  rw [show (m' == 0) = false from by simp [z']] at o2
  obtain ⟨X, hX⟩ : ∃ X, X = Fq.wD n m := ⟨_, rfl⟩
  obtain ⟨Y, hY⟩ : ∃ Y, Y = Fq.wD n' m' := ⟨_, rfl⟩
  obtain ⟨Z, hZ⟩ : ∃ Z, Z = divW d (n ^^ n') (Fq.vV Ieee.double m) (Fq.vV Ieee.double m') := ⟨_, rfl⟩
  obtain ⟨a, ea, a1, a2, a3, a4, ta⟩ := take_ n m hm
  obtain ⟨b, eb, b1, b2, b3, b4, tb⟩ := take_ n' m' hm'
  rw [show (n && !(m == 0)) = n from by simp [z]] at ta
  rw [show (n' && !(m' == 0)) = n' from by simp [z']] at tb
  have la : len32 a ≤ 16384 := dlen a 16384 (by
    have : blen a ≤ 53 := by rw [blen_le_iff, show (2 : Nat) ^ 53 = 9007199254740992 from by decide]; exact a4
    omega)
  have lb : len32 b ≤ 16384 := dlen b 16384 (by
    have : blen b ≤ 53 := by rw [blen_le_iff, show (2 : Nat) ^ 53 = 9007199254740992 from by decide]; exact b4
    omega)
  have za : a ≠ 0 := fun h => by rw [h, Nat.zero_mul] at a1; exact z ((vV_zero m).1 a1.symm)
  have zb : b ≠ 0 := fun h => by rw [h, Nat.zero_mul] at b1; exact z' ((vV_zero m').1 b1.symm)
  have hom : ratW d (n ^^ n') a b (ea - eb) = Z := by
    rw [hZ, ← a1, ← b1]
    exact rat_div d (n ^^ n') a b _ _ ea eb za zb la lb (by omega) (by omega)
  have hp : ∀ (va vb : Value) (w1 : World), Kp w w1 → Ls w1 va (dig a) → Ls w1 vb (dig b) → Calls Tryz.prog 142 #[.agg #[.bool n, va, .int .i64 ea], .int .i64 d, .agg #[.bool n', vb, .int .i64 eb]] w1 fun e w' => e = .returned (.float .f64 Z) ∧ Kp w1 w' := fun va vb w1 k l1 l2 => by
    rw [← hom]; exact by_ d n n' a b ea eb va vb w1 (Fq.Tab.grown hQ k) hd1 hd2 l1 l2 la lb a2 a3 b2 b3
  rw [← hX] at h1 g1 ta o1
  rw [← hY] at h2 g2 tb o2
  rw [← hX, ← hY, ← hZ]
  have ta1 := ta w hQ
  have tb1 := fun w1 (k : Kp w w1) => tb w1 (Fq.Tab.grown hQ k)
  have HT : Hid (2580562586483294208 ≤ m ∧ m ≤ 6633802251116740608 → ¬ (2580562586483294208 ≤ m' ∧ m' ≤ 6633802251116740608)) := fun h h' => ct ⟨h, h'⟩
  clear hX hY hZ hom la lb za zb a1 a2 a3 a4 b1 b2 b3 b4 ta tb hQ hd1 hd2 ct hm hm' z z'
  go_enter Tryz.func114, Tryz.ntmps114
  go_wp2
  refine wp_scope_jumps 0 (fun a' w' => w' = w ∧ ∃ u3 u4 u5 u6 u7 u8 u9 u10 u11 u12 u13 u14 u15 u16 u17 u18 u19 u20 u21 u22 u23 u24 u25 u26 u27 u28 u29 u30 u31 u32 u33 u34 u35 u36 u37 u38 u39 u40 u41 u42 u43 u44 u45 u46 u47 u48 u49 u50 u51 u52 u53 u54 : Value, a' = ⟨#[.int .i64 d, .float .f64 X, .float .f64 Y, u3, u4, u5, u6, u7, u8, u9, u10, u11, u12, u13, u14, u15, u16, u17, u18, u19, u20, u21, u22, u23, u24, u25, u26, u27, u28, u29, u30, u31, u32, u33, u34, u35, u36, u37, u38, u39, u40, u41, u42, u43, u44, u45, u46, u47, u48, u49, u50, u51, u52, u53, u54], []⟩) (fun _ _ => 0) rfl ?_ ?_
  · clear g1 g2 ta1 tb1 hp o1 o2
    by_cases c1 : 2580562586483294208 ≤ m ∧ m ≤ 6633802251116740608
    · rw [decide_eq_true c1] at h1
      rw [decide_eq_false (HT.out c1)] at h2
      clear c1 HT
      go_wp2_with fail
      refine h1.mono ?_; rintro e w' ⟨rfl, hw'⟩; obtain rfl := hw'.symm; clear hw' h1
      go_wp2_with fail
      refine h2.mono ?_; rintro e w' ⟨rfl, hw'⟩; obtain rfl := hw'.symm; clear hw' h2
      go_wp2_with fail
      go_step3
      exact ⟨rfl, rfl, _, _, _, _, _, _, _, _, _, _, _, _, _, _, _, _, _, _, _, _, _, _, _, _, _, _, _, _, _, _, _, _, _, _, _, _, _, _, _, _, _, _, _, _, _, _, _, _, _, _, _, _, rfl⟩
    · rw [decide_eq_false c1] at h1
      clear c1 HT h2
      go_wp2_with fail
      refine h1.mono ?_; rintro e w' ⟨rfl, hw'⟩; obtain rfl := hw'.symm; clear hw' h1
      go_wp2_with fail
      go_step3
      exact ⟨rfl, rfl, _, _, _, _, _, _, _, _, _, _, _, _, _, _, _, _, _, _, _, _, _, _, _, _, _, _, _, _, _, _, _, _, _, _, _, _, _, _, _, _, _, _, _, _, _, _, _, _, _, _, _, _, rfl⟩
  · rintro a' w' ⟨rfl, u3, u4, u5, u6, u7, u8, u9, u10, u11, u12, u13, u14, u15, u16, u17, u18, u19, u20, u21, u22, u23, u24, u25, u26, u27, u28, u29, u30, u31, u32, u33, u34, u35, u36, u37, u38, u39, u40, u41, u42, u43, u44, u45, u46, u47, u48, u49, u50, u51, u52, u53, u54, rfl⟩
    clear h1 h2 HT
    go_wp2_with fail
    refine g1.mono ?_; rintro e w9 ⟨rfl, hw'⟩; obtain rfl := hw'.symm; clear hw' g1
    go_wp2_with fail
    refine g2.mono ?_; rintro e w9 ⟨rfl, hw'⟩; obtain rfl := hw'.symm; clear hw' g2
    go_wp2_with fail
    refine ta1.mono ?_; rintro e w1 ⟨va, rfl, lva, k1⟩
    have tb2 := tb1 w1 k1
    clear ta1 tb1
    go_wp2_with fail
    refine tb2.mono ?_; rintro e w2 ⟨vb, rfl, lvb, k2⟩
    have k02 := k1.trans k2
    have hp2 := hp va vb w2 k02 (lva.kp k2) lvb
    clear tb2 hp lva lvb k1 k2
    go_wp2_with fail
    refine hp2.mono ?_; rintro e w3 ⟨rfl, k3⟩
    have k03 := k02.trans k3
    clear hp2 k02 k3
    go_wp2
    try simp only [Exit.jump]
    exact bodyPost_ret (v := .float .f64 Z) (by simp [results, Tryz.results114, go_sem]) rfl ⟨rfl, k03⟩
set_option maxRecDepth 20000 in
set_option maxHeartbeats 1000000 in
theorem pdivN_ (d : Int) (n n' : Bool) (m : Nat) (hm : m < 9223372036854775808) (w : World) :
    Calls Tryz.prog 114 #[.int .i64 d, .float .f64 (Fq.wD n m), .float .f64 (Fq.wD n' 0)] w fun e w' => e = .returned (.float .f64 (if m = 0 ∨ 9218868437227405312 < m then 9221120237041090561 else Fq.wD n 9218868437227405312)) ∧ Kp w w' := by
  obtain ⟨m', hm0⟩ : ∃ m' : Nat, m' = 0 := ⟨_, rfl⟩
  have h1 := mild_ n m hm w
  have h2 := mild_ n' m' (by omega) w
  have o2 := Fq.eqzD n' m' (by omega)
  rw [show (m' == 0) = true from by simp [hm0]] at o2
  have hb := byNought_ n m hm w
  obtain ⟨R, hR⟩ : ∃ R, R = (if m = 0 ∨ 9218868437227405312 < m then 9221120237041090561 else Fq.wD n 9218868437227405312) := ⟨_, rfl⟩
  rw [← hR, ← hm0]
  obtain ⟨X, hX⟩ : ∃ X, X = Fq.wD n m := ⟨_, rfl⟩
  obtain ⟨Y, hY⟩ : ∃ Y, Y = Fq.wD n' m' := ⟨_, rfl⟩
  rw [← hX] at h1 hb
  rw [← hY] at h2 o2
  rw [← hR] at hb
  rw [← hX, ← hY]
  have HT : Hid (2580562586483294208 ≤ m ∧ m ≤ 6633802251116740608 → ¬ (2580562586483294208 ≤ m' ∧ m' ≤ 6633802251116740608)) := fun h h' => by omega
  clear hX hY hR hm hm0
  go_enter Tryz.func114, Tryz.ntmps114
  go_wp2
  refine wp_scope_jumps 0 (fun a' w' => w' = w ∧ ∃ u3 u4 u5 u6 u7 u8 u9 u10 u11 u12 u13 u14 u15 u16 u17 u18 u19 u20 u21 u22 u23 u24 u25 u26 u27 u28 u29 u30 u31 u32 u33 u34 u35 u36 u37 u38 u39 u40 u41 u42 u43 u44 u45 u46 u47 u48 u49 u50 u51 u52 u53 u54 : Value, a' = ⟨#[.int .i64 d, .float .f64 X, .float .f64 Y, u3, u4, u5, u6, u7, u8, u9, u10, u11, u12, u13, u14, u15, u16, u17, u18, u19, u20, u21, u22, u23, u24, u25, u26, u27, u28, u29, u30, u31, u32, u33, u34, u35, u36, u37, u38, u39, u40, u41, u42, u43, u44, u45, u46, u47, u48, u49, u50, u51, u52, u53, u54], []⟩) (fun _ _ => 0) rfl ?_ ?_
  · clear o2 hb
    by_cases c1 : 2580562586483294208 ≤ m ∧ m ≤ 6633802251116740608
    · rw [decide_eq_true c1] at h1
      rw [decide_eq_false (HT.out c1)] at h2
      clear c1 HT
      go_wp2_with fail
      refine h1.mono ?_; rintro e w' ⟨rfl, hw'⟩; obtain rfl := hw'.symm; clear hw' h1
      go_wp2_with fail
      refine h2.mono ?_; rintro e w' ⟨rfl, hw'⟩; obtain rfl := hw'.symm; clear hw' h2
      go_wp2_with fail
      go_step3
      exact ⟨rfl, rfl, _, _, _, _, _, _, _, _, _, _, _, _, _, _, _, _, _, _, _, _, _, _, _, _, _, _, _, _, _, _, _, _, _, _, _, _, _, _, _, _, _, _, _, _, _, _, _, _, _, _, _, _, rfl⟩
    · rw [decide_eq_false c1] at h1
      clear c1 HT h2
      go_wp2_with fail
      refine h1.mono ?_; rintro e w' ⟨rfl, hw'⟩; obtain rfl := hw'.symm; clear hw' h1
      go_wp2_with fail
      go_step3
      exact ⟨rfl, rfl, _, _, _, _, _, _, _, _, _, _, _, _, _, _, _, _, _, _, _, _, _, _, _, _, _, _, _, _, _, _, _, _, _, _, _, _, _, _, _, _, _, _, _, _, _, _, _, _, _, _, _, _, rfl⟩
  · rintro a' w' ⟨rfl, u3, u4, u5, u6, u7, u8, u9, u10, u11, u12, u13, u14, u15, u16, u17, u18, u19, u20, u21, u22, u23, u24, u25, u26, u27, u28, u29, u30, u31, u32, u33, u34, u35, u36, u37, u38, u39, u40, u41, u42, u43, u44, u45, u46, u47, u48, u49, u50, u51, u52, u53, u54, rfl⟩
    clear h1 h2 HT
    go_wp2_with fail
    refine hb.mono ?_; rintro e w8 ⟨rfl, hw'⟩; obtain rfl := hw'.symm; clear hw' hb
    go_wp2
    try simp only [Exit.jump]
    exact bodyPost_ret (v := .float .f64 R) (by simp [results, Tryz.results114, go_sem]) rfl ⟨rfl, Kp.refl _⟩
def upW (d : Int) (ng : Bool) (A k : Nat) : Nat := mdW ng (finU 53 2098 9218868437227405311 9218868437227405312 (dirN ng d) (rV (dirN ng d) 53 (A ^ k) 1 (1074 - 1074 * (k : Int))))
def dnW (d : Int) (ng : Bool) (A k : Nat) : Nat := mdW ng (finU 53 2098 9218868437227405311 9218868437227405312 (dirN ng d) (rV (dirN ng d) 53 1 (A ^ k) (1074 + 1074 * (k : Int))))
theorem up_rat (d : Int) (ng : Bool) (a x k : Nat) (ea : Int) (ha : a ≠ 0) (hx : (x : Int) = ea + 1074) (hl : len32 (a ^ k) ≤ 16384) : ofW d ng (a ^ k) (ea * (k : Int)) = upW d ng (a * 2 ^ x) k := by
  have hz : a ^ k ≠ 0 := Nat.ne_of_gt (Nat.pow_pos (by omega))
  rw [of_rat]
  unfold ratW upW
  rw [if_neg (by rw [len32_one]; omega), if_neg (by decide), if_neg hz, Nat.mul_pow, ← Nat.pow_mul, rV_up _ _ _ _ _ _ (by decide)]
  have e : (1074 - 1074 * (k : Int) + ((x * k : Nat) : Int)) = ea * (k : Int) + 1074 := by
    rw [Int.natCast_mul, hx, Int.add_mul]; omega
  rw [e]
theorem dn_rat (d : Int) (ng : Bool) (a x k : Nat) (ea N : Int) (ha : a ≠ 0) (hx : (x : Int) = ea + 1074) (hN : N = -(k : Int)) (hl : len32 (a ^ k) ≤ 16384) : ratW d ng 1 (a ^ k) (ea * N) = dnW d ng (a * 2 ^ x) k := by
  have hz : a ^ k ≠ 0 := Nat.ne_of_gt (Nat.pow_pos (by omega))
  unfold ratW dnW
  rw [if_neg (by rw [len32_one]; omega), if_neg hz, if_neg (by decide), Nat.mul_pow, ← Nat.pow_mul, rV_down _ _ _ _ _ _ (by omega)]
  have e : (1074 + 1074 * (k : Int) - ((x * k : Nat) : Int)) = ea * N + 1074 := by
    rw [Int.natCast_mul, hx, Int.add_mul, hN, Int.mul_neg]; omega
  rw [e]
theorem mul_up (d : Int) (n : Bool) (A : Nat) (hA : A ≠ 0) : mulW d (n ^^ n) (A * A) = upW d false A 2 := by
  unfold mulW upW
  rw [if_neg (Nat.mul_ne_zero hA hA), show (n ^^ n) = false from by cases n <;> rfl, Nat.pow_two]
  rfl
theorem div_dn (d : Int) (n : Bool) (A B K : Nat) (hK : K = 1074) (hB : B = 2 ^ K) (hA : A ≠ 0) : divW d (false ^^ n) B A = dnW d n A 1 := by
  unfold divW dnW
  have hp := Nat.two_pow_pos K
  rw [if_neg (by omega), show (false ^^ n) = n from by cases n <;> rfl, Nat.pow_one, hB, show (2 : Nat) ^ K = 1 * 2 ^ K from (Nat.one_mul _).symm, rV_up _ _ _ _ _ _ (by omega)]
  rw [show (1074 : Int) + (K : Int) = 1074 + 1074 * ((1 : Nat) : Int) from by omega]
theorem rg_vV (m : Nat) (_h : m < 9218868437227405312) : rgU 53 (Fq.vV Ieee.double m) = m := by
  by_cases z : m = 0
  · subst z; rw [(vV_zero 0).2 rfl, rgU_zero]
  · unfold Fq.vV Fq.mM Fq.eE
    rw [Fq.binD]
    by_cases c : m < 4503599627370496
    · rw [if_pos c, if_pos c, Nat.pow_zero, Nat.mul_one]
      unfold rgU
      have hb : blen m ≤ 52 := by rw [blen_le_iff, show (2 : Nat) ^ 52 = 4503599627370496 from by decide]; exact c
      rw [show blen m - 53 = 0 from by omega]; simp
    · rw [if_neg c, if_neg c]
      have hb : blen (4503599627370496 + m % 4503599627370496) = 53 := blen_uniq _ 52 (by rw [show (2 : Nat) ^ 52 = 4503599627370496 from by decide]; omega) (by rw [show (2 : Nat) ^ (52 + 1) = 9007199254740992 from by decide]; omega)
      rw [rgU_mul 53 _ _ 0 (by omega) (by rw [hb]; simp) (by omega), Nat.pow_zero, Nat.mul_one, show (2 : Nat) ^ (53 - 1) = 4503599627370496 from by decide]
      omega
theorem rU_fl (d : Int) (A : Nat) (hA : FL (A : Int)) : rU d 53 A 1 = A := by
  obtain ⟨E, hE⟩ : ∃ E, E = rE 53 A 1 := ⟨_, rfl⟩
  obtain ⟨q, hq⟩ : ∃ q, q = rS 53 A 1 := ⟨_, rfl⟩
  obtain ⟨r, hr⟩ : ∃ r, r = rR 53 A 1 := ⟨_, rfl⟩
  obtain ⟨T, hT⟩ : ∃ T, T = 2 ^ E := ⟨_, rfl⟩
  have hTp : 0 < T := by rw [hT]; exact Nat.two_pow_pos E
  have hAq : A = q * T + r := by
    rw [hq, hr, hT, hE]; unfold rS rR; rw [Nat.one_mul, Nat.mul_comm]; exact (Nat.div_add_mod _ _).symm
  have hrl : r < T := by rw [hr, hT, hE]; unfold rR; rw [Nat.one_mul]; exact Nat.mod_lt _ (Nat.two_pow_pos _)
  have hfix := (rn_nr A).fix hA
  have h0 := rung_of A 0 E (q + (upw 0 q r T).toNat) hE (by rw [hq, hr, hT, hE, Nat.one_mul])
  rw [← hT] at h0
  have hr0 : r = 0 := by
    have e1 : (q + (upw 0 q r T).toNat) * T = q * T + r := by rw [← h0.1]; omega
    rw [Nat.add_mul] at e1
    cases hu : upw 0 q r T
    · rw [hu] at e1; simp at e1; omega
    · rw [hu] at e1; simp at e1; omega
  have hd := rung_of A d E (q + (upw d q r T).toNat) hE (by rw [hq, hr, hT, hE, Nat.one_mul])
  rw [← hT, hr0, upw_none _ _ _ hTp] at hd
  rw [hd.1, hAq, hr0]; simp
theorem up_one (d : Int) (n : Bool) (m : Nat) (hm : m < 9218868437227405312) (z : m ≠ 0) : upW d n (Fq.vV Ieee.double m) 1 = Fq.wD n m := by
  unfold upW
  have hfl : FL ((Fq.vV Ieee.double m : Nat) : Int) := by
    have h := iv_fl false m
    unfold Iv at h
    simpa using h
  have e : ∀ dd : Int, rV dd 53 (Fq.vV Ieee.double m ^ 1) 1 (1074 - 1074 * ((1 : Nat) : Int)) = Fq.vV Ieee.double m := fun dd => by
    rw [Nat.pow_one, show (1074 - 1074 * ((1 : Nat) : Int)) = 0 from by omega]
    unfold rV
    rw [show ((0 : Int)).toNat = 0 from rfl, show (-(0 : Int)).toNat = 0 from rfl, Nat.pow_zero, Nat.mul_one, Nat.mul_one]
    exact rU_fl dd _ hfl
  rw [e]
  have hbl : blen (Fq.vV Ieee.double m) ≤ 2098 := by
    obtain ⟨K, hK⟩ : ∃ K : Nat, K = 2098 := ⟨_, rfl⟩
    rw [← hK, blen_le_iff]
    unfold Fq.vV Fq.mM Fq.eE
    rw [Fq.binD]
    by_cases c : m < 4503599627370496
    · rw [if_pos c, if_pos c, Nat.pow_zero, Nat.mul_one]
      refine Nat.lt_of_lt_of_le c ?_
      rw [show (4503599627370496 : Nat) = 2 ^ 52 from by decide]
      exact Nat.pow_le_pow_right (by decide) (by omega)
    · rw [if_neg c, if_neg c]
      have h1 : (4503599627370496 + m % 4503599627370496) * 2 ^ (m / 4503599627370496 - 1) < 9007199254740992 * 2 ^ (m / 4503599627370496 - 1) := Nat.mul_lt_mul_of_pos_right (by omega) (Nat.two_pow_pos _)
      refine Nat.lt_of_lt_of_le h1 ?_
      rw [show (9007199254740992 : Nat) = 2 ^ 53 from by decide, ← Nat.pow_add]
      exact Nat.pow_le_pow_right (by decide) (by omega)
  unfold finU mdW Fq.wD
  rw [if_pos hbl, rg_vV m hm, if_neg z]
theorem vV_one (K : Nat) (hK : K = 1074) : Fq.vV Ieee.double 4607182418800017408 = 2 ^ K := by
  unfold Fq.vV Fq.mM Fq.eE
  rw [Fq.binD, if_neg (by decide), if_neg (by decide), show (4607182418800017408 : Nat) / 4503599627370496 - 1 = 1022 from by decide, show (4503599627370496 : Nat) + 4607182418800017408 % 4503599627370496 = 2 ^ 52 from by decide]
  obtain ⟨j, hj⟩ : ∃ j, j = 1022 := ⟨_, rfl⟩
  rw [← hj, ← Nat.pow_add, show 52 + j = K from by omega]
theorem pow_len (a k : Nat) (ha : a < 9007199254740992) (hk : k ≤ 1024) : len32 (a ^ k) ≤ 16384 := dlen _ _ (by
  have h : blen (a ^ k) ≤ 53 * k + 1 := by
    rw [blen_le_iff]
    have h1 : a ^ k ≤ (2 ^ 53) ^ k := Nat.pow_le_pow_left (by rw [show (2 : Nat) ^ 53 = 9007199254740992 from by decide]; omega) k
    rw [← Nat.pow_mul] at h1
    have h2 : 2 ^ (53 * k) < 2 ^ (53 * k + 1) := Nat.pow_lt_pow_right (by decide) (by omega)
    omega
  omega)
namespace Fq
theorem eqIn6 (a c : Nat) (w : World) : (Op.equalIn 9999 22 (.float .f64 a) (.float .f64 c)).run Tryz.prog w = .ok (FloatKind.f64.format.order a c == some Ordering.eq) w := by kernel_rfl
end Fq
def opP (x : Nat) : Nat := if x % 9223372036854775808 = 0 then 0 else if x < 9223372036854775808 then x + 9223372036854775808 else x - 9223372036854775808
theorem opP_w (n : Bool) (m : Nat) (hm : m < 9223372036854775808) : opP (Fq.wD n m) = mnP n m := by
  unfold opP mnP Fq.pla Fq.wD
  cases n <;> simp <;> repeat' split
  all_goals omega
set_option maxRecDepth 20000 in
set_option maxHeartbeats 400000 in
theorem minus6_ (n : Bool) (m : Nat) (hm : m ≤ 9218868437227405312) (w : World) : Calls Tryz.prog 67 #[.float .f64 (Fq.wD n m)] w fun e w' => e = .returned (.float .f64 (opP (Fq.wD n m))) ∧ w' = w := by
  have e1 := sub_zero_w n m hm
  rw [← opP_w n m (by omega)] at e1
  generalize Fq.wD n m = X at e1 ⊢
  generalize opP X = Z at e1 ⊢
  have g1 : ∀ w : World, (binOp .sub 22 (.float .f64 0) (.float .f64 X)).run Tryz.prog w = .ok (.float .f64 Z) w := fun w => run_float_arith w .sub 22 .f64 0 X Z e1
  clear e1 hm
  go_enter Tryz.func67, Tryz.ntmps67
  go_wp2
  exact bodyPost_ret (v := .float .f64 Z) (by simp [results, Tryz.results67, go_sem]) rfl ⟨rfl, rfl⟩
theorem Fq.H2.two0 (w : World) (a b c d : Value) (s t : TypeId) : Fq.H2 ((w.alloc (.cells #[a, b] s)).alloc (.cells #[c, d] t)) (w.heap.size + 1) c d := by
  unfold Fq.H2; simp [go_sem]
set_option maxRecDepth 20000 in
set_option maxHeartbeats 1000000 in
theorem neg6c_ (a b LO HI NL NH : Nat) (hr : ∀ w : World, Calls Tryz.prog 41 #[.agg #[.float .f64 a, .float .f64 b]] w fun e w' => e = .returned (.agg #[.float .f64 LO, .float .f64 HI]) ∧ Kp w w') (h1 : ∀ w : World, Calls Tryz.prog 67 #[.float .f64 LO] w fun e w' => e = .returned (.float .f64 NL) ∧ w' = w) (h2 : ∀ w : World, Calls Tryz.prog 67 #[.float .f64 HI] w fun e w' => e = .returned (.float .f64 NH) ∧ w' = w) (w : World) : Calls Tryz.prog 30 #[.agg #[.float .f64 a, .float .f64 b]] w fun e w' => e = .returned (.agg #[.float .f64 NH, .float .f64 NL]) ∧ Kp w w' := by
  go_enter Tryz.func30, Tryz.ntmps30
  go_wp2_with (first | (go_at_call 41; refine (hr _).mono ?_; rintro e w1 ⟨rfl, g1⟩; have q0 := Fq.H2.keep (Fq.H2.past (Fq.H2.new w (.float .f64 a) (.float .f64 b) 25) #[.float .f64 0, .float .f64 0] 25) g1; have q1 : Fq.H2 w1 (w.heap.size + 1) (.float .f64 0) (.float .f64 0) := Fq.H2.keep (Fq.H2.two0 w (.float .f64 a) (.float .f64 b) (.float .f64 0) (.float .f64 0) 25 25) g1; obtain ⟨x0, x1, x2, x3⟩ := id q0; obtain ⟨y0, y1, y2, y3⟩ := id q1))
  have kw : Kp w w1 := Kp.trans (((Kp.refl w).alloc _).alloc _) g1
  have qx := Fq.H2.put q0 (.float .f64 LO) (.float .f64 HI)
  have qy := Fq.H2.far q1 (show w.heap.size ≠ w.heap.size + 1 by omega) (.float .f64 LO) (.float .f64 HI)
  have kW : Kp w ((w1.setCell ⟨w.heap.size, 0, none⟩ (.float .f64 LO)).setCell ⟨w.heap.size, 1, none⟩ (.float .f64 HI)) := (kw.setCell (Nat.le_refl _) _).setCell (Nat.le_refl _) _
  generalize hW : (w1.setCell ⟨w.heap.size, 0, none⟩ (.float .f64 LO)).setCell ⟨w.heap.size, 1, none⟩ (.float .f64 HI) = W at qx qy kW ⊢
  clear hW kw q0 q1 g1 x0 x1 x2 x3 y0 y1 y2 y3
  obtain ⟨x0, x1, x2, x3⟩ := id qx
  obtain ⟨y0, y1, y2, y3⟩ := id qy
  go_region_held3 (fun w' => w'.cell? ⟨w.heap.size, 0, none⟩ = some (.float .f64 LO) ∧ w'.cell? ⟨w.heap.size, 1, none⟩ = some (.float .f64 HI)) (first | (exact ⟨x0, x1⟩) | (exact ⟨(World.cell?_setCell_far _ _ _ _ (by simp)).trans ((World.cell?_setCell_far _ _ _ _ (by simp)).trans x0), (World.cell?_setCell_far _ _ _ _ (by simp)).trans ((World.cell?_setCell_far _ _ _ _ (by simp)).trans x1)⟩)) (first | (go_at_call_of 67 (Value.float .f64 HI); refine (h2 _).mono ?_; rintro e w' ⟨rfl, rfl⟩) | (go_at_call_of 67 (Value.float .f64 LO); refine (h1 _).mono ?_; rintro e w' ⟨rfl, rfl⟩))
  go_wp2
  exact bodyPost_ret (v := .agg #[.float .f64 NH, .float .f64 NL]) (by simp [results, Tryz.results30, go_sem, y0, y1]) rfl ⟨rfl, (by repeat (with_reducible (first | assumption | exact Kp.refl _ | apply Kp.drew | apply Kp.alloc | apply Kp.drewN | (refine Kp.setCell ?_ (by first | omega | (simp <;> omega)) _) | (refine Kp.trans ?_ (by assumption)))))⟩
end Go.Proofs.YthdnajcgdngmcaaGreatDoor
