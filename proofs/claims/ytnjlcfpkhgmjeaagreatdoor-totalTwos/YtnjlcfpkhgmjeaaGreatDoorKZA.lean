import Derived.Test.YtnjlcfpkhgmjeaaGreatDoorKU1
import Derived.Test.YtnjlcfpkhgmjeaaGreatDoorKU2
import Derived.Test.YtnjlcfpkhgmjeaaGreatDoorKZC
namespace Go.Proofs.YtnjlcfpkhgmjeaaGreatDoor
open Go.RowKit
set_option maxRecDepth 20000 in
set_option maxHeartbeats 1000000 in
theorem odd_ (E : Int) (s o sz : Bool) (r ro K : Nat) (hK : 53 ≤ K) (hK2 : K ≤ 2096) (hv : E.natAbs < 2 ^ K) (hr1 : r < 9218868437227405312) (hro : ro < 9218868437227405312) (hr : r = rgU 53 (rU 0 53 E.natAbs 1)) (hs : s = (if E = 0 then sz else decide (E < 0))) (ho : Iv o ro = E - Iv s r) :
    ∃ (tn : Bool) (tr : Nat), tr < 9218868437227405312 ∧ (∀ w : World, Calls Tryz.prog 70 #[.float .f64 (Fq.wD s r), .float .f64 (Fq.wD o ro)] w fun e w' => e = .returned (.float .f64 (Fq.wD tn tr)) ∧ Kp w w') ∧ (Iv tn tr = E ∨ (¬ FL E ∧ ∃ b k : Nat, k % 2 = 1 ∧ 4503599627370496 * 2 ^ b ≤ E.natAbs ∧ (Iv tn tr = ((k * 2 ^ b : Nat) : Int) ∨ Iv tn tr = -((k * 2 ^ b : Nat) : Int)) ∧ (E - Iv tn tr).natAbs < 2 ^ b)) := by
  have o1 := Fq.eqzD o ro (by omega)
  by_cases hf : FL E
  · obtain ⟨s9, r9, T9, _, _, n9, e9, e9', _⟩ := op_nr E sz K hK (by omega) hv
    rw [show s9 = s from e9'.trans hs.symm, show r9 = r from e9.trans hr.symm] at n9
    have hfix := n9.fix hf
    have hz : ro = 0 := by
      have h0 : Iv o ro = 0 := by omega
      have := iv_abs o ro
      rw [h0] at this
      exact (vV_zero ro).1 this.symm
    refine ⟨s, r, hr1, fun w => ?_, Or.inl hfix⟩
    rw [show (ro == 0) = true from by simp [hz]] at o1
    obtain ⟨N, hN⟩ : ∃ N, N = Fq.wD s r := ⟨_, rfl⟩
    obtain ⟨O, hO⟩ : ∃ O, O = Fq.wD o ro := ⟨_, rfl⟩
    rw [← hO] at o1
    rw [← hN, ← hO]
    clear hN hO hz hfix n9 e9 e9' hf hv hr hs ho hK hK2 hr1 hro
    go_enter Tryz.func70, Tryz.ntmps70
    go_wp2
    exact bodyPost_ret (v := .float .f64 N) (by simp [results, Tryz.results70, go_sem]) rfl ⟨rfl, Kp.refl _⟩
  · obtain ⟨tn, tr, b, k, t1, k1, k2, k3, k4, k5, S1, S2, S3⟩ := odd_words E s o sz r ro K hK hK2 hv hr hs ho hf
    refine ⟨tn, tr, t1, fun w => ?_, Or.inr ⟨hf, b, k, k1, k2, ?_, k4⟩⟩
    · have hz : ro ≠ 0 := fun h => k5 (by rw [h]; unfold Fq.plz; cases o <;> rfl)
      rw [show (ro == 0) = false from by simp [hz]] at o1
      have hz0 : (0 : Nat) = Fq.wD false 0 := rfl
      have hord : FloatKind.f64.format.order (Fq.wD o ro) 0 = some (compare (Fq.plz o ro) 0) := by
        rw [hz0, Fq.ordD o false ro 0 (by omega) (by decide)]; rfl
      have hup := fun h => Fq.up_d s r (by omega) h w
      have hdn := fun h => Fq.dn_d s r (by omega) h w
      have hpar : (Fq.wD s r) % 2 = r % 2 := by unfold Fq.wD; split <;> omega
      obtain ⟨N, hN⟩ : ∃ N, N = Fq.wD s r := ⟨_, rfl⟩
      obtain ⟨O, hO⟩ : ∃ O, O = Fq.wD o ro := ⟨_, rfl⟩
      obtain ⟨G, hG⟩ : ∃ G, G = Fq.wD tn tr := ⟨_, rfl⟩
      obtain ⟨P, hP⟩ : ∃ P, P = Fq.plz o ro := ⟨_, rfl⟩
      have hfb := Fq.fb64 N
      rw [← hN, ← hG] at S1
      rw [← hG] at S2 S3
      rw [← hP] at S2 S3 hord k5
      rw [← hO] at o1 hord
      rw [← hN] at hup hdn hpar
      rw [← hN, ← hO, ← hG]
      clear hN hO hG hP hz hz0 hf hv hr hs ho hK hK2 hr1 hro k1 k2 k3 k4 t1
      by_cases c : r % 2 = 1
      · have e := S1 c
        have p1 : ((N : Int) % 2 == 1) = true := by simp; omega
        have p2 : ((N : Int).tmod 2 == 1) = true := by rw [Int.tmod_eq_emod_of_nonneg (by omega)]; exact p1
        have p3 : (N : Int).tmod 2 = 1 := by rw [Int.tmod_eq_emod_of_nonneg (by omega)]; omega
        rw [← e]
        clear S1 S2 S3 hup hdn hord hpar c e k5
        go_enter Tryz.func70, Tryz.ntmps70
        go_wp2
        exact bodyPost_ret (v := .float .f64 N) (by simp [results, Tryz.results70, go_sem]) rfl ⟨rfl, Kp.refl _⟩
      · have p1 : ((N : Int) % 2 == 1) = false := by simp; omega
        have p3 : (N : Int).tmod 2 = 0 := by rw [Int.tmod_eq_emod_of_nonneg (by omega)]; omega
        have p2 : ((N : Int).tmod 2 == 1) = false := by rw [p3]; rfl
        by_cases c2 : P < 0
        · obtain ⟨a1, a2⟩ := S2 (by omega) c2
          have hc := hdn a1
          rw [a2] at hc
          have o2 : (FloatKind.f64.format.order O 0 == some .lt) = true := by rw [hord, Int.compare_eq_lt.2 c2]; rfl
          clear S1 S2 S3 hup hdn hord hpar c c2 a1 a2 k5
          go_enter Tryz.func70, Tryz.ntmps70
          go_wp2_with fail
          refine hc.mono ?_; rintro e w1 ⟨rfl, hk⟩
          clear hc
          go_wp2
          exact bodyPost_ret (v := .float .f64 G) (by simp [results, Tryz.results70, go_sem]) rfl ⟨rfl, hk⟩
        · obtain ⟨a1, a2⟩ := S3 (by omega) (by omega)
          have hc := hup a1
          rw [a2] at hc
          have o2 : (FloatKind.f64.format.order O 0 == some .lt) = false := by rw [hord, Int.compare_eq_gt.2 (by omega)]; rfl
          clear S1 S2 S3 hup hdn hord hpar c c2 a1 a2 k5
          go_enter Tryz.func70, Tryz.ntmps70
          go_wp2_with fail
          refine hc.mono ?_; rintro e w1 ⟨rfl, hk⟩
          clear hc
          go_wp2
          exact bodyPost_ret (v := .float .f64 G) (by simp [results, Tryz.results70, go_sem]) rfl ⟨rfl, hk⟩
    · rw [k3]
      by_cases c : E < 0
      · right; rw [if_pos c]
      · left; rw [if_neg c]
set_option maxRecDepth 20000 in
set_option maxHeartbeats 1000000 in
theorem fused_ (n n' nz : Bool) (m m' mz : Nat) (c1 : 2580562586483294208 ≤ m ∧ m ≤ 6633802251116740608) (c2 : 2580562586483294208 ≤ m' ∧ m' ≤ 6633802251116740608) (cz : mz ≤ 9110782046170513408) (L : Nat) (hL : L = 1074) :
    ∃ (V : Int) (hn tn : Bool) (hr tr : Nat), V * ((2 ^ L : Nat) : Int) = Iv n m * Iv n' m' + Iv nz mz * ((2 ^ L : Nat) : Int) ∧ hr < 9218868437227405312 ∧ tr < 9218868437227405312 ∧ (∀ w : World, Calls Tryz.prog 39 #[.float .f64 (Fq.wD n m), .float .f64 (Fq.wD n' m'), .float .f64 (Fq.wD nz mz)] w fun e w' => e = .returned (.tuple #[.float .f64 (Fq.wD hn hr), .float .f64 (Fq.wD tn tr)]) ∧ Kp w w') ∧ ∀ d, sumW d (Iv hn hr + Iv tn tr) = sumW d V := by
  obtain ⟨e, e1, e2, u1, v1, v2⟩ := mild_unit n m c1.1 c1.2
  obtain ⟨e', e3, e4, u2, v3, v4⟩ := mild_unit n' m' c2.1 c2.2
  obtain ⟨V1, ps, os, pr, or_, K0, zV, t0, a0, b0, q0, q1, hex0, K1, K2, kV⟩ := twoProduct_ n n' m m' e e' (by omega) (by omega) (by omega) (by omega) (by omega) (by omega) u1 v1 v2 u2 v3 v4 L hL
  obtain ⟨K, hK⟩ : ∃ K : Nat, K = 2075 := ⟨_, rfl⟩
  have kz : (Iv nz mz).natAbs < 2 ^ K := by rw [iv_abs]; exact vV_lt mz cz K hK
  -- the product is far from the ends
  have kV1 : V1.natAbs < 2 ^ (K - 2) := by
    have g1 := abs_v n n' m m' L V1 zV
    rw [← iv_abs n m, ← iv_abs n' m'] at g1
    have g2 := Nat.mul_lt_mul'' v2 v4
    rw [← g1, sq_rearr, ← pw53, ← Nat.pow_add, ← Nat.pow_add, ← Nat.pow_add] at g2
    have g3 : 2 ^ (53 + 53 + (e + e')) ≤ 2 ^ (K - 2) * 2 ^ L := by
      rw [← Nat.pow_add]; exact Nat.pow_le_pow_right (by decide) (by omega)
    exact Nat.lt_of_mul_lt_mul_right (Nat.lt_of_lt_of_le g2 g3)
  obtain ⟨s9, r9, T0, _, _, n0, x9, x9', l0⟩ := op_nr V1 (n ^^ n') (K - 2) (by omega) (by omega) kV1
  rw [show s9 = ps from x9'.trans q1.symm, show r9 = pr from x9.trans q0.symm] at n0 l0
  have ko : (Iv os or_).natAbs < 2 ^ K := by
    rw [hex0]
    have h := (lt_sub9 kV1 l0 (by omega)).2
    rw [show K - 2 + 1 + 1 = K from by omega] at h
    exact h
  -- the sum of z and the rest
  obtain ⟨ss, ls, sr, lr, t1, a1, b1, q2, q3, hex1⟩ := twoSum_ nz os mz or_ K (by omega) (by omega) (by omega) b0 kz ko _ rfl
  have kS1 := (lt_add9 kz ko (Nat.le_refl K)).1
  obtain ⟨s8, r8, T1, _, _, n1, x8, x8', l1⟩ := op_nr (Iv nz mz + Iv os or_) (nz && os) (K + 1) (by omega) (by omega) kS1
  rw [show s8 = ss from x8'.trans q3.symm, show r8 = sr from x8.trans q2.symm] at n1 l1
  have kl : (Iv ls lr).natAbs < 2 ^ (K + 3) := by rw [hex1]; exact (lt_sub9 kS1 l1 (by omega)).2
  have kP : (Iv ps pr).natAbs < 2 ^ (K + 2) := Nat.lt_of_lt_of_le l0 (Nat.pow_le_pow_right (by decide) (by omega))
  -- the head
  obtain ⟨hn, gs, hr, gr, t2, a2, b2, q4, q5, hex2⟩ := twoSum_ ps ss pr sr (K + 2) (by omega) (by omega) a0 a1 kP l1 _ rfl
  have kS2 := (lt_add9 kP l1 (Nat.le_refl (K + 2))).1
  obtain ⟨s7, r7, T2, _, _, n2, x7, x7', l2⟩ := op_nr (Iv ps pr + Iv ss sr) (ps && ss) (K + 3) (by omega) (by omega) kS2
  rw [show s7 = hn from x7'.trans q5.symm, show r7 = hr from x7.trans q4.symm] at n2 l2
  have kg : (Iv gs gr).natAbs < 2 ^ (K + 5) := by rw [hex2]; exact (lt_sub9 kS2 l2 (by omega)).2
  have kl5 : (Iv ls lr).natAbs < 2 ^ (K + 5) := Nat.lt_of_lt_of_le kl (Nat.pow_le_pow_right (by decide) (by omega))
  -- the tail
  obtain ⟨fs, ns, fr, nr, t3, a3, b3, q6, q7, hex3⟩ := twoSum_ gs ls gr lr (K + 5) (by omega) (by omega) b2 b1 kg kl5 _ rfl
  have kS3 := (lt_add9 kg kl5 (Nat.le_refl (K + 5))).1
  obtain ⟨tn, tr, t4, h5, h6⟩ := odd_ (Iv gs gr + Iv ls lr) fs ns (gs && ls) fr nr (K + 6) (by omega) (by omega) kS3 a3 b3 q6 q7 hex3
  have hV : V1 + Iv nz mz = Iv hn hr + (Iv gs gr + Iv ls lr) := by omega
  refine ⟨V1 + Iv nz mz, hn, tn, hr, tr, by rw [Int.add_mul, zV], a2, t4, fun w => ?_, fun d => ?_⟩
  · clear h6 hV kS3 q6 q7 hex3 a3 b3 kl5 kg n2 l2 x7 x7' kS2 q4 q5 hex2 a2 b2 kP kl n1 l1 x8 x8' kS1 q2 q3 hex1 a1 b1 ko n0 l0 x9 x9' kV1 kz hK zV a0 b0 q0 q1 hex0 K1 K2 kV u1 v1 v2 u2 v3 v4 c1 c2 cz hL t4 e1 e2 e3 e4
    obtain ⟨X, hX⟩ : ∃ X, X = Fq.wD n m := ⟨_, rfl⟩
    obtain ⟨Y, hY⟩ : ∃ Y, Y = Fq.wD n' m' := ⟨_, rfl⟩
    obtain ⟨Z, hZ⟩ : ∃ Z, Z = Fq.wD nz mz := ⟨_, rfl⟩
    obtain ⟨P, hP⟩ : ∃ P, P = Fq.wD ps pr := ⟨_, rfl⟩
    obtain ⟨O, hO⟩ : ∃ O, O = Fq.wD os or_ := ⟨_, rfl⟩
    obtain ⟨S, hS⟩ : ∃ S, S = Fq.wD ss sr := ⟨_, rfl⟩
    obtain ⟨Q, hQ⟩ : ∃ Q, Q = Fq.wD ls lr := ⟨_, rfl⟩
    obtain ⟨H, hH⟩ : ∃ H, H = Fq.wD hn hr := ⟨_, rfl⟩
    obtain ⟨G, hG⟩ : ∃ G, G = Fq.wD gs gr := ⟨_, rfl⟩
    obtain ⟨D, hD⟩ : ∃ D, D = Fq.wD fs fr := ⟨_, rfl⟩
    obtain ⟨M, hM⟩ : ∃ M, M = Fq.wD ns nr := ⟨_, rfl⟩
    obtain ⟨U, hU⟩ : ∃ U, U = Fq.wD tn tr := ⟨_, rfl⟩
    rw [← hX, ← hY, ← hP, ← hO] at t0
    rw [← hZ, ← hO, ← hS, ← hQ] at t1
    rw [← hP, ← hS, ← hH, ← hG] at t2
    rw [← hG, ← hQ, ← hD, ← hM] at t3
    rw [← hD, ← hM, ← hU] at h5
    rw [← hX, ← hY, ← hZ, ← hH, ← hU]
    clear hX hY hZ hP hO hS hQ hH hG hD hM hU
    go_enter Tryz.func39, Tryz.ntmps39
    go_wp2_with fail
    refine (t0 _).mono ?_; rintro e w' ⟨rfl, hw'⟩; obtain rfl := hw'.symm; clear hw' t0
    go_wp2_with fail
    refine (t1 _).mono ?_; rintro e w' ⟨rfl, hw'⟩; obtain rfl := hw'.symm; clear hw' t1
    go_wp2_with fail
    refine (t2 _).mono ?_; rintro e w' ⟨rfl, hw'⟩; obtain rfl := hw'.symm; clear hw' t2
    go_wp2_with fail
    refine (t3 _).mono ?_; rintro e w' ⟨rfl, hw'⟩; obtain rfl := hw'.symm; clear hw' t3
    go_wp2_with fail
    refine (h5 _).mono ?_; rintro e w1 ⟨rfl, hk⟩; clear h5
    go_wp2
    exact bodyPost_ret (v := .tuple #[.float .f64 H, .float .f64 U]) (by simp [results, Tryz.results39, go_sem]) rfl ⟨rfl, hk⟩
  · rw [hV]
    rcases h6 with h | ⟨hnf, b, k, k1, k2, k3, k4⟩
    · rw [h]
    · obtain ⟨f1, f2⟩ := fuse_facts (iv_fl ps pr) (iv_fl ls lr) n1 hex1 n2 hex2 rfl hnf
      exact fuse_sum _ _ _ T2 b k n2.two n2.dvd f1 f2 k2 k1 k3 k4 d
set_option maxRecDepth 20000 in
set_option maxHeartbeats 1000000 in
theorem pfmaQ_ (d : Int) (n n' nz : Bool) (m m' mz : Nat) (c1 : (2580562586483294208 ≤ m ∧ m ≤ 6633802251116740608)) (c2 : (2580562586483294208 ≤ m' ∧ m' ≤ 6633802251116740608)) (cz : mz ≤ 9110782046170513408) (L : Nat) (hL : L = 1074) (w : World) (hT : Tab w) (hQ : Fq.Tab w) (hd1 : -9223372036854775808 ≤ d) (hd2 : d < 9223372036854775808) :
    Calls Tryz.prog 12 #[.int .i64 d, .float .f64 (Fq.wD n m), .float .f64 (Fq.wD n' m'), .float .f64 (Fq.wD nz mz)] w fun e w' => e = .returned (.float .f64 (fmaW d (Iv n m * Iv n' m' + Iv nz mz * ((2 ^ L : Nat) : Int)))) ∧ Kp w w' := by
  have h1 := mild_ n m (by omega) w
  have h2 := mild_ n' m' (by omega) w
  have h3 := tame_ nz mz (by omega) w
  rw [decide_eq_true c1] at h1
  rw [decide_eq_true c2] at h2
  rw [decide_eq_true cz] at h3
  obtain ⟨V, hn, tn, hr, tr, zV, r1, r2, h4, hsum⟩ := fused_ n n' nz m m' mz c1 c2 cz L hL
  have h5 := fun w1 (k : Kp w w1) => paddF_ d hn tn hr tr r1 r2 w1 (hT.grown k) (Fq.Tab.grown hQ k) hd1 hd2
  rw [hsum d, sum_fma d V _ L hL rfl, zV] at h5
  have h4w := h4 w
  obtain ⟨R, hR⟩ : ∃ R, R = fmaW d (Iv n m * Iv n' m' + Iv nz mz * ((2 ^ L : Nat) : Int)) := ⟨_, rfl⟩
  obtain ⟨X, hX⟩ : ∃ X, X = Fq.wD n m := ⟨_, rfl⟩
  obtain ⟨Y, hY⟩ : ∃ Y, Y = Fq.wD n' m' := ⟨_, rfl⟩
  obtain ⟨Z, hZ⟩ : ∃ Z, Z = Fq.wD nz mz := ⟨_, rfl⟩
  obtain ⟨H, hH⟩ : ∃ H, H = Fq.wD hn hr := ⟨_, rfl⟩
  obtain ⟨O, hO⟩ : ∃ O, O = Fq.wD tn tr := ⟨_, rfl⟩
  rw [← hX] at h1
  rw [← hY] at h2
  rw [← hZ] at h3
  rw [← hX, ← hY, ← hZ, ← hH, ← hO] at h4w
  rw [← hH, ← hO, ← hR] at h5
  rw [← hX, ← hY, ← hZ, ← hR]
  clear hX hY hZ hH hO hR c1 c2 cz zV r1 r2 h4 hsum hT hQ hd1 hd2 hL
  go_enter Tryz.func12, Tryz.ntmps12
  go_wp2
  refine wp_scope_straight ?_
  go_wp2_with fail
  refine h1.mono ?_; rintro e w' ⟨rfl, hw'⟩; obtain rfl := hw'.symm; clear hw' h1
  go_wp2_with fail
  refine h2.mono ?_; rintro e w' ⟨rfl, hw'⟩; obtain rfl := hw'.symm; clear hw' h2
  go_wp2_with fail
  refine h3.mono ?_; rintro e w' ⟨rfl, hw'⟩; obtain rfl := hw'.symm; clear hw' h3
  go_wp2_with fail
  refine h4w.mono ?_; rintro e w1 ⟨rfl, k1⟩
  have h6 := h5 w1 k1
  clear h4w h5
  go_wp2_with fail
  refine h6.mono ?_; rintro e w2 ⟨rfl, k2⟩
  have kk := k1.trans k2
  clear h6 k1 k2
  go_wp2
  try rw [Exit.noGoto_ret]
  exact bodyPost_ret (v := .float .f64 R) (by simp [results, Tryz.results12, go_sem]) rfl ⟨rfl, kk⟩
set_option maxRecDepth 20000 in
set_option maxHeartbeats 1000000 in
theorem pfmaE_ (d : Int) (n n' nz : Bool) (m m' mz : Nat) (hm : m < 9218868437227405312) (hm' : m' < 9218868437227405312) (hmz : mz < 9218868437227405312) (ct : ¬ ((2580562586483294208 ≤ m ∧ m ≤ 6633802251116740608) ∧ (2580562586483294208 ≤ m' ∧ m' ≤ 6633802251116740608) ∧ mz ≤ 9110782046170513408)) (L : Nat) (hL : L = 1074) (w : World) (hT : Tab w) (hQ : Fq.Tab w) (hd1 : -9223372036854775808 ≤ d) (hd2 : d < 9223372036854775808) :
    Calls Tryz.prog 12 #[.int .i64 d, .float .f64 (Fq.wD n m), .float .f64 (Fq.wD n' m'), .float .f64 (Fq.wD nz mz)] w fun e w' => e = .returned (.float .f64 (fmaW d (Iv n m * Iv n' m' + Iv nz mz * ((2 ^ L : Nat) : Int)))) ∧ Kp w w' := by
  have h1 := mild_ n m (by omega) w
  have h2 := mild_ n' m' (by omega) w
  have h3 := tame_ nz mz (by omega) w
  have g1 := finite_ n m (by omega) w
  have g2 := finite_ n' m' (by omega) w
  have g3 := finite_ nz mz (by omega) w
  rw [decide_eq_true hm] at g1
  rw [decide_eq_true hm'] at g2
  rw [decide_eq_true hmz] at g3
  obtain ⟨a, ea, a1, a2, a3, a4, ta⟩ := take_ n m hm
  obtain ⟨b, eb, b1, b2, b3, b4, tb⟩ := take_ n' m' hm'
  obtain ⟨c, ec, c1, c2, c3, c4, tc⟩ := take_ nz mz hmz
  obtain ⟨s, hs⟩ : ∃ s, s = (n && !(m == 0)) := ⟨_, rfl⟩
  obtain ⟨t, ht⟩ : ∃ t, t = (n' && !(m' == 0)) := ⟨_, rfl⟩
  obtain ⟨u, hu⟩ : ∃ u, u = (nz && !(mz == 0)) := ⟨_, rfl⟩
  rw [← hs] at ta
  rw [← ht] at tb
  rw [← hu] at tc
  have sv : ∀ (q : Bool) (p : Nat), Iv q p = if (q && !(p == 0)) then -((Fq.vV Ieee.double p : Nat) : Int) else ((Fq.vV Ieee.double p : Nat) : Int) := fun q p => by
    unfold Iv
    by_cases z : p = 0
    · rw [(vV_zero p).2 z]; cases q <;> simp
    · rw [show (q && !(p == 0)) = q from by simp [z]]
  have iX := sv n m
  have iY := sv n' m'
  have iZ := sv nz mz
  rw [← hs, ← a1] at iX
  rw [← ht, ← b1] at iY
  rw [← hu, ← c1] at iZ
  have ba : blen a ≤ 53 := by rw [blen_le_iff, show (2 : Nat) ^ 53 = 9007199254740992 from by decide]; exact a4
  have bb : blen b ≤ 53 := by rw [blen_le_iff, show (2 : Nat) ^ 53 = 9007199254740992 from by decide]; exact b4
  have bc : blen c ≤ 53 := by rw [blen_le_iff, show (2 : Nat) ^ 53 = 9007199254740992 from by decide]; exact c4
  have hab : blen (a * b) ≤ 106 := by
    have h : blen (a * b) ≤ 53 + 53 := by
      rw [blen_le_iff, Nat.pow_add]
      exact Nat.mul_lt_mul'' ((blen_le_iff a 53).1 ba) ((blen_le_iff b 53).1 bb)
    omega
  obtain ⟨ng, cc, low, f1, f2, hp⟩ := plusAnyW_ (a * b) c (ea + eb) ec hab (by omega) (by omega) (by omega) (by omega) (by omega) (s ^^ t) u (Iv n m * Iv n' m') (Iv nz mz * ((2 ^ L : Nat) : Int)) (by
      rw [iX, iY, show (ea + eb + 2148).toNat = (ea + 1074).toNat + (eb + 1074).toNat from by omega, Nat.pow_add]
      have e : a * b * (2 ^ (ea + 1074).toNat * 2 ^ (eb + 1074).toNat) = a * 2 ^ (ea + 1074).toNat * (b * 2 ^ (eb + 1074).toNat) := by ac_rfl
      rw [e, Int.natCast_mul]
      cases s <;> cases t <;> simp [Int.neg_mul, Int.mul_neg]) (by
      rw [iZ, show (ec + 2148).toNat = (ec + 1074).toNat + L from by omega, Nat.pow_add, ← Nat.mul_assoc, Int.natCast_mul]
      cases u <;> simp [Int.neg_mul])
  obtain ⟨R, hR⟩ : ∃ R, R = fmaW d (Iv n m * Iv n' m' + Iv nz mz * ((2 ^ L : Nat) : Int)) := ⟨_, rfl⟩
  have hr : ∀ (v : Value) (w1 : World), Kp w w1 → Ls w1 v (dig cc) → Calls Tryz.prog 34 #[.agg #[.bool ng, v, .int .i64 low], .int .i64 d] w1 fun e w' => e = .returned (.float .f64 R) ∧ Kp w1 w' := fun v w1 k1 l1 => by
    rw [hR, ← f1 d]; exact rounded_ d ng cc low v w1 l1 (hT.grown k1) (Fq.Tab.grown hQ k1) hd1 hd2 f2
  have hm9 := fun va vb w1 la lb => times_ s t a b ea eb va vb w1 la lb a4 b4 a2 a3 b2 b3
  obtain ⟨X, hX⟩ : ∃ X, X = Fq.wD n m := ⟨_, rfl⟩
  obtain ⟨Y, hY⟩ : ∃ Y, Y = Fq.wD n' m' := ⟨_, rfl⟩
  obtain ⟨Z, hZ⟩ : ∃ Z, Z = Fq.wD nz mz := ⟨_, rfl⟩
  rw [← hX] at h1 g1 ta
  rw [← hY] at h2 g2 tb
  rw [← hZ] at h3 g3 tc
  rw [← hX, ← hY, ← hZ, ← hR]
  have ta1 := ta w hQ
  have tb1 := fun w1 (k : Kp w w1) => tb w1 (Fq.Tab.grown hQ k)
  have tc1 := fun w1 (k : Kp w w1) => tc w1 (Fq.Tab.grown hQ k)
  obtain ⟨ee, hee⟩ : ∃ ee, ee = ea + eb := ⟨_, rfl⟩
  obtain ⟨st, hst⟩ : ∃ st, st = (s ^^ t) := ⟨_, rfl⟩
  rw [← hee, ← hst] at hp
  simp only [← hee, ← hst] at hm9
  have HT : Hid ((2580562586483294208 ≤ m ∧ m ≤ 6633802251116740608) → (2580562586483294208 ≤ m' ∧ m' ≤ 6633802251116740608) → ¬ mz ≤ 9110782046170513408) := fun h h' h2 => ct ⟨h, h', h2⟩
  clear hX hY hZ hR f1 f2 a1 a2 a3 a4 b1 b2 b3 b4 c1 c2 c3 c4 ta tb tc hT hQ hd1 hd2 ct hm hm' hmz hs ht hu sv iX iY iZ ba bb bc hab hee hst hL
  go_enter Tryz.func12, Tryz.ntmps12
  go_wp2
  refine wp_scope_jumps 0 (fun a' w' => w' = w ∧ ∃ u4 u5 u6 u7 u8 u9 u10 u11 u12 u13 u14 u15 u16 u17 u18 u19 u20 u21 u22 u23 u24 u25 u26 u27 u28 u29 u30 u31 u32 u33 u34 u35 u36 u37 u38 u39 u40 u41 u42 u43 u44 u45 u46 u47 u48 u49 u50 u51 u52 u53 u54 u55 u56 u57 u58 u59 u60 u61 u62 u63 : Value, a' = ⟨#[.int .i64 d, .float .f64 X, .float .f64 Y, .float .f64 Z, u4, u5, u6, u7, u8, u9, u10, u11, u12, u13, u14, u15, u16, u17, u18, u19, u20, u21, u22, u23, u24, u25, u26, u27, u28, u29, u30, u31, u32, u33, u34, u35, u36, u37, u38, u39, u40, u41, u42, u43, u44, u45, u46, u47, u48, u49, u50, u51, u52, u53, u54, u55, u56, u57, u58, u59, u60, u61, u62, u63], []⟩) (fun _ _ => 0) rfl ?_ ?_
  · clear g1 g2 g3 ta1 tb1 tc1 hp hr hm9
    by_cases c1 : (2580562586483294208 ≤ m ∧ m ≤ 6633802251116740608)
    · rw [decide_eq_true c1] at h1
      by_cases c2 : (2580562586483294208 ≤ m' ∧ m' ≤ 6633802251116740608)
      · rw [decide_eq_true c2] at h2
        rw [decide_eq_false (HT.out c1 c2)] at h3
        clear c1 c2 HT
        go_wp2_with fail
        refine h1.mono ?_; rintro e w' ⟨rfl, hw'⟩; obtain rfl := hw'.symm; clear hw' h1
        go_wp2_with fail
        refine h2.mono ?_; rintro e w' ⟨rfl, hw'⟩; obtain rfl := hw'.symm; clear hw' h2
        go_wp2_with fail
        refine h3.mono ?_; rintro e w' ⟨rfl, hw'⟩; obtain rfl := hw'.symm; clear hw' h3
        go_wp2_with fail
        go_step3
        exact ⟨rfl, rfl, _, _, _, _, _, _, _, _, _, _, _, _, _, _, _, _, _, _, _, _, _, _, _, _, _, _, _, _, _, _, _, _, _, _, _, _, _, _, _, _, _, _, _, _, _, _, _, _, _, _, _, _, _, _, _, _, _, _, _, _, rfl⟩
      · rw [decide_eq_false c2] at h2
        clear c1 c2 HT h3
        go_wp2_with fail
        refine h1.mono ?_; rintro e w' ⟨rfl, hw'⟩; obtain rfl := hw'.symm; clear hw' h1
        go_wp2_with fail
        refine h2.mono ?_; rintro e w' ⟨rfl, hw'⟩; obtain rfl := hw'.symm; clear hw' h2
        go_wp2_with fail
        go_step3
        exact ⟨rfl, rfl, _, _, _, _, _, _, _, _, _, _, _, _, _, _, _, _, _, _, _, _, _, _, _, _, _, _, _, _, _, _, _, _, _, _, _, _, _, _, _, _, _, _, _, _, _, _, _, _, _, _, _, _, _, _, _, _, _, _, _, _, rfl⟩
    · rw [decide_eq_false c1] at h1
      clear c1 HT h2 h3
      go_wp2_with fail
      refine h1.mono ?_; rintro e w' ⟨rfl, hw'⟩; obtain rfl := hw'.symm; clear hw' h1
      go_wp2_with fail
      go_step3
      exact ⟨rfl, rfl, _, _, _, _, _, _, _, _, _, _, _, _, _, _, _, _, _, _, _, _, _, _, _, _, _, _, _, _, _, _, _, _, _, _, _, _, _, _, _, _, _, _, _, _, _, _, _, _, _, _, _, _, _, _, _, _, _, _, _, _, rfl⟩
  · rintro a' w' ⟨rfl, u4, u5, u6, u7, u8, u9, u10, u11, u12, u13, u14, u15, u16, u17, u18, u19, u20, u21, u22, u23, u24, u25, u26, u27, u28, u29, u30, u31, u32, u33, u34, u35, u36, u37, u38, u39, u40, u41, u42, u43, u44, u45, u46, u47, u48, u49, u50, u51, u52, u53, u54, u55, u56, u57, u58, u59, u60, u61, u62, u63, rfl⟩
    clear h1 h2 h3 HT
    go_wp2_with fail
    refine g1.mono ?_; rintro e w9 ⟨rfl, hw'⟩; obtain rfl := hw'.symm; clear hw' g1
    go_wp2_with fail
    refine g2.mono ?_; rintro e w9 ⟨rfl, hw'⟩; obtain rfl := hw'.symm; clear hw' g2
    go_wp2_with fail
    refine g3.mono ?_; rintro e w9 ⟨rfl, hw'⟩; obtain rfl := hw'.symm; clear hw' g3
    go_wp2_with fail
    refine ta1.mono ?_; rintro e w1 ⟨va, rfl, lva, k1⟩
    have tb2 := tb1 w1 k1
    clear ta1 tb1
    go_wp2_with fail
    refine tb2.mono ?_; rintro e w2 ⟨vb, rfl, lvb, k2⟩
    have hm2 := hm9 va vb w2 (lva.kp k2) lvb
    have k02 := k1.trans k2
    clear tb2 hm9 lva lvb k1 k2
    go_wp2_with fail
    refine hm2.mono ?_; rintro e w3 ⟨vp, rfl, lvp, k3⟩
    have k03 := k02.trans k3
    have tc2 := tc1 w3 k03
    clear hm2 k02 k3 tc1
    go_wp2_with fail
    refine tc2.mono ?_; rintro e w4 ⟨vc, rfl, lvc, k4⟩
    have hp2 := hp vp vc w4 (lvp.kp k4) lvc
    have k04 := k03.trans k4
    clear tc2 hp lvp lvc k03 k4
    go_wp2_with fail
    refine hp2.mono ?_; rintro e w5 ⟨v, rfl, lv, k5⟩
    have k05 := k04.trans k5
    have hr2 := hr v w5 k05 lv
    clear hp2 hr k04 k5 lv
    go_wp2_with fail
    refine hr2.mono ?_; rintro e w6 ⟨rfl, k6⟩
    have k06 := k05.trans k6
    clear hr2 k05 k6
    go_wp2
    try simp only [Exit.jump]
    exact bodyPost_ret (v := .float .f64 R) (by simp [results, Tryz.results12, go_sem]) rfl ⟨rfl, k06⟩
end Go.Proofs.YtnjlcfpkhgmjeaaGreatDoor
