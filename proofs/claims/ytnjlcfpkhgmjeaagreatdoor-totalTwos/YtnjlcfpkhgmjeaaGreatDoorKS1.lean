import Derived.Test.YtnjlcfpkhgmjeaaGreatDoorKMR17
import Derived.Test.YtnjlcfpkhgmjeaaGreatDoorKS4
import Derived.Scope
import Derived.ScopeJumps
namespace Go.Proofs.YtnjlcfpkhgmjeaaGreatDoor
open Go.RowKit
set_option maxRecDepth 20000 in
set_option maxHeartbeats 400000 in
theorem twoSum_ (n n' : Bool) (m m' K : Nat) (hK : 53 ≤ K) (hK2 : K + 12 ≤ 2097) (hm : m < 9218868437227405312) (hm' : m' < 9218868437227405312) (hx : (Iv n m).natAbs < 2 ^ K) (hy : (Iv n' m').natAbs < 2 ^ K) (V : Int) (hV : V = Iv n m + Iv n' m') : ∃ (s o : Bool) (r ro : Nat), (∀ w : World, Calls Tryz.prog 29 #[.float .f64 (Fq.wD n m), .float .f64 (Fq.wD n' m')] w fun e w' => e = .returned (.tuple #[.float .f64 (Fq.wD s r), .float .f64 (Fq.wD o ro)]) ∧ w' = w) ∧ r < 9218868437227405312 ∧ ro < 9218868437227405312 ∧ r = rgU 53 (rU 0 53 V.natAbs 1) ∧ s = (if V = 0 then n && n' else decide (V < 0)) ∧ Iv o ro = V - Iv s r := by
  obtain ⟨s, p, a, b, c, o, r, pr, ar, br, cr, ro, e1, e2, e3, e4, e5, e6, h1, h2, h3, h4, h5⟩ := two_words n n' m m' K hK hK2 hm hm' hx hy V hV
  refine ⟨s, o, r, ro, fun w => ?_, h1, h2, h3, h4, h5⟩
  obtain ⟨X, hX⟩ : ∃ X, X = Fq.wD n m := ⟨_, rfl⟩
  obtain ⟨Y, hY⟩ : ∃ Y, Y = Fq.wD n' m' := ⟨_, rfl⟩
  obtain ⟨N, hN⟩ : ∃ N, N = Fq.wD s r := ⟨_, rfl⟩
  obtain ⟨P, hP⟩ : ∃ P, P = Fq.wD p pr := ⟨_, rfl⟩
  obtain ⟨B, hB⟩ : ∃ B, B = Fq.wD a ar := ⟨_, rfl⟩
  obtain ⟨C, hC⟩ : ∃ C, C = Fq.wD b br := ⟨_, rfl⟩
  obtain ⟨D, hD⟩ : ∃ D, D = Fq.wD c cr := ⟨_, rfl⟩
  obtain ⟨O, hO⟩ : ∃ O, O = Fq.wD o ro := ⟨_, rfl⟩
  rw [← hX, ← hY, ← hN, ← hO]
  rw [← hX, ← hY, ← hN] at e1
  rw [← hX, ← hN, ← hP] at e2
  rw [← hN, ← hP, ← hB] at e3
  rw [← hX, ← hB, ← hC] at e4
  rw [← hY, ← hP, ← hD] at e5
  rw [← hC, ← hD, ← hO] at e6
  have g1 : ∀ w : World, (binOp .add 24 (.float .f64 X) (.float .f64 Y)).run Tryz.prog w = .ok (.float .f64 N) w := fun w => run_float_arith w .add 24 .f64 X Y N e1
  have g2 : ∀ w : World, (binOp .sub 24 (.float .f64 N) (.float .f64 X)).run Tryz.prog w = .ok (.float .f64 P) w := fun w => run_float_arith w .sub 24 .f64 N X P e2
  have g3 : ∀ w : World, (binOp .sub 24 (.float .f64 N) (.float .f64 P)).run Tryz.prog w = .ok (.float .f64 B) w := fun w => run_float_arith w .sub 24 .f64 N P B e3
  have g4 : ∀ w : World, (binOp .sub 24 (.float .f64 X) (.float .f64 B)).run Tryz.prog w = .ok (.float .f64 C) w := fun w => run_float_arith w .sub 24 .f64 X B C e4
  have g5 : ∀ w : World, (binOp .sub 24 (.float .f64 Y) (.float .f64 P)).run Tryz.prog w = .ok (.float .f64 D) w := fun w => run_float_arith w .sub 24 .f64 Y P D e5
  have g6 : ∀ w : World, (binOp .add 24 (.float .f64 C) (.float .f64 D)).run Tryz.prog w = .ok (.float .f64 O) w := fun w => run_float_arith w .add 24 .f64 C D O e6
  clear hX hY hN hP hB hC hD hO e1 e2 e3 e4 e5 e6 h1 h2 h3 h4 h5 hm hm' hx hy hV
  go_enter Tryz.func29, Tryz.ntmps29
  go_wp2
  exact bodyPost_ret (v := .tuple #[.float .f64 N, .float .f64 O]) (by simp [results, Tryz.results29, go_sem]) rfl ⟨rfl, rfl⟩
set_option maxRecDepth 20000 in
set_option maxHeartbeats 400000 in
theorem stepped_ (d V : Int) (s o sz : Bool) (r ro K : Nat) (hK : 53 ≤ K) (hK2 : K ≤ 2096) (hv : V.natAbs < 2 ^ K) (hr1 : r < 9218868437227405312) (hro : ro < 9218868437227405312) (hr : r = rgU 53 (rU 0 53 V.natAbs 1)) (hs : s = (if V = 0 then sz else decide (V < 0))) (ho : Iv o ro = V - Iv s r) (w : World) :
    Calls Tryz.prog 30 #[.int .i64 d, .float .f64 (Fq.wD s r), .float .f64 (Fq.wD o ro)] w fun e w' => e = .returned (.float .f64 (sumW d V)) ∧ Kp w w' := by
  obtain ⟨S1, S2, S3⟩ := step_w d V s o sz r ro K hK hK2 hv hr hs ho
  have hz : (0 : Nat) = Fq.wD false 0 := rfl
  have hord : FloatKind.f64.format.order (Fq.wD o ro) 0 = some (compare (Fq.plz o ro) 0) := by
    rw [hz, Fq.ordD o false ro 0 (by omega) (by decide)]; rfl
  obtain ⟨P, hP⟩ : ∃ P, P = Fq.plz o ro := ⟨_, rfl⟩
  rw [← hP] at S1 S2 S3 hord
  obtain ⟨O, hO⟩ : ∃ O, O = Fq.wD o ro := ⟨_, rfl⟩
  obtain ⟨Z, hZ⟩ : ∃ Z, Z = sumW d V := ⟨_, rfl⟩
  obtain ⟨N, hN⟩ : ∃ N, N = Fq.wD s r := ⟨_, rfl⟩
  rw [← hZ] at S1 S2 S3
  rw [← hO] at hord
  rw [← hO, ← hZ, ← hN]
  have hup := fun h => Fq.up_d s r (by omega) h w
  have hdn := fun h => Fq.dn_d s r (by omega) h w
  have hpl := Fq.plain_d s r (by omega) w
  rw [← hN] at hup hdn hpl
  clear hO hN hZ hr hs ho hP hz hv hK hK2 hr1 hro
  by_cases c1 : d = -1
  · by_cases c2 : P < 0
    · obtain ⟨a1, a2⟩ := S1 c1 c2
      have hc := hdn a1
      rw [a2] at hc
      have o1 : (FloatKind.f64.format.order O 0 == some .lt) = true := by rw [hord, Int.compare_eq_lt.2 c2]; rfl
      subst c1
      clear S1 S2 S3 hup hdn hpl hord c2 a1 a2
      go_enter Tryz.func30, Tryz.ntmps30
      go_wp2_with fail
      refine hc.mono ?_; rintro e w1 ⟨rfl, hk⟩
      clear hc
      go_wp2
      exact bodyPost_ret (v := .float .f64 Z) (by simp [results, Tryz.results30, go_sem]) rfl ⟨rfl, hk⟩
    · have hc := hpl
      rw [S3 (fun h => c2 h.2) (fun h => by omega)] at hc
      have o1 : (FloatKind.f64.format.order O 0 == some .lt) = false := by
        rw [hord]
        rcases Int.lt_trichotomy P 0 with h | h | h
        · exact absurd h c2
        · rw [Int.compare_eq_eq.2 h]; rfl
        · rw [Int.compare_eq_gt.2 h]; rfl
      subst c1
      clear S1 S2 S3 hup hdn hpl hord c2
      go_enter Tryz.func30, Tryz.ntmps30
      go_wp2_with fail
      refine hc.mono ?_; rintro e w1 ⟨rfl, hw⟩
      obtain rfl := hw.symm
      clear hc
      go_wp2
      exact bodyPost_ret (v := .float .f64 Z) (by simp [results, Tryz.results30, go_sem]) rfl ⟨rfl, Kp.refl _⟩
  · have e1 : (d == -1) = false := by simp [c1]
    by_cases c3 : d = 1
    · by_cases c2 : 0 < P
      · obtain ⟨a1, a2⟩ := S2 c3 c2
        have hc := hup a1
        rw [a2] at hc
        have o1 : (FloatKind.f64.format.order O 0 == some .gt) = true := by rw [hord, Int.compare_eq_gt.2 c2]; rfl
        subst c3
        clear S1 S2 S3 hup hdn hpl hord c2 a1 a2 c1
        go_enter Tryz.func30, Tryz.ntmps30
        go_wp2_with fail
        refine hc.mono ?_; rintro e w1 ⟨rfl, hk⟩
        clear hc
        go_wp2
        exact bodyPost_ret (v := .float .f64 Z) (by simp [results, Tryz.results30, go_sem]) rfl ⟨rfl, hk⟩
      · have hc := hpl
        rw [S3 (fun h => c1 h.1) (fun h => c2 h.2)] at hc
        have o1 : (FloatKind.f64.format.order O 0 == some .gt) = false := by
          rw [hord]
          rcases Int.lt_trichotomy P 0 with h | h | h
          · rw [Int.compare_eq_lt.2 h]; rfl
          · rw [Int.compare_eq_eq.2 h]; rfl
          · exact absurd h c2
        subst c3
        clear S1 S2 S3 hup hdn hpl hord c2 c1
        go_enter Tryz.func30, Tryz.ntmps30
        go_wp2_with fail
        refine hc.mono ?_; rintro e w1 ⟨rfl, hw⟩
        obtain rfl := hw.symm
        clear hc
        go_wp2
        exact bodyPost_ret (v := .float .f64 Z) (by simp [results, Tryz.results30, go_sem]) rfl ⟨rfl, Kp.refl _⟩
    · have e2 : (d == 1) = false := by simp [c3]
      have hc := hpl
      rw [S3 (fun h => c1 h.1) (fun h => c3 h.1)] at hc
      clear S1 S2 S3 hup hdn hpl hord c1 c3
      go_enter Tryz.func30, Tryz.ntmps30
      go_wp2_with fail
      refine hc.mono ?_; rintro e w1 ⟨rfl, hw⟩
      obtain rfl := hw.symm
      clear hc
      go_wp2
      exact bodyPost_ret (v := .float .f64 Z) (by simp [results, Tryz.results30, go_sem]) rfl ⟨rfl, Kp.refl _⟩
set_option maxRecDepth 20000 in
set_option maxHeartbeats 400000 in
theorem rounded_ (d : Int) (ng : Bool) (c : Nat) (low : Int) (v : Value) (w : World) (hv : Ls w v (dig c)) (hT : Tab w) (hQ : Fq.Tab w) (hd1 : -9223372036854775808 ≤ d) (hd2 : d < 9223372036854775808) (hl : len32 c ≤ 16384) :
    Calls Tryz.prog 34 #[.agg #[.bool ng, v, .int .i64 low], .int .i64 d] w fun e w' => e = .returned (.float .f64 (ofW d ng c low)) ∧ Kp w w' := by
  obtain ⟨p, cc, rfl, ha, hc⟩ := hv
  obtain ⟨L, hL⟩ : ∃ L, L = (dig c).length := ⟨_, rfl⟩
  obtain ⟨B, hB⟩ : ∃ B, B = w.heap.size := ⟨_, rfl⟩
  obtain ⟨w0, hw0⟩ : ∃ w0, w0 = w.alloc (.cells #[.bool ng, .slice p L cc, .int .i64 low] 61) := ⟨_, rfl⟩
  have hk0 : Kp w w0 := by rw [hw0]; exact (Kp.refl w).alloc _
  have h := pof_ d ng p cc (dig c) low w0 (hT.grown hk0) (Fq.Tab.grown hQ hk0) hd1 hd2 (ha.grown hk0) (Wd_dig c) (by change len32 c ≤ _; omega) hc
  rw [val_dig, ← hL] at h
  rw [← hL]
  have x0 : w0.cell? ⟨B, 0, none⟩ = some (.bool ng) := by rw [hw0, hB]; simp [go_sem]
  have x1 : w0.cell? ⟨B, 1, none⟩ = some (.slice p L cc) := by rw [hw0, hB]; simp [go_sem]
  have x2 : w0.cell? ⟨B, 2, none⟩ = some (.int .i64 low) := by rw [hw0, hB]; simp [go_sem]
  obtain ⟨Z, hZ⟩ : ∃ Z, Z = ofW d ng c low := ⟨_, rfl⟩
  rw [← hZ] at h ⊢
  have HW : Hid (w0 = w.alloc (.cells #[.bool ng, .slice p L cc, .int .i64 low] 61) ∧ B = w.heap.size ∧ Kp w w0) := ⟨hw0, hB, hk0⟩
  clear hZ hL hw0 hB hk0 ha hc hT hQ hd1 hd2 hl
  go_enter Tryz.func34, Tryz.ntmps34
  go_wp2_with fail
  rw [← HW.out.2.1]
  try rw [← HW.out.1]
  go_wp2_with fail
  refine h.mono ?_; rintro e w1 ⟨rfl, k1⟩
  have hk := HW.out.2.2.trans k1
  clear h k1
  go_wp2
  exact bodyPost_ret (v := .float .f64 Z) (by simp [results, Tryz.results34, go_sem]) rfl ⟨rfl, hk⟩
set_option maxRecDepth 20000 in
set_option maxHeartbeats 400000 in
theorem plusAny_ (n n' : Bool) (m m' : Nat) (a b : Nat) (ea eb : Int) (la : a < 9007199254740992) (lb : b < 9007199254740992) (ea1 : -1074 ≤ ea) (ea2 : ea ≤ 2048) (eb1 : -1074 ≤ eb) (eb2 : eb ≤ 2048) (ha : a * 2 ^ (ea + 1074).toNat = Fq.vV Ieee.double m) (hb : b * 2 ^ (eb + 1074).toNat = Fq.vV Ieee.double m') (s t : Bool) (hs : s = (n && !(m == 0))) (ht : t = (n' && !(m' == 0))) :
    ∃ (ng : Bool) (c : Nat) (low : Int), (∀ d : Int, ofW d ng c low = sumW d (Iv n m + Iv n' m')) ∧ len32 c ≤ 16384 ∧ ∀ (va vb : Value) (w : World), Ls w va (dig a) → Ls w vb (dig b) → Calls Tryz.prog 33 #[.agg #[.bool s, va, .int .i64 ea], .agg #[.bool t, vb, .int .i64 eb]] w fun e w' => ∃ v, e = .returned (.agg #[.bool ng, v, .int .i64 low]) ∧ Ls w' v (dig c) ∧ Kp w w' := by
  obtain ⟨low, hlow⟩ : ∃ low, low = min ea eb := ⟨_, rfl⟩
  obtain ⟨A', hA⟩ : ∃ A', A' = a * 2 ^ (ea - low).toNat := ⟨_, rfl⟩
  obtain ⟨B', hB⟩ : ∃ B', B' = b * 2 ^ (eb - low).toNat := ⟨_, rfl⟩
  obtain ⟨S1, S2, S3⟩ := sum_signs s t a b ea eb low ea1 eb1 hlow n n' m m' hs ht ha hb A' B' hA hB
  obtain ⟨X4, hX4⟩ : ∃ X4 : Nat, X4 = 4096 := ⟨_, rfl⟩
  have bnd : ∀ (u : Nat) (e : Int) (U : Nat), u < 9007199254740992 → e ≤ 4000 → U = u * 2 ^ e.toNat → blen U ≤ X4 := fun u e U h1 h2 h3 => by
    rw [h3, blen_le_iff]
    have h4 : 2 ^ 53 * 2 ^ e.toNat ≤ 2 ^ X4 := by rw [← Nat.pow_add]; exact Nat.pow_le_pow_right (by omega) (by omega)
    have h5 : u * 2 ^ e.toNat < 2 ^ 53 * 2 ^ e.toNat := Nat.mul_lt_mul_of_pos_right (by rw [show (2 : Nat) ^ 53 = 9007199254740992 from by decide]; exact h1) (Nat.two_pow_pos _)
    exact Nat.lt_of_lt_of_le h5 h4
  have bA := bnd a (ea - low) A' la (by omega) hA
  have bB := bnd b (eb - low) B' lb (by omega) hB
  have hsm : ∀ c : Nat, c ≤ A' + B' → blen c ≤ X4 + 1 := fun c hc => by
    have h1 := (blen_le_iff A' X4).1 bA
    have h2 := (blen_le_iff B' X4).1 bB
    rw [blen_le_iff, Nat.pow_succ]; omega
  have fin : ∀ (ng : Bool) (c : Nat), c ≤ A' + B' → (Iv n m + Iv n' m' = if ng then -((c * 2 ^ (low + 1074).toNat : Nat) : Int) else ((c * 2 ^ (low + 1074).toNat : Nat) : Int)) → (∀ d : Int, ofW d ng c low = sumW d (Iv n m + Iv n' m')) ∧ len32 c ≤ 16384 := fun ng c hc hv => by
    have h1 := hsm c hc
    exact ⟨fun d => of_sum d ng c low _ (by omega) (by omega) (by omega) hv, dlen c 16384 (by omega)⟩
  by_cases c1 : s = t
  · obtain ⟨f1, f2⟩ := fin s (A' + B') (Nat.le_refl _) (S1 c1)
    refine ⟨s, A' + B', low, f1, f2, ?_⟩
    rintro va vb w ⟨pa, ca, rfl, aa, l1⟩ ⟨pb, cb, rfl, ab, l2⟩
    exact plusEq_ s t a b ea eb low pa pb ca cb w aa l1 ab l2 la lb ea1 ea2 eb1 eb2 hlow A' B' hA hB c1
  · by_cases c2 : B' ≤ A'
    · obtain ⟨f1, f2⟩ := fin s (A' - B') (by omega) (S2 c1 c2)
      refine ⟨s, A' - B', low, f1, f2, ?_⟩
      rintro va vb w ⟨pa, ca, rfl, aa, l1⟩ ⟨pb, cb, rfl, ab, l2⟩
      exact plusGe_ s t a b ea eb low pa pb ca cb w aa l1 ab l2 la lb ea1 ea2 eb1 eb2 hlow A' B' hA hB c1 c2
    · obtain ⟨f1, f2⟩ := fin t (B' - A') (by omega) (S3 c1 (by omega))
      refine ⟨t, B' - A', low, f1, f2, ?_⟩
      rintro va vb w ⟨pa, ca, rfl, aa, l1⟩ ⟨pb, cb, rfl, ab, l2⟩
      exact plusLt_ s t a b ea eb low pa pb ca cb w aa l1 ab l2 la lb ea1 ea2 eb1 eb2 hlow A' B' hA hB c1 (by omega)
set_option maxRecDepth 20000 in
set_option maxHeartbeats 1000000 in
theorem paddF_ (d : Int) (n n' : Bool) (m m' : Nat) (hm : m < 9218868437227405312) (hm' : m' < 9218868437227405312) (w : World) (hT : Tab w) (hQ : Fq.Tab w) (hd1 : -9223372036854775808 ≤ d) (hd2 : d < 9223372036854775808) :
    Calls Tryz.prog 10 #[.int .i64 d, .float .f64 (Fq.wD n m), .float .f64 (Fq.wD n' m')] w fun e w' => e = .returned (.float .f64 (sumW d (Iv n m + Iv n' m'))) ∧ Kp w w' := by
  have h1 := tame_ n m (by omega) w
  have h2 := tame_ n' m' (by omega) w
  obtain ⟨X, hX⟩ : ∃ X, X = Fq.wD n m := ⟨_, rfl⟩
  obtain ⟨Y, hY⟩ : ∃ Y, Y = Fq.wD n' m' := ⟨_, rfl⟩
  obtain ⟨Z, hZ⟩ : ∃ Z, Z = sumW d (Iv n m + Iv n' m') := ⟨_, rfl⟩
  by_cases ct : m ≤ 9110782046170513408 ∧ m' ≤ 9110782046170513408
  · obtain ⟨c1, c2⟩ := ct
    rw [decide_eq_true c1] at h1
    rw [decide_eq_true c2] at h2
    obtain ⟨K, hK⟩ : ∃ K : Nat, K = 2075 := ⟨_, rfl⟩
    have b1 : (Iv n m).natAbs < 2 ^ K := by rw [iv_abs]; exact vV_lt m c1 K hK
    have b2 : (Iv n' m').natAbs < 2 ^ K := by rw [iv_abs]; exact vV_lt m' c2 K hK
    obtain ⟨s, o, r, ro, h3, r1, r2, r3, r4, r5⟩ := twoSum_ n n' m m' K (by omega) (by omega) hm hm' b1 b2 _ rfl
    have h4 := stepped_ d (Iv n m + Iv n' m') s o (n && n') r ro (K + 1) (by omega) (by omega) (lt_add9 b1 b2 (Nat.le_refl _)).1 r1 r2 r3 r4 r5
    obtain ⟨N, hN⟩ : ∃ N, N = Fq.wD s r := ⟨_, rfl⟩
    obtain ⟨O, hO⟩ : ∃ O, O = Fq.wD o ro := ⟨_, rfl⟩
    rw [← hX] at h1
    rw [← hY] at h2
    rw [← hX, ← hY, ← hN, ← hO] at h3
    rw [← hN, ← hO, ← hZ] at h4
    rw [← hX, ← hY, ← hZ]
    clear hX hY hZ hN hO c1 c2 b1 b2 hK r1 r2 r3 r4 r5 hm hm' hT hQ hd1 hd2
    go_enter Tryz.func10, Tryz.ntmps10
    go_wp2
    refine wp_scope_straight ?_
    go_wp2_with fail
    refine h1.mono ?_; rintro e w' ⟨rfl, hw'⟩; obtain rfl := hw'.symm; clear hw' h1
    go_wp2_with fail
    refine h2.mono ?_; rintro e w' ⟨rfl, hw'⟩; obtain rfl := hw'.symm; clear hw' h2
    have h5 := h3 w
    clear h3
    go_wp2_with fail
    refine h5.mono ?_; rintro e w' ⟨rfl, hw'⟩; obtain rfl := hw'.symm; clear hw' h5
    have h6 := h4 w
    clear h4
    go_wp2_with fail
    refine h6.mono ?_; rintro e w1 ⟨rfl, k1⟩
    clear h6
    go_wp2
    try rw [Exit.noGoto_ret]
    exact bodyPost_ret (v := .float .f64 Z) (by simp [results, Tryz.results10, go_sem]) rfl ⟨rfl, k1⟩
  · have g1 := finite_ n m (by omega) w
    have g2 := finite_ n' m' (by omega) w
    rw [decide_eq_true hm] at g1
    rw [decide_eq_true hm'] at g2
    obtain ⟨a, ea, a1, a2, a3, a4, ta⟩ := take_ n m hm
    obtain ⟨b, eb, b1, b2, b3, b4, tb⟩ := take_ n' m' hm'
    obtain ⟨s, hs⟩ : ∃ s : Bool, s = (n && !(m == 0)) := ⟨_, rfl⟩
    obtain ⟨t, ht⟩ : ∃ t : Bool, t = (n' && !(m' == 0)) := ⟨_, rfl⟩
    rw [← hs] at ta
    rw [← ht] at tb
    obtain ⟨ng, c, low, f1, f2, hp⟩ := plusAny_ n n' m m' a b ea eb a4 b4 a2 a3 b2 b3 a1 b1 s t hs ht
    have hr : ∀ (v : Value) (w1 : World), Kp w w1 → Ls w1 v (dig c) → Calls Tryz.prog 34 #[.agg #[.bool ng, v, .int .i64 low], .int .i64 d] w1 fun e w' => e = .returned (.float .f64 Z) ∧ Kp w1 w' := fun v w1 k1 l1 => by
      rw [hZ, ← f1 d]; exact rounded_ d ng c low v w1 l1 (hT.grown k1) (Fq.Tab.grown hQ k1) hd1 hd2 f2
    rw [← hX] at h1 g1 ta
    rw [← hY] at h2 g2 tb
    rw [← hX, ← hY, ← hZ]
    have ta1 := ta w hQ
    have tb1 := fun w1 (k : Kp w w1) => tb w1 (Fq.Tab.grown hQ k)
    have HT : Hid (m ≤ 9110782046170513408 → ¬ m' ≤ 9110782046170513408) := fun h h' => ct ⟨h, h'⟩
    clear hX hY hZ hs ht f1 f2 a1 a2 a3 a4 b1 b2 b3 b4 ta tb hT hQ hd1 hd2 ct hm hm'
    go_enter Tryz.func10, Tryz.ntmps10
    go_wp2
    refine wp_scope_jumps 0 (fun a' w' => w' = w ∧ ∃ u3 u4 u5 u6 u7 u8 u9 u10 u11 u12 u13 u14 u15 u16 u17 u18 u19 u20 u21 u22 u23 u24 u25 u26 u27 u28 u29 u30 u31 u32 u33 u34 u35 u36 u37 u38 u39 u40 u41 u42 u43 u44 : Value, a' = ⟨#[.int .i64 d, .float .f64 X, .float .f64 Y, u3, u4, u5, u6, u7, u8, u9, u10, u11, u12, u13, u14, u15, u16, u17, u18, u19, u20, u21, u22, u23, u24, u25, u26, u27, u28, u29, u30, u31, u32, u33, u34, u35, u36, u37, u38, u39, u40, u41, u42, u43, u44], []⟩) (fun _ _ => 0) rfl ?_ ?_
    · clear g1 g2 ta1 tb1 hp hr
      by_cases c1 : m ≤ 9110782046170513408
      · rw [decide_eq_true c1] at h1
        rw [decide_eq_false (HT.out c1)] at h2
        clear c1 HT
        go_wp2_with fail
        refine h1.mono ?_; rintro e w' ⟨rfl, hw'⟩; obtain rfl := hw'.symm; clear hw' h1
        go_wp2_with fail
        refine h2.mono ?_; rintro e w' ⟨rfl, hw'⟩; obtain rfl := hw'.symm; clear hw' h2
        go_wp2_with fail
        go_step3
        exact ⟨rfl, rfl, _, _, _, _, _, _, _, _, _, _, _, _, _, _, _, _, _, _, _, _, _, _, _, _, _, _, _, _, _, _, _, _, _, _, _, _, _, _, _, _, _, _, rfl⟩
      · rw [decide_eq_false c1] at h1
        clear c1 HT h2
        go_wp2_with fail
        refine h1.mono ?_; rintro e w' ⟨rfl, hw'⟩; obtain rfl := hw'.symm; clear hw' h1
        go_wp2_with fail
        go_step3
        exact ⟨rfl, rfl, _, _, _, _, _, _, _, _, _, _, _, _, _, _, _, _, _, _, _, _, _, _, _, _, _, _, _, _, _, _, _, _, _, _, _, _, _, _, _, _, _, _, rfl⟩
    · rintro a' w' ⟨rfl, u3, u4, u5, u6, u7, u8, u9, u10, u11, u12, u13, u14, u15, u16, u17, u18, u19, u20, u21, u22, u23, u24, u25, u26, u27, u28, u29, u30, u31, u32, u33, u34, u35, u36, u37, u38, u39, u40, u41, u42, u43, u44, rfl⟩
      clear h1 h2 HT
      go_wp2_with fail
      refine g1.mono ?_; rintro e w9 ⟨rfl, hw'⟩; obtain rfl := hw'.symm; clear hw' g1
      go_wp2_with fail
      refine g2.mono ?_; rintro e w9 ⟨rfl, hw'⟩; obtain rfl := hw'.symm; clear hw' g2
      go_wp2_with fail
      refine ta1.mono ?_; rintro e w1 ⟨va, rfl, lva, k1⟩
      have tb2 := tb1 w1 k1
      clear ta1 tb1
      go_wp2_with fail
      refine tb2.mono ?_; rintro e w2 ⟨vb, rfl, lvb, k2⟩
      have hp2 := hp va vb w2 (lva.kp k2) lvb
      have k02 := k1.trans k2
      clear tb2 hp lva lvb k1 k2
      go_wp2_with fail
      refine hp2.mono ?_; rintro e w3 ⟨v, rfl, lv, k3⟩
      have k03 := k02.trans k3
      have hr2 := hr v w3 k03 lv
      clear hp2 hr k02 k3 lv
      go_wp2_with fail
      refine hr2.mono ?_; rintro e w4 ⟨rfl, k4⟩
      have k04 := k03.trans k4
      clear hr2 k03 k4
      go_wp2
      try simp only [Exit.jump]
      exact bodyPost_ret (v := .float .f64 Z) (by simp [results, Tryz.results10, go_sem]) rfl ⟨rfl, k04⟩
end Go.Proofs.YtnjlcfpkhgmjeaaGreatDoor
