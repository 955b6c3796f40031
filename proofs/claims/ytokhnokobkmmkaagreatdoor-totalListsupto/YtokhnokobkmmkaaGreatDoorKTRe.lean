import Derived.Test.YtokhnokobkmmkaaGreatDoorKTRd
import Derived.Test.YtokhnokobkmmkaaGreatDoorKU4x
namespace Go.Proofs.YtokhnokobkmmkaaGreatDoor
open Go.RowKit
set_option maxRecDepth 20000 in
set_option maxHeartbeats 2000000 in
theorem rmul4_ (n n' : Bool) (m m' K B : Nat) (hK : K = 1074) (hm : m < 9218868437227405312) (hm' : m' < 9218868437227405312) (hf1 : ∀ w : World, Calls Tryz.prog 45 #[.int .u64 ((Fq.wD n m : Nat) : Int)] w fun e w' => e = .returned (.bool true) ∧ w' = w) (hf2 : ∀ w : World, Calls Tryz.prog 45 #[.int .u64 ((Fq.wD n' m' : Nat) : Int)] w fun e w' => e = .returned (.bool true) ∧ w' = w) (hB : B ≤ 60000) (s1 : Bool) (p1 : Option Addr) (l1 c1 : Nat) (q1 : Option Addr) (k1 d1 : Nat) (P M N : Bool) (T : Nat) (hT : T < 4611686018427387904) (V : Int) (hV : V.natAbs < 2 ^ B) (hV2 : (Iv n m * Iv n' m').natAbs < 2 ^ B) (J : Nat) (hJ : J ≤ 30000) (hV3 : (Iv n m).natAbs < 2 ^ J) (hV4 : (Iv n' m').natAbs < 2 ^ J) (b1 : Nat) (w : World) (h1 : Dy b1 w s1 p1 l1 c1 q1 k1 d1 V (K + K)) : Calls Tryz.prog 31 #[.agg #[.bool s1, .slice p1 l1 c1, .slice q1 k1 d1, .bool P, .bool M, .bool N, .int .u64 (T : Int)], .int .u64 ((Fq.wD n m : Nat) : Int), .int .u64 ((Fq.wD n' m' : Nat) : Int)] w fun e w' => ∃ (s3 : Bool) (p3 : Option Addr) (l3 c3 : Nat) (q3 : Option Addr) (k3 d3 : Nat), e = .returned (.agg #[.bool s3, .slice p3 l3 c3, .slice q3 k3 d3, .bool P, .bool M, .bool N, .int .u64 ((T + 1 : Nat) : Int)]) ∧ Dy w.heap.size w' s3 p3 l3 c3 q3 k3 d3 (V + Iv n m * Iv n' m') (K + K) ∧ Kp w w' := by
  have hmo := more_ s1 p1 l1 c1 q1 k1 d1 P M N T 1 (by omega)
  have hfb1 := dyfrom_ n m K hK hm
  have hfb2 := dyfrom_ n' m' K hK hm'
  have hrm := fun (W : World) (s2 : Bool) (p2 : Option Addr) (l2 c2 : Nat) (q2 : Option Addr) (k2 d2 : Nat) (s4 : Bool) (p4 : Option Addr) (l4 c4 : Nat) (q4 : Option Addr) (k4 d4 : Nat) (b2 b4 : Nat) (h2 : Dy b2 W s2 p2 l2 c2 q2 k2 d2 (Iv n m) K) (h4 : Dy b4 W s4 p4 l4 c4 q4 k4 d4 (Iv n' m') K) => dymul_ s2 p2 l2 c2 q2 k2 d2 s4 p4 l4 c4 q4 k4 d4 (Iv n m) (Iv n' m') K J hJ (by omega) hV3 hV4 b2 b4 W h2 h4
  have hra := fun (W : World) (s2 : Bool) (p2 : Option Addr) (l2 c2 : Nat) (q2 : Option Addr) (k2 d2 : Nat) (b2 : Nat) (g : Kp w W) (h2 : Dy b2 W s2 p2 l2 c2 q2 k2 d2 (Iv n m * Iv n' m') (K + K)) => dyadd_ s1 p1 l1 c1 q1 k1 d1 s2 p2 l2 c2 q2 k2 d2 V (Iv n m * Iv n' m') (K + K) B hB (by omega) hV hV2 b1 b2 W (h1.kp g) h2
  rw [show (((1 : Nat) : Int)) = 1 from rfl] at hmo
  obtain ⟨X1, hX1⟩ : ∃ X1, X1 = ((Fq.wD n m : Nat) : Int) := ⟨_, rfl⟩
  obtain ⟨X2, hX2⟩ : ∃ X2, X2 = ((Fq.wD n' m' : Nat) : Int) := ⟨_, rfl⟩
  rw [← hX1] at hf1 hfb1 ⊢
  rw [← hX2] at hf2 hfb2 ⊢
  clear hX1 hX2
  generalize hPV : Iv n m * Iv n' m' = PV at *
  clear hPV
  generalize Iv n m = I1 at *
  generalize Iv n' m' = I2 at *
  generalize ((T + 1 : Nat) : Int) = TT at *
  have h7 : H7c ((w.alloc (.cells #[.bool s1, .slice p1 l1 c1, .slice q1 k1 d1, .bool P, .bool M, .bool N, .int .u64 (T : Int)] 30)).alloc (.cells #[.bool false, .slice none 0 0, .slice none 0 0, .bool false, .bool false, .bool false, .int .u64 0] 30)) w.heap.size (.bool s1) (.slice p1 l1 c1) (.slice q1 k1 d1) (.bool P) (.bool M) (.bool N) (.int .u64 (T : Int)) := (H7c.new w (.bool s1) (.slice p1 l1 c1) (.slice q1 k1 d1) (.bool P) (.bool M) (.bool N) (.int .u64 (T : Int)) 30).keep ((Kp.refl _).alloc _)
  have h8 : H7c ((w.alloc (.cells #[.bool s1, .slice p1 l1 c1, .slice q1 k1 d1, .bool P, .bool M, .bool N, .int .u64 (T : Int)] 30)).alloc (.cells #[.bool false, .slice none 0 0, .slice none 0 0, .bool false, .bool false, .bool false, .int .u64 0] 30)) (w.heap.size + 1) (.bool false) (.slice none 0 0) (.slice none 0 0) (.bool false) (.bool false) (.bool false) (.int .u64 0) := by
    have := H7c.new (w.alloc (.cells #[.bool s1, .slice p1 l1 c1, .slice q1 k1 d1, .bool P, .bool M, .bool N, .int .u64 (T : Int)] 30)) (.bool false) (.slice none 0 0) (.slice none 0 0) (.bool false) (.bool false) (.bool false) (.int .u64 0) 30
    simpa using this
  have kw : Kp w ((w.alloc (.cells #[.bool s1, .slice p1 l1 c1, .slice q1 k1 d1, .bool P, .bool M, .bool N, .int .u64 (T : Int)] 30)).alloc (.cells #[.bool false, .slice none 0 0, .slice none 0 0, .bool false, .bool false, .bool false, .int .u64 0] 30)) := ((Kp.refl w).alloc _).alloc _
  have hb1 : w.heap.size ≤ w.heap.size := Nat.le_refl _
  clear hK hm hm' hB hV hV2 hV3 hV4 hJ h1 hT
  go_enter Tryz.func31, Tryz.ntmps31
  go_upto_region 2 with (first | (go_at_call_of 45 (Value.int IntKind.u64 X1); refine (hf1 _).mono ?_; rintro e w' ⟨rfl, hw'⟩; obtain rfl := hw'.symm; clear hw') | (go_at_call_of 45 (Value.int IntKind.u64 X2); refine (hf2 _).mono ?_; rintro e w' ⟨rfl, hw'⟩; obtain rfl := hw'.symm; clear hw'))
  generalize ((w.alloc (.cells #[.bool s1, .slice p1 l1 c1, .slice q1 k1 d1, .bool P, .bool M, .bool N, .int .u64 (T : Int)] 30)).alloc (.cells #[.bool false, .slice none 0 0, .slice none 0 0, .bool false, .bool false, .bool false, .int .u64 0] 30)) = W0 at h7 h8 kw ⊢
  generalize hb9 : w.heap.size = b at h7 h8 ⊢
  rw [hb9] at hb1
  have hbw : w.heap.size ≤ b := by rw [hb9]; exact hb1
  obtain ⟨r0, r1, r2, r3, r4, r5, r6, r7, r8, r9, r10, r11, r12, r13⟩ := id h7
  obtain ⟨t0, t1, t2, t3, t4, t5, t6, t7, t8, t9, t10, t11, t12, t13⟩ := id h8
  go_upto_region 3 with (first | (go_at_call 54; refine (hmo _).mono ?_; rintro e W1 ⟨rfl, g1⟩; replace h7 := h7.keep g1; replace h8 := h8.keep g1; replace kw := kw.trans g1; clear r0 r1 r2 r3 r4 r5 r6 r7 r8 r9 r10 r11 r12 r13 t0 t1 t2 t3 t4 t5 t6 t7 t8 t9 t10 t11 t12 t13; obtain ⟨r0, r1, r2, r3, r4, r5, r6, r7, r8, r9, r10, r11, r12, r13⟩ := id h7; obtain ⟨t0, t1, t2, t3, t4, t5, t6, t7, t8, t9, t10, t11, t12, t13⟩ := id h8))
  have q7 := H7c.put h7 (.bool s1) (.slice p1 l1 c1) (.slice q1 k1 d1) (.bool P) (.bool M) (.bool N) (.int .u64 TT)
  have q8 : H7c (((((((W1.setCell ⟨b, 0, none⟩ (.bool s1)).setCell ⟨b, 1, none⟩ (.slice p1 l1 c1)).setCell ⟨b, 2, none⟩ (.slice q1 k1 d1)).setCell ⟨b, 3, none⟩ (.bool P)).setCell ⟨b, 4, none⟩ (.bool M)).setCell ⟨b, 5, none⟩ (.bool N)).setCell ⟨b, 6, none⟩ (.int .u64 TT)) (b + 1) (.bool false) (.slice none 0 0) (.slice none 0 0) (.bool false) (.bool false) (.bool false) (.int .u64 0) := (H7c.far1 (H7c.far1 (H7c.far1 (H7c.far1 (H7c.far1 (H7c.far1 (H7c.far1 h8 ⟨b, 0, none⟩ (show b ≠ b + 1 by omega) _) ⟨b, 1, none⟩ (show b ≠ b + 1 by omega) _) ⟨b, 2, none⟩ (show b ≠ b + 1 by omega) _) ⟨b, 3, none⟩ (show b ≠ b + 1 by omega) _) ⟨b, 4, none⟩ (show b ≠ b + 1 by omega) _) ⟨b, 5, none⟩ (show b ≠ b + 1 by omega) _) ⟨b, 6, none⟩ (show b ≠ b + 1 by omega) _)
  have kq : Kp w (((((((W1.setCell ⟨b, 0, none⟩ (.bool s1)).setCell ⟨b, 1, none⟩ (.slice p1 l1 c1)).setCell ⟨b, 2, none⟩ (.slice q1 k1 d1)).setCell ⟨b, 3, none⟩ (.bool P)).setCell ⟨b, 4, none⟩ (.bool M)).setCell ⟨b, 5, none⟩ (.bool N)).setCell ⟨b, 6, none⟩ (.int .u64 TT)) := (((((((kw.setCell hbw _).setCell hbw _).setCell hbw _).setCell hbw _).setCell hbw _).setCell hbw _).setCell hbw _)
  generalize (((((((W1.setCell ⟨b, 0, none⟩ (.bool s1)).setCell ⟨b, 1, none⟩ (.slice p1 l1 c1)).setCell ⟨b, 2, none⟩ (.slice q1 k1 d1)).setCell ⟨b, 3, none⟩ (.bool P)).setCell ⟨b, 4, none⟩ (.bool M)).setCell ⟨b, 5, none⟩ (.bool N)).setCell ⟨b, 6, none⟩ (.int .u64 TT)) = W2 at q7 q8 kq ⊢
  clear h7 h8 kw r0 r1 r2 r3 r4 r5 r6 r7 r8 r9 r10 r11 r12 r13 t0 t1 t2 t3 t4 t5 t6 t7 t8 t9 t10 t11 t12 t13
  obtain ⟨r0, r1, r2, r3, r4, r5, r6, r7, r8, r9, r10, r11, r12, r13⟩ := id q7
  have h7d : H7c W2.drew b (.bool s1) (.slice p1 l1 c1) (.slice q1 k1 d1) (.bool P) (.bool M) (.bool N) (.int .u64 TT) := q7
  have h8d : H7c W2.drew (b + 1) (.bool false) (.slice none 0 0) (.slice none 0 0) (.bool false) (.bool false) (.bool false) (.int .u64 0) := q8
  have kwd : Kp w W2.drew := kq.drew
  clear r0 r1 r2 r3 r4 r5 r6 r7 r8 r9 r10 r11 r12 r13 q7 q8 kq hmo
  obtain ⟨r0, r1, r2, r3, r4, r5, r6, r7, r8, r9, r10, r11, r12, r13⟩ := id h7d
  first | (go_region_with (first | (go_at_call_of 57 (Value.int IntKind.u64 X1); refine (hfb1 _).mono ?_; rintro e W5 ⟨s2, p2, l2, c2, q2, k2, d2, rfl, D2, g5⟩; have kw5 := kwd.trans g5; have h75 := h7d.keep g5; have h85 := h8d.keep g5; obtain ⟨e0, e1, e2, e3, e4, e5, e6, e7, e8, e9, e10, e11, e12, e13⟩ := id h75) | (go_at_call_of 57 (Value.int IntKind.u64 X2); refine (hfb2 _).mono ?_; rintro e W6 ⟨s4, p4, l4, c4, q4, k4, d4, rfl, D4, g6⟩; have kw6 := kw5.trans g6; have h76 := h75.keep g6; have h86 := h85.keep g6; obtain ⟨f0, f1, f2, f3, f4, f5, f6, f7, f8, f9, f10, f11, f12, f13⟩ := id h76; have hrm6 := hrm W6 s2 p2 l2 c2 q2 k2 d2 s4 p4 l4 c4 q4 k4 d4 _ _ (D2.kp g6) D4) | (go_at_call 56; refine hrm6.mono ?_; rintro e W3 ⟨s5, p5, l5, c5, q5, k5, d5, rfl, D5, g3⟩; have kw3 := kw6.trans g3; have h73 := h76.keep g3; have h83 := h86.keep g3; obtain ⟨u0, u1, u2, u3, u4, u5, u6, u7, u8, u9, u10, u11, u12, u13⟩ := id h73; obtain ⟨x0, x1, x2, x3, x4, x5, x6, x7, x8, x9, x10, x11, x12, x13⟩ := id h83; have hra3 := hra W3 s5 p5 l5 c5 q5 k5 d5 _ kw3 D5) | (go_at_call 55; refine hra3.mono ?_; rintro e W4 ⟨s3, p3, l3, c3, q3, k3, d3, rfl, D3, g4⟩; have kw4 := kw3.trans g4; have h74 := h73.keep g4; have h84 := h83.keep g4; obtain ⟨y0, y1, y2, y3, y4, y5, y6, y7, y8, y9, y10, y11, y12, y13⟩ := id h74; obtain ⟨z0, z1, z2, z3, z4, z5, z6, z7, z8, z9, z10, z11, z12, z13⟩ := id h84))) | fail
  all_goals (
    go_wp2
    have hl3 := h83.lt
    have hk3 := kw3.size
    refine bodyPost_ret (v := .agg #[.bool s3, .slice p3 l3 c3, .slice q3 k3 d3, .bool P, .bool M, .bool N, .int .u64 TT]) (by simp [results, Tryz.results31, go_sem, z0, z1, z2, z3, z4, z5, z6]) rfl ⟨s3, p3, l3, c3, q3, k3, d3, rfl, ?_, ?_⟩
    · refine Dy.mono ?_ hk3
      exact (Dy.set (Dy.set (Dy.set (Dy.set (Dy.set (Dy.set (Dy.set (Dy.set (Dy.set (Dy.set D3 (x := ⟨b, 0, none⟩) (show b < W3.heap.size by omega) _) (x := ⟨b, 1, none⟩) (show b < W3.heap.size by omega) _) (x := ⟨b, 2, none⟩) (show b < W3.heap.size by omega) _) (x := ⟨b + 1, 0, none⟩) (show b + 1 < W3.heap.size by omega) _) (x := ⟨b + 1, 1, none⟩) (show b + 1 < W3.heap.size by omega) _) (x := ⟨b + 1, 2, none⟩) (show b + 1 < W3.heap.size by omega) _) (x := ⟨b + 1, 3, none⟩) (show b + 1 < W3.heap.size by omega) _) (x := ⟨b + 1, 4, none⟩) (show b + 1 < W3.heap.size by omega) _) (x := ⟨b + 1, 5, none⟩) (show b + 1 < W3.heap.size by omega) _) (x := ⟨b + 1, 6, none⟩) (show b + 1 < W3.heap.size by omega) _)
    · exact ((((((((((kw4.setCell hbw _).setCell hbw _).setCell hbw _).setCell (show w.heap.size ≤ b + 1 by omega) _).setCell (show w.heap.size ≤ b + 1 by omega) _).setCell (show w.heap.size ≤ b + 1 by omega) _).setCell (show w.heap.size ≤ b + 1 by omega) _).setCell (show w.heap.size ≤ b + 1 by omega) _).setCell (show w.heap.size ≤ b + 1 by omega) _).setCell (show w.heap.size ≤ b + 1 by omega) _))
set_option maxRecDepth 20000 in
set_option maxHeartbeats 400000 in
theorem zero3_ (n : Bool) (m : Nat) (hm : m < 9223372036854775808) (w : World) : Calls Tryz.prog 96 #[.int .u64 ((Fq.wD n m : Nat) : Int)] w fun e w' => e = .returned (.bool (decide (m = 0))) ∧ w' = w := by
  obtain ⟨X, hX⟩ : ∃ X, X = Fq.wD n m := ⟨_, rfl⟩
  have f1 := (noTop n m X hm hX).1
  rw [← hX]
  clear hX hm
  by_cases c : m = 0
  · have t1 : ((m : Int) == 0) = true := by rw [c]; rfl
    rw [decide_eq_true c]
    clear c
    go_enter Tryz.func96, Tryz.ntmps96
    go_wp2
    exact bodyPost_ret (v := .bool true) (by simp [results, Tryz.results96, go_sem]) rfl ⟨rfl, rfl⟩
  · have t1 : ((m : Int) == 0) = false := by simp; omega
    rw [decide_eq_false c]
    clear c
    go_enter Tryz.func96, Tryz.ntmps96
    go_wp2
    exact bodyPost_ret (v := .bool false) (by simp [results, Tryz.results96, go_sem]) rfl ⟨rfl, rfl⟩
theorem neg3_ (n : Bool) (m : Nat) (hm : m < 9223372036854775808) (z : m ≠ 0) (w : World) : Calls Tryz.prog 60 #[.int .u64 ((Fq.wD n m : Nat) : Int)] w fun e w' => e = .returned (.bool n) ∧ w' = w := by
  obtain ⟨X, hX⟩ : ∃ X, X = Fq.wD n m := ⟨_, rfl⟩
  have t1 : (9223372036854775808 < (X : Int)) ↔ n = true := by
    rw [hX]; unfold Fq.wD
    cases n <;> simp <;> omega
  rw [← hX]
  clear hX hm z
  cases n
  · have t2 : ¬ (9223372036854775808 < (X : Int)) := fun h => by simp at t1; omega
    clear t1
    go_enter Tryz.func60, Tryz.ntmps60
    go_wp2
    exact bodyPost_ret (v := .bool false) (by simp [results, Tryz.results60, go_sem] <;> omega) rfl ⟨rfl, rfl⟩
  · have t2 : 9223372036854775808 < (X : Int) := t1.2 rfl
    clear t1
    go_enter Tryz.func60, Tryz.ntmps60
    go_wp2
    exact bodyPost_ret (v := .bool true) (by simp [results, Tryz.results60, go_sem] <;> omega) rfl ⟨rfl, rfl⟩
theorem infin3_ (b : Bool) (w : World) : Calls Tryz.prog 86 #[.bool b] w fun e w' => e = .returned (.int .u64 ((Fq.wD b 9218868437227405312 : Nat) : Int)) ∧ w' = w := by
  cases b
  · rw [show ((Fq.wD false 9218868437227405312 : Nat) : Int) = 9218868437227405312 from rfl]
    go_enter Tryz.func86, Tryz.ntmps86
    go_wp2
    exact bodyPost_ret (v := .int .u64 9218868437227405312) (by simp [results, Tryz.results86, go_sem]) rfl ⟨rfl, rfl⟩
  · rw [show ((Fq.wD true 9218868437227405312 : Nat) : Int) = 18442240474082181120 from rfl]
    go_enter Tryz.func86, Tryz.ntmps86
    go_wp2
    exact bodyPost_ret (v := .int .u64 18442240474082181120) (by simp [results, Tryz.results86, go_sem]) rfl ⟨rfl, rfl⟩
set_option maxRecDepth 20000 in
set_option maxHeartbeats 1000000 in
theorem rprodB_ (d : Int) (n n' : Bool) (m m' : Nat) (hm : m < 9223372036854775808) (hm' : m' < 9223372036854775808) (hb : badP m m') (w : World) :
    Calls Tryz.prog 58 #[.int .i64 d, .int .u64 ((Fq.wD n m : Nat) : Int), .int .u64 ((Fq.wD n' m' : Nat) : Int)] w fun e w' => e = .returned (.int .u64 9221120237041090561) ∧ Kp w w' := by
  have i1 := fun w => isnan_ n m hm w
  have i2 := fun w => isnan_ n' m' hm' w
  have j1 := fun w => isinf_ n m hm w
  have j2 := fun w => isinf_ n' m' hm' w
  have z1 := fun w => zero3_ n m hm w
  have z2 := fun w => zero3_ n' m' hm' w
  obtain ⟨X, hX⟩ : ∃ X, X = Fq.wD n m := ⟨_, rfl⟩
  obtain ⟨Y, hY⟩ : ∃ Y, Y = Fq.wD n' m' := ⟨_, rfl⟩
  rw [← hX] at i1 j1 z1
  rw [← hY] at i2 j2 z2
  rw [← hX, ← hY]
  unfold badP at hb
  by_cases c1 : 9218868437227405312 < m
  · rw [decide_eq_true c1] at i1
    clear hX hY i2 j1 j2 z1 z2 c1 hb hm hm'
    go_enter Tryz.func58, Tryz.ntmps58
    go_wp2_with fail
    refine (i1 w).mono ?_; rintro e w' ⟨rfl, hw'⟩; obtain rfl := hw'.symm; clear hw'
    go_wp2
    exact bodyPost_ret (v := .int .u64 9221120237041090561) (by simp [results, Tryz.results58, go_sem]) rfl ⟨rfl, Kp.refl _⟩
  · rw [decide_eq_false c1] at i1
    by_cases c2 : 9218868437227405312 < m'
    · rw [decide_eq_true c2] at i2
      clear hX hY j1 j2 z1 z2 c1 c2 hb hm hm'
      go_enter Tryz.func58, Tryz.ntmps58
      go_wp2_with fail
      refine (i1 w).mono ?_; rintro e w' ⟨rfl, hw'⟩; obtain rfl := hw'.symm; clear hw'
      go_wp2_with fail
      refine (i2 w).mono ?_; rintro e w' ⟨rfl, hw'⟩; obtain rfl := hw'.symm; clear hw'
      go_wp2
      exact bodyPost_ret (v := .int .u64 9221120237041090561) (by simp [results, Tryz.results58, go_sem]) rfl ⟨rfl, Kp.refl _⟩
    · rw [decide_eq_false c2] at i2
      rcases (hb.resolve_left c1).resolve_left c2 with ⟨e1, e2⟩ | ⟨e1, e2⟩
      · rw [decide_eq_true e1] at j1
        rw [decide_eq_false (by omega)] at z1
        rw [decide_eq_true e2] at z2
        clear hX hY j2 c1 c2 hb hm hm' e1 e2
        go_enter Tryz.func58, Tryz.ntmps58
        go_wp2_with fail
        refine (i1 w).mono ?_; rintro e w' ⟨rfl, hw'⟩; obtain rfl := hw'.symm; clear hw'
        go_wp2_with fail
        refine (i2 w).mono ?_; rintro e w' ⟨rfl, hw'⟩; obtain rfl := hw'.symm; clear hw'
        go_wp2_with fail
        refine (j1 w).mono ?_; rintro e w' ⟨rfl, hw'⟩; obtain rfl := hw'.symm; clear hw'
        go_wp2_with fail
        refine (z1 w).mono ?_; rintro e w' ⟨rfl, hw'⟩; obtain rfl := hw'.symm; clear hw'
        go_wp2_with fail
        refine (z2 w).mono ?_; rintro e w' ⟨rfl, hw'⟩; obtain rfl := hw'.symm; clear hw'
        go_wp2
        exact bodyPost_ret (v := .int .u64 9221120237041090561) (by simp [results, Tryz.results58, go_sem]) rfl ⟨rfl, Kp.refl _⟩
      · rw [decide_eq_false (by omega)] at j1
        rw [decide_eq_true e2] at j2
        rw [decide_eq_true e1] at z1
        clear hX hY z2 c1 c2 hb hm hm' e1 e2
        go_enter Tryz.func58, Tryz.ntmps58
        go_wp2_with fail
        refine (i1 w).mono ?_; rintro e w' ⟨rfl, hw'⟩; obtain rfl := hw'.symm; clear hw'
        go_wp2_with fail
        refine (i2 w).mono ?_; rintro e w' ⟨rfl, hw'⟩; obtain rfl := hw'.symm; clear hw'
        go_wp2_with fail
        refine (j1 w).mono ?_; rintro e w' ⟨rfl, hw'⟩; obtain rfl := hw'.symm; clear hw'
        go_wp2_with fail
        refine (j2 w).mono ?_; rintro e w' ⟨rfl, hw'⟩; obtain rfl := hw'.symm; clear hw'
        go_wp2_with fail
        refine (z1 w).mono ?_; rintro e w' ⟨rfl, hw'⟩; obtain rfl := hw'.symm; clear hw'
        go_wp2
        exact bodyPost_ret (v := .int .u64 9221120237041090561) (by simp [results, Tryz.results58, go_sem]) rfl ⟨rfl, Kp.refl _⟩
set_option maxRecDepth 20000 in
set_option maxHeartbeats 1000000 in
theorem rprodI_ (d : Int) (n n' : Bool) (m m' : Nat) (hm : m < 9223372036854775808) (hm' : m' < 9223372036854775808) (hb : ¬ badP m m') (hi : ¬ (m < 9218868437227405312 ∧ m' < 9218868437227405312)) (w : World) :
    Calls Tryz.prog 58 #[.int .i64 d, .int .u64 ((Fq.wD n m : Nat) : Int), .int .u64 ((Fq.wD n' m' : Nat) : Int)] w fun e w' => e = .returned (.int .u64 ((Fq.wD (n ^^ n') 9218868437227405312 : Nat) : Int)) ∧ Kp w w' := by
  unfold badP at hb
  have hz : m ≠ 0 := by omega
  have hz' : m' ≠ 0 := by omega
  have i1 := fun w => isnan_ n m hm w
  have i2 := fun w => isnan_ n' m' hm' w
  have j1 := fun w => isinf_ n m hm w
  have j2 := fun w => isinf_ n' m' hm' w
  have z1 := fun w => zero3_ n m hm w
  have z2 := fun w => zero3_ n' m' hm' w
  obtain ⟨X, hX⟩ : ∃ X, X = Fq.wD n m := ⟨_, rfl⟩
  obtain ⟨Y, hY⟩ : ∃ Y, Y = Fq.wD n' m' := ⟨_, rfl⟩
  have n1 := fun w => neg3_ n m hm hz w
  have n2 := fun w => neg3_ n' m' hm' hz' w
  have f1 := fun w => infin3_ (n ^^ n') w
  rw [← hX] at i1 j1 z1 n1
  rw [← hY] at i2 j2 z2 n2
  obtain ⟨Z, hZ⟩ : ∃ Z, Z = Fq.wD (n ^^ n') 9218868437227405312 := ⟨_, rfl⟩
  rw [← hZ] at f1
  rw [← hX, ← hY, ← hZ]
  rw [decide_eq_false (by omega)] at i1 i2 z1 z2
  obtain ⟨st, hst⟩ : ∃ st, st = (n ^^ n') := ⟨_, rfl⟩
  have hst2 : (n != n') = st := by rw [hst]
  have hst3 : (!decide (n = n')) = st := by rw [hst]; cases n <;> cases n' <;> rfl
  have hst4 : (!(n == n')) = st := by rw [hst]; cases n <;> cases n' <;> rfl
  rw [← hst] at f1
  clear hst hZ hX hY hz hz'
  by_cases c3 : m = 9218868437227405312
  · rw [decide_eq_true c3] at j1
    clear hb hi hm hm' c3 j2
    go_enter Tryz.func58, Tryz.ntmps58
    go_wp2_with fail
    refine (i1 w).mono ?_; rintro e w' ⟨rfl, hw'⟩; obtain rfl := hw'.symm; clear hw'
    go_wp2_with fail
    refine (i2 w).mono ?_; rintro e w' ⟨rfl, hw'⟩; obtain rfl := hw'.symm; clear hw'
    go_wp2_with fail
    refine (j1 w).mono ?_; rintro e w' ⟨rfl, hw'⟩; obtain rfl := hw'.symm; clear hw'
    go_wp2_with fail
    refine (z1 w).mono ?_; rintro e w' ⟨rfl, hw'⟩; obtain rfl := hw'.symm; clear hw'
    go_wp2_with fail
    refine (z2 w).mono ?_; rintro e w' ⟨rfl, hw'⟩; obtain rfl := hw'.symm; clear hw'
    go_wp2_with fail
    refine (n1 w).mono ?_; rintro e w' ⟨rfl, hw'⟩; obtain rfl := hw'.symm; clear hw'
    go_wp2_with fail
    refine (n2 w).mono ?_; rintro e w' ⟨rfl, hw'⟩; obtain rfl := hw'.symm; clear hw'
    go_wp2_with fail
    refine (f1 w).mono ?_; rintro e w' ⟨rfl, hw'⟩; obtain rfl := hw'.symm; clear hw'
    go_wp2
    exact bodyPost_ret (v := .int .u64 (Z : Int)) (by simp [results, Tryz.results58, go_sem]) rfl ⟨rfl, Kp.refl _⟩
  · rw [decide_eq_false c3] at j1
    rw [decide_eq_true (by omega)] at j2
    clear hb hi hm hm' c3
    go_enter Tryz.func58, Tryz.ntmps58
    go_wp2_with fail
    refine (i1 w).mono ?_; rintro e w' ⟨rfl, hw'⟩; obtain rfl := hw'.symm; clear hw'
    go_wp2_with fail
    refine (i2 w).mono ?_; rintro e w' ⟨rfl, hw'⟩; obtain rfl := hw'.symm; clear hw'
    go_wp2_with fail
    refine (j1 w).mono ?_; rintro e w' ⟨rfl, hw'⟩; obtain rfl := hw'.symm; clear hw'
    go_wp2_with fail
    refine (j2 w).mono ?_; rintro e w' ⟨rfl, hw'⟩; obtain rfl := hw'.symm; clear hw'
    go_wp2_with fail
    refine (z1 w).mono ?_; rintro e w' ⟨rfl, hw'⟩; obtain rfl := hw'.symm; clear hw'
    go_wp2_with fail
    refine (z2 w).mono ?_; rintro e w' ⟨rfl, hw'⟩; obtain rfl := hw'.symm; clear hw'
    go_wp2_with fail
    refine (n1 w).mono ?_; rintro e w' ⟨rfl, hw'⟩; obtain rfl := hw'.symm; clear hw'
    go_wp2_with fail
    refine (n2 w).mono ?_; rintro e w' ⟨rfl, hw'⟩; obtain rfl := hw'.symm; clear hw'
    go_wp2_with fail
    refine (f1 w).mono ?_; rintro e w' ⟨rfl, hw'⟩; obtain rfl := hw'.symm; clear hw'
    go_wp2
    exact bodyPost_ret (v := .int .u64 (Z : Int)) (by simp [results, Tryz.results58, go_sem]) rfl ⟨rfl, Kp.refl _⟩
end Go.Proofs.YtokhnokobkmmkaaGreatDoor
