import Derived.Test.YtokhnokobkmmkaaGreatDoorKTRe
namespace Go.Proofs.YtokhnokobkmmkaaGreatDoor
open Go.RowKit
set_option maxRecDepth 20000 in
set_option maxHeartbeats 2000000 in
theorem rmulQ4_ (X1 X2 R TT : Int) (f1 f2 : Bool) (s1 : Bool) (p1 : Option Addr) (l1 c1 : Nat) (q1 : Option Addr) (k1 d1 : Nat) (P M N P2 M2 N2 : Bool) (T : Nat) (hok : f1 = false ∨ (f1 = true ∧ f2 = false)) (hf1 : ∀ w : World, Calls Tryz.prog 45 #[.int .u64 X1] w fun e w' => e = .returned (.bool f1) ∧ w' = w) (hf2 : ∀ w : World, Calls Tryz.prog 45 #[.int .u64 X2] w fun e w' => e = .returned (.bool f2) ∧ w' = w) (hmu : ∀ w : World, Calls Tryz.prog 58 #[.int .i64 0, .int .u64 X1, .int .u64 X2] w fun e w' => e = .returned (.int .u64 R) ∧ Kp w w') (hadd : ∀ w : World, Calls Tryz.prog 32 #[.agg #[.bool s1, .slice p1 l1 c1, .slice q1 k1 d1, .bool P, .bool M, .bool N, .int .u64 (T : Int)], .int .u64 R] w fun e w' => e = .returned (.agg #[.bool s1, .slice p1 l1 c1, .slice q1 k1 d1, .bool P2, .bool M2, .bool N2, .int .u64 TT]) ∧ Kp w w') (w : World) : Calls Tryz.prog 31 #[.agg #[.bool s1, .slice p1 l1 c1, .slice q1 k1 d1, .bool P, .bool M, .bool N, .int .u64 (T : Int)], .int .u64 X1, .int .u64 X2] w fun e w' => e = .returned (.agg #[.bool s1, .slice p1 l1 c1, .slice q1 k1 d1, .bool P2, .bool M2, .bool N2, .int .u64 TT]) ∧ Kp w w' := by
  have h7 : H7c ((w.alloc (.cells #[.bool s1, .slice p1 l1 c1, .slice q1 k1 d1, .bool P, .bool M, .bool N, .int .u64 (T : Int)] 30)).alloc (.cells #[.bool false, .slice none 0 0, .slice none 0 0, .bool false, .bool false, .bool false, .int .u64 0] 30)) w.heap.size (.bool s1) (.slice p1 l1 c1) (.slice q1 k1 d1) (.bool P) (.bool M) (.bool N) (.int .u64 (T : Int)) := (H7c.new w (.bool s1) (.slice p1 l1 c1) (.slice q1 k1 d1) (.bool P) (.bool M) (.bool N) (.int .u64 (T : Int)) 30).keep ((Kp.refl _).alloc _)
  have h8 : H7c ((w.alloc (.cells #[.bool s1, .slice p1 l1 c1, .slice q1 k1 d1, .bool P, .bool M, .bool N, .int .u64 (T : Int)] 30)).alloc (.cells #[.bool false, .slice none 0 0, .slice none 0 0, .bool false, .bool false, .bool false, .int .u64 0] 30)) (w.heap.size + 1) (.bool false) (.slice none 0 0) (.slice none 0 0) (.bool false) (.bool false) (.bool false) (.int .u64 0) := by
    have := H7c.new (w.alloc (.cells #[.bool s1, .slice p1 l1 c1, .slice q1 k1 d1, .bool P, .bool M, .bool N, .int .u64 (T : Int)] 30)) (.bool false) (.slice none 0 0) (.slice none 0 0) (.bool false) (.bool false) (.bool false) (.int .u64 0) 30
    simpa using this
  have kw : Kp w ((w.alloc (.cells #[.bool s1, .slice p1 l1 c1, .slice q1 k1 d1, .bool P, .bool M, .bool N, .int .u64 (T : Int)] 30)).alloc (.cells #[.bool false, .slice none 0 0, .slice none 0 0, .bool false, .bool false, .bool false, .int .u64 0] 30)) := ((Kp.refl w).alloc _).alloc _
  have hb1 : w.heap.size ≤ w.heap.size := Nat.le_refl _
  rcases hok with rfl | ⟨rfl, rfl⟩
  · go_enter Tryz.func31, Tryz.ntmps31
    go_upto_region 5 with (first | (go_at_call_of 45 (Value.int IntKind.u64 X1); refine (hf1 _).mono ?_; rintro e w' ⟨rfl, hw'⟩; obtain rfl := hw'.symm; clear hw') | (go_at_call_of 45 (Value.int IntKind.u64 X2); refine (hf2 _).mono ?_; rintro e w' ⟨rfl, hw'⟩; obtain rfl := hw'.symm; clear hw'))
    generalize ((w.alloc (.cells #[.bool s1, .slice p1 l1 c1, .slice q1 k1 d1, .bool P, .bool M, .bool N, .int .u64 (T : Int)] 30)).alloc (.cells #[.bool false, .slice none 0 0, .slice none 0 0, .bool false, .bool false, .bool false, .int .u64 0] 30)) = W0 at h7 h8 kw ⊢
    generalize hb9 : w.heap.size = b at h7 h8 ⊢
    rw [hb9] at hb1
    have hbw : w.heap.size ≤ b := by rw [hb9]; exact hb1
    have h7d : H7c W0.drew b (.bool s1) (.slice p1 l1 c1) (.slice q1 k1 d1) (.bool P) (.bool M) (.bool N) (.int .u64 (T : Int)) := h7
    have h8d : H7c W0.drew (b + 1) (.bool false) (.slice none 0 0) (.slice none 0 0) (.bool false) (.bool false) (.bool false) (.int .u64 0) := h8
    have kwd : Kp w W0.drew := kw.drew
    clear h7 h8 kw
    obtain ⟨r0, r1, r2, r3, r4, r5, r6, r7, r8, r9, r10, r11, r12, r13⟩ := id h7d
    first | (go_region_with (first | (go_at_call 58; refine (hmu _).mono ?_; rintro e W3 ⟨rfl, g3⟩; have kw3 := kwd.trans g3; have h73 := h7d.keep g3; have h83 := h8d.keep g3; obtain ⟨u0, u1, u2, u3, u4, u5, u6, u7, u8, u9, u10, u11, u12, u13⟩ := id h73; obtain ⟨x0, x1, x2, x3, x4, x5, x6, x7, x8, x9, x10, x11, x12, x13⟩ := id h83) | (go_at_call 32; refine (hadd _).mono ?_; rintro e W4 ⟨rfl, g4⟩; have kw4 := kw3.trans g4; have h84 := h83.keep g4; obtain ⟨z0, z1, z2, z3, z4, z5, z6, z7, z8, z9, z10, z11, z12, z13⟩ := id h84))) | fail
    all_goals (
      go_wp2
      exact bodyPost_ret (v := .agg #[.bool s1, .slice p1 l1 c1, .slice q1 k1 d1, .bool P2, .bool M2, .bool N2, .int .u64 TT]) (by simp [results, Tryz.results31, go_sem, z0, z1, z2, z3, z4, z5, z6]) rfl ⟨rfl, (((((((kw4.setCell (show w.heap.size ≤ b + 1 by omega) _).setCell (show w.heap.size ≤ b + 1 by omega) _).setCell (show w.heap.size ≤ b + 1 by omega) _).setCell (show w.heap.size ≤ b + 1 by omega) _).setCell (show w.heap.size ≤ b + 1 by omega) _).setCell (show w.heap.size ≤ b + 1 by omega) _).setCell (show w.heap.size ≤ b + 1 by omega) _)⟩)
  · go_enter Tryz.func31, Tryz.ntmps31
    go_upto_region 5 with (first | (go_at_call_of 45 (Value.int IntKind.u64 X1); refine (hf1 _).mono ?_; rintro e w' ⟨rfl, hw'⟩; obtain rfl := hw'.symm; clear hw') | (go_at_call_of 45 (Value.int IntKind.u64 X2); refine (hf2 _).mono ?_; rintro e w' ⟨rfl, hw'⟩; obtain rfl := hw'.symm; clear hw'))
    generalize ((w.alloc (.cells #[.bool s1, .slice p1 l1 c1, .slice q1 k1 d1, .bool P, .bool M, .bool N, .int .u64 (T : Int)] 30)).alloc (.cells #[.bool false, .slice none 0 0, .slice none 0 0, .bool false, .bool false, .bool false, .int .u64 0] 30)) = W0 at h7 h8 kw ⊢
    generalize hb9 : w.heap.size = b at h7 h8 ⊢
    rw [hb9] at hb1
    have hbw : w.heap.size ≤ b := by rw [hb9]; exact hb1
    have h7d : H7c W0.drew b (.bool s1) (.slice p1 l1 c1) (.slice q1 k1 d1) (.bool P) (.bool M) (.bool N) (.int .u64 (T : Int)) := h7
    have h8d : H7c W0.drew (b + 1) (.bool false) (.slice none 0 0) (.slice none 0 0) (.bool false) (.bool false) (.bool false) (.int .u64 0) := h8
    have kwd : Kp w W0.drew := kw.drew
    clear h7 h8 kw
    obtain ⟨r0, r1, r2, r3, r4, r5, r6, r7, r8, r9, r10, r11, r12, r13⟩ := id h7d
    first | (go_region_with (first | (go_at_call 58; refine (hmu _).mono ?_; rintro e W3 ⟨rfl, g3⟩; have kw3 := kwd.trans g3; have h73 := h7d.keep g3; have h83 := h8d.keep g3; obtain ⟨u0, u1, u2, u3, u4, u5, u6, u7, u8, u9, u10, u11, u12, u13⟩ := id h73; obtain ⟨x0, x1, x2, x3, x4, x5, x6, x7, x8, x9, x10, x11, x12, x13⟩ := id h83) | (go_at_call 32; refine (hadd _).mono ?_; rintro e W4 ⟨rfl, g4⟩; have kw4 := kw3.trans g4; have h84 := h83.keep g4; obtain ⟨z0, z1, z2, z3, z4, z5, z6, z7, z8, z9, z10, z11, z12, z13⟩ := id h84))) | fail
    all_goals (
      go_wp2
      exact bodyPost_ret (v := .agg #[.bool s1, .slice p1 l1 c1, .slice q1 k1 d1, .bool P2, .bool M2, .bool N2, .int .u64 TT]) (by simp [results, Tryz.results31, go_sem, z0, z1, z2, z3, z4, z5, z6]) rfl ⟨rfl, (((((((kw4.setCell (show w.heap.size ≤ b + 1 by omega) _).setCell (show w.heap.size ≤ b + 1 by omega) _).setCell (show w.heap.size ≤ b + 1 by omega) _).setCell (show w.heap.size ≤ b + 1 by omega) _).setCell (show w.heap.size ≤ b + 1 by omega) _).setCell (show w.heap.size ≤ b + 1 by omega) _).setCell (show w.heap.size ≤ b + 1 by omega) _)⟩)

theorem splitA_ (n : Bool) (m : Nat) (hm : m < 9223372036854775808) : ∃ (a : Bool) (c e : Int), ∀ w : World, Calls Tryz.prog 40 #[.float .f64 (Fq.wD n m)] w fun r w' => r = .returned (.tuple #[.bool a, .int .u64 c, .int .i64 e, .bool (decide (m < 9218868437227405312))]) ∧ Kp w w' := by
  by_cases c : m < 9218868437227405312
  · rw [decide_eq_true c]; exact ⟨_, _, _, fun w => Fq.split_d n m c w⟩
  · rw [decide_eq_false c]; exact ⟨_, _, _, fun w => Fq.splitx_d n m (by omega) hm w⟩
set_option maxRecDepth 20000 in
set_option maxHeartbeats 1000000 in
theorem mulN_ (X1 X2 : Nat) (a1 a2 : Bool) (c1 e1 c2 e2 : Int) (ok1 ok2 : Bool) (b : Nat) (ws : List Nat) (k : Nat) (s : Int) (hsp1 : ∀ w : World, Calls Tryz.prog 40 #[.float .f64 X1] w fun r w' => r = .returned (.tuple #[.bool a1, .int .u64 c1, .int .i64 e1, .bool ok1]) ∧ Kp w w') (hsp2 : ∀ w : World, Calls Tryz.prog 40 #[.float .f64 X2] w fun r w' => r = .returned (.tuple #[.bool a2, .int .u64 c2, .int .i64 e2, .bool ok2]) ∧ Kp w w') (hok : ok1 = false ∨ (ok1 = true ∧ ok2 = false)) (hnan : ∀ w : World, ∃ r, 9218868437227405312 < r % 9223372036854775808 ∧ r < 18446744073709551616 ∧ (binOp .mul 48 (.float .f64 X1) (.float .f64 X2)).run Tryz.prog w = .ok (.float .f64 r) w.drew) (w : World) (hS : Sb w b ws k s) : Calls Tryz.prog 37 #[.pointer (some ⟨b, 0, none⟩), .float .f64 X1, .float .f64 X2] w fun e w' => (∃ v, e = .returned v) ∧ Sb w' b ws ((k + 1) % 18446744073709551616) (grS ((k + 1) % 18446744073709551616) (jn s 2)) ∧ Kb b w w' := by
  have kA : Kb b w w := Kb.refl _ _
  rcases hok with rfl | ⟨rfl, rfl⟩
  · go_enter Tryz.func37, Tryz.ntmps37
    go_wp2_with (first | (go_at_call_of 40 (Value.float FloatKind.f64 X1); refine (hsp1 _).mono ?_; rintro e w1 ⟨rfl, g1⟩; replace hS := hS.kp g1; replace kA := kA.trans (Kb.of (g := b) g1)) | (go_at_call_of 40 (Value.float FloatKind.f64 X2); refine (hsp2 _).mono ?_; rintro e w2 ⟨rfl, g2⟩; replace hS := hS.kp g2; replace kA := kA.trans (Kb.of (g := b) g2); obtain ⟨r, hr1, hr2, hrun⟩ := hnan w2; obtain ⟨n9, m9, hm9, rfl⟩ := Fq.exD r hr2; have hadd := addX_ n9 m9 (by have := (wD_parts n9 m9 hm9).1; omega) hm9 b ws k s w2.drew (hS.kp ((Kp.refl _).drew)); rw [show tS n9 m9 = 2 from by unfold tS; rw [if_pos (by have := (wD_parts n9 m9 hm9).1; omega)]] at hadd; have kA := kA.drew) | (go_at_call 17; refine hadd.mono ?_; rintro e w3 ⟨⟨v3, rfl⟩, hZ, k3⟩))
    first | exact bodyPost_ret (v := .tuple #[]) (by kernel_rfl) rfl ⟨⟨_, rfl⟩, hZ, kA.trans k3⟩ | exact bodyPost_ret (v := .tuple #[]) (by simp [results, Tryz.results37, go_sem]) rfl ⟨⟨_, rfl⟩, hZ, kA.trans k3⟩
  · go_enter Tryz.func37, Tryz.ntmps37
    go_wp2_with (first | (go_at_call_of 40 (Value.float FloatKind.f64 X1); refine (hsp1 _).mono ?_; rintro e w1 ⟨rfl, g1⟩; replace hS := hS.kp g1; replace kA := kA.trans (Kb.of (g := b) g1)) | (go_at_call_of 40 (Value.float FloatKind.f64 X2); refine (hsp2 _).mono ?_; rintro e w2 ⟨rfl, g2⟩; replace hS := hS.kp g2; replace kA := kA.trans (Kb.of (g := b) g2); obtain ⟨r, hr1, hr2, hrun⟩ := hnan w2; obtain ⟨n9, m9, hm9, rfl⟩ := Fq.exD r hr2; have hadd := addX_ n9 m9 (by have := (wD_parts n9 m9 hm9).1; omega) hm9 b ws k s w2.drew (hS.kp ((Kp.refl _).drew)); rw [show tS n9 m9 = 2 from by unfold tS; rw [if_pos (by have := (wD_parts n9 m9 hm9).1; omega)]] at hadd; have kA := kA.drew) | (go_at_call 17; refine hadd.mono ?_; rintro e w3 ⟨⟨v3, rfl⟩, hZ, k3⟩))
    first | exact bodyPost_ret (v := .tuple #[]) (by kernel_rfl) rfl ⟨⟨_, rfl⟩, hZ, kA.trans k3⟩ | exact bodyPost_ret (v := .tuple #[]) (by simp [results, Tryz.results37, go_sem]) rfl ⟨⟨_, rfl⟩, hZ, kA.trans k3⟩
set_option maxRecDepth 20000 in
set_option maxHeartbeats 1000000 in
theorem mulI_ (X1 X2 : Nat) (a1 a2 : Bool) (c1 e1 c2 e2 : Int) (ok1 ok2 : Bool) (b : Nat) (ws : List Nat) (k : Nat) (s : Int) (hsp1 : ∀ w : World, Calls Tryz.prog 40 #[.float .f64 X1] w fun r w' => r = .returned (.tuple #[.bool a1, .int .u64 c1, .int .i64 e1, .bool ok1]) ∧ Kp w w') (hsp2 : ∀ w : World, Calls Tryz.prog 40 #[.float .f64 X2] w fun r w' => r = .returned (.tuple #[.bool a2, .int .u64 c2, .int .i64 e2, .bool ok2]) ∧ Kp w w') (hok : ok1 = false ∨ (ok1 = true ∧ ok2 = false)) (R : Nat) (S9 : Int) (hinf : ∀ w : World, (binOp .mul 48 (.float .f64 X1) (.float .f64 X2)).run Tryz.prog w = .ok (.float .f64 R) w) (hadd0 : ∀ w : World, Sb w b ws k s → Calls Tryz.prog 17 #[.pointer (some ⟨b, 0, none⟩), .float .f64 R] w fun e w' => (∃ v, e = .returned v) ∧ Sb w' b ws ((k + 1) % 18446744073709551616) (grS ((k + 1) % 18446744073709551616) (jn s S9)) ∧ Kb b w w') (w : World) (hS : Sb w b ws k s) : Calls Tryz.prog 37 #[.pointer (some ⟨b, 0, none⟩), .float .f64 X1, .float .f64 X2] w fun e w' => (∃ v, e = .returned v) ∧ Sb w' b ws ((k + 1) % 18446744073709551616) (grS ((k + 1) % 18446744073709551616) (jn s S9)) ∧ Kb b w w' := by
  have kA : Kb b w w := Kb.refl _ _
  rcases hok with rfl | ⟨rfl, rfl⟩
  · go_enter Tryz.func37, Tryz.ntmps37
    go_wp2_with (first | (go_at_call_of 40 (Value.float FloatKind.f64 X1); refine (hsp1 _).mono ?_; rintro e w1 ⟨rfl, g1⟩; replace hS := hS.kp g1; replace kA := kA.trans (Kb.of (g := b) g1)) | (go_at_call_of 40 (Value.float FloatKind.f64 X2); refine (hsp2 _).mono ?_; rintro e w2 ⟨rfl, g2⟩; replace hS := hS.kp g2; replace kA := kA.trans (Kb.of (g := b) g2); have hrun := hinf w2; have hadd := hadd0 w2 hS) | (go_at_call 17; refine hadd.mono ?_; rintro e w3 ⟨⟨v3, rfl⟩, hZ, k3⟩))
    first | exact bodyPost_ret (v := .tuple #[]) (by kernel_rfl) rfl ⟨⟨_, rfl⟩, hZ, kA.trans k3⟩ | exact bodyPost_ret (v := .tuple #[]) (by simp [results, Tryz.results37, go_sem]) rfl ⟨⟨_, rfl⟩, hZ, kA.trans k3⟩
  · go_enter Tryz.func37, Tryz.ntmps37
    go_wp2_with (first | (go_at_call_of 40 (Value.float FloatKind.f64 X1); refine (hsp1 _).mono ?_; rintro e w1 ⟨rfl, g1⟩; replace hS := hS.kp g1; replace kA := kA.trans (Kb.of (g := b) g1)) | (go_at_call_of 40 (Value.float FloatKind.f64 X2); refine (hsp2 _).mono ?_; rintro e w2 ⟨rfl, g2⟩; replace hS := hS.kp g2; replace kA := kA.trans (Kb.of (g := b) g2); have hrun := hinf w2; have hadd := hadd0 w2 hS) | (go_at_call 17; refine hadd.mono ?_; rintro e w3 ⟨⟨v3, rfl⟩, hZ, k3⟩))
    first | exact bodyPost_ret (v := .tuple #[]) (by kernel_rfl) rfl ⟨⟨_, rfl⟩, hZ, kA.trans k3⟩ | exact bodyPost_ret (v := .tuple #[]) (by simp [results, Tryz.results37, go_sem]) rfl ⟨⟨_, rfl⟩, hZ, kA.trans k3⟩

def yV (X Y : Nat) : Int := if X % 9223372036854775808 < 9218868437227405312 ∧ Y % 9223372036854775808 < 9218868437227405312 then Iv (decide (9223372036854775808 ≤ X)) (X % 9223372036854775808) * Iv (decide (9223372036854775808 ≤ Y)) (Y % 9223372036854775808) else 0
def yS (X Y : Nat) : Int := if X % 9223372036854775808 < 9218868437227405312 ∧ Y % 9223372036854775808 < 9218868437227405312 then 0 else if 9218868437227405312 < X % 9223372036854775808 ∨ 9218868437227405312 < Y % 9223372036854775808 ∨ (X % 9223372036854775808 = 9218868437227405312 ∧ Y % 9223372036854775808 = 0) ∨ (X % 9223372036854775808 = 0 ∧ Y % 9223372036854775808 = 9218868437227405312) then 2 else (if (decide (9223372036854775808 ≤ X) ^^ decide (9223372036854775808 ≤ Y)) then -1 else 1)
theorem stmul_ (X Y : Nat) (hX : X < 18446744073709551616) (hY : Y < 18446744073709551616) (b : Nat) (V : Int) (k : Nat) (s : Int) (hk : k < 4611686018427387904) (w : World) (h : St w b V k s) : Calls Tryz.prog 37 #[.pointer (some ⟨b, 0, none⟩), .float .f64 X, .float .f64 Y] w fun e w' => (∃ v, e = .returned v) ∧ St w' b (V + yV X Y) (k + 1) (jn s (yS X Y)) ∧ Kb b w w' := by
  obtain ⟨ws, h1, h2⟩ := h
  obtain ⟨n, m, hm, rfl⟩ := Fq.exD X hX
  obtain ⟨n', m', hm', rfl⟩ := Fq.exD Y hY
  obtain ⟨p1, p2⟩ := wD_parts n m hm
  obtain ⟨q1, q2⟩ := wD_parts n' m' hm'
  have e1 : (k + 1) % 18446744073709551616 = k + 1 := Nat.mod_eq_of_lt (by omega)
  have e2 : ∀ S : Int, grS (k + 1) S = S := fun S => by unfold grS; rw [if_neg (by omega)]
  unfold yV yS
  rw [p1, p2, q1, q2]
  by_cases c : m < 9218868437227405312 ∧ m' < 9218868437227405312
  · rw [if_pos c, if_pos c]
    refine (mul_ n n' m m' c.1 c.2 b ws V h1 k s w h2).mono ?_
    rintro e w' ⟨us, hv, hS, hR, g⟩
    rw [e1, e2] at hS
    exact ⟨hv, ⟨us, hR, hS⟩, g⟩
  · rw [if_neg c, if_neg c, Int.add_zero]
    obtain ⟨a1, c1, d1, hs1⟩ := splitA_ n m hm
    obtain ⟨a2, c2, d2, hs2⟩ := splitA_ n' m' hm'
    have hok : decide (m < 9218868437227405312) = false ∨ (decide (m < 9218868437227405312) = true ∧ decide (m' < 9218868437227405312) = false) := by
      by_cases z : m < 9218868437227405312
      · exact Or.inr ⟨decide_eq_true z, decide_eq_false (fun h => c ⟨z, h⟩)⟩
      · exact Or.inl (decide_eq_false z)
    by_cases cb : 9218868437227405312 < m ∨ 9218868437227405312 < m' ∨ (m = 9218868437227405312 ∧ m' = 0) ∨ (m = 0 ∧ m' = 9218868437227405312)
    · rw [if_pos cb]
      refine (mulN_ _ _ a1 a2 c1 d1 c2 d2 _ _ b ws k s hs1 hs2 hok (fun w => run_nan_mul _ _ (mul_bad n n' m m' hm hm' cb) w) w h2).mono ?_
      rintro e w' ⟨hv, hS, g⟩
      rw [e1, e2] at hS
      exact ⟨hv, ⟨ws, h1, hS⟩, g⟩
    · rw [if_neg cb]
      have hmi := mul_inf n n' m m' cb c
      have hts : tS (n ^^ n') 9218868437227405312 = if (n ^^ n') then -1 else 1 := by unfold tS; rw [if_neg (by decide), if_pos rfl]
      refine (mulI_ _ _ a1 a2 c1 d1 c2 d2 _ _ b ws k s hs1 hs2 hok (Fq.wD (n ^^ n') 9218868437227405312) _ (fun w => run_float_arith w .mul 48 .f64 _ _ _ hmi) (fun w h => by have := addX_ (n ^^ n') 9218868437227405312 (Nat.le_refl _) (by decide) b ws k s w h; rw [hts] at this; exact this) w h2).mono ?_
      rintro e w' ⟨hv, hS, g⟩
      rw [e1, e2] at hS
      exact ⟨hv, ⟨ws, h1, hS⟩, g⟩
theorem yV_le (X Y K : Nat) (hK : K = 1074) : (yV X Y).natAbs ≤ tb K := by
  unfold yV
  by_cases c : X % 9223372036854775808 < 9218868437227405312 ∧ Y % 9223372036854775808 < 9218868437227405312
  · rw [if_pos c]; exact pV_le _ _ _ _ K hK c.1 c.2
  · rw [if_neg c]; simp

def yP (X Y : Nat) : Bool := decide (yS X Y = 1)
def yM (X Y : Nat) : Bool := decide (yS X Y = -1)
def yN (X Y : Nat) : Bool := decide (yS X Y = 2)
theorem yS_cases (X Y : Nat) : yS X Y = 0 ∨ yS X Y = 1 ∨ yS X Y = -1 ∨ yS X Y = 2 := by
  unfold yS
  by_cases a : X % 9223372036854775808 < 9218868437227405312 ∧ Y % 9223372036854775808 < 9218868437227405312
  · rw [if_pos a]; omega
  · rw [if_neg a]
    by_cases b : 9218868437227405312 < X % 9223372036854775808 ∨ 9218868437227405312 < Y % 9223372036854775808 ∨ (X % 9223372036854775808 = 9218868437227405312 ∧ Y % 9223372036854775808 = 0) ∨ (X % 9223372036854775808 = 0 ∧ Y % 9223372036854775808 = 9218868437227405312)
    · rw [if_pos b]; omega
    · rw [if_neg b]
      by_cases c : (decide (9223372036854775808 ≤ X) ^^ decide (9223372036854775808 ≤ Y)) = true
      · rw [if_pos c]; omega
      · rw [if_neg c]; omega
theorem refmul_ (X Y K B : Nat) (hK : K = 1074) (hX : X < 18446744073709551616) (hY : Y < 18446744073709551616) (hB : B ≤ 60000) (v : Value) (V : Int) (T : Nat) (hT : T < 4611686018427387904) (P M N : Bool) (hV : V.natAbs < 2 ^ B) (hV2 : (yV X Y).natAbs < 2 ^ B) (G : Nat → Prop) (w : World) (hG : ∀ g, G g → g < w.heap.size) (h : Rz G w v V K T P M N) : Calls Tryz.prog 31 #[v, .int .u64 (X : Int), .int .u64 (Y : Int)] w fun e w' => ∃ v', e = .returned v' ∧ Rz G w' v' (V + yV X Y) K (T + 1) (P || yP X Y) (M || yM X Y) (N || yN X Y) ∧ Kp w w' := by
  obtain ⟨s1, p1, l1, c1, q1, k1, d1, rfl, hD, hN⟩ := h
  have hf1 := fin4_ X hX
  have hf2 := fin4_ Y hY
  obtain ⟨n, m, hm, rfl⟩ := Fq.exD X hX
  obtain ⟨n', m', hm', rfl⟩ := Fq.exD Y hY
  obtain ⟨u1, u2⟩ := wD_parts n m hm
  obtain ⟨v1, v2⟩ := wD_parts n' m' hm'
  unfold yP yM yN yS
  unfold yV at hV2 ⊢
  rw [u1] at hf1
  rw [v1] at hf2
  rw [u1, u2, v1, v2] at hV2 ⊢
  by_cases c : m < 9218868437227405312 ∧ m' < 9218868437227405312
  · rw [if_pos c] at hV2 ⊢
    rw [if_pos c]
    rw [decide_eq_true c.1] at hf1
    rw [decide_eq_true c.2] at hf2
    refine (rmul4_ n n' m m' K B hK c.1 c.2 hf1 hf2 hB s1 p1 l1 c1 q1 k1 d1 P M N T hT V hV hV2 (K + 1024) (by omega) (iv_lt n m K hK c.1) (iv_lt n' m' K hK c.2) 0 w hD).mono ?_
    rintro e w' ⟨s3, p3, l3, c3, q3, k3, d3, rfl, h3, g⟩
    exact ⟨_, rfl, ⟨s3, p3, l3, c3, q3, k3, d3, by simp, h3.mono (Nat.zero_le _), fun x hx => h3.nbLow (hG x hx)⟩, g⟩
  · rw [if_neg c, if_neg c, Int.add_zero]
    have hok : decide (m < 9218868437227405312) = false ∨ (decide (m < 9218868437227405312) = true ∧ decide (m' < 9218868437227405312) = false) := by
      by_cases z : m < 9218868437227405312
      · exact Or.inr ⟨decide_eq_true z, decide_eq_false (fun h => c ⟨z, h⟩)⟩
      · exact Or.inl (decide_eq_false z)
    by_cases cb : 9218868437227405312 < m ∨ 9218868437227405312 < m' ∨ (m = 9218868437227405312 ∧ m' = 0) ∨ (m = 0 ∧ m' = 9218868437227405312)
    · rw [if_pos cb]
      have hin := isnan_ false 9221120237041090561 (by decide)
      rw [decide_eq_true (by decide)] at hin
      refine (rmulQ4_ _ _ 9221120237041090561 _ _ _ s1 p1 l1 c1 q1 k1 d1 P M N P M true T hok hf1 hf2 (rprodB_ 0 n n' m m' hm hm' cb) (raddN4_ 9221120237041090561 s1 p1 l1 c1 q1 k1 d1 P M N T hT hin) w).mono ?_
      rintro e w' ⟨rfl, g⟩
      exact ⟨_, rfl, ⟨s1, p1, l1, c1, q1, k1, d1, by simp, hD.kp g, hN⟩, g⟩
    · rw [if_neg cb]
      have hin := isnan_ (n ^^ n') 9218868437227405312 (by decide)
      have hii := isinf_ (n ^^ n') 9218868437227405312 (by decide)
      rw [decide_eq_false (by decide)] at hin
      rw [decide_eq_true rfl] at hii
      have hmu := rprodI_ 0 n n' m m' hm hm' cb c
      cases hx : (n ^^ n')
      · rw [hx] at hin hii hmu
        refine (rmulQ4_ _ _ _ _ _ _ s1 p1 l1 c1 q1 k1 d1 P M N true M N T hok hf1 hf2 hmu (raddP4_ _ s1 p1 l1 c1 q1 k1 d1 P M N T hT hin hii (neg4_ _ _ (by decide +kernel))) w).mono ?_
        rintro e w' ⟨rfl, g⟩
        exact ⟨_, rfl, ⟨s1, p1, l1, c1, q1, k1, d1, by simp, hD.kp g, hN⟩, g⟩
      · rw [hx] at hin hii hmu
        refine (rmulQ4_ _ _ _ _ _ _ s1 p1 l1 c1 q1 k1 d1 P M N P true N T hok hf1 hf2 hmu (raddM4_ _ s1 p1 l1 c1 q1 k1 d1 P M N T hT hin hii (neg4_ _ _ (by decide +kernel))) w).mono ?_
        rintro e w' ⟨rfl, g⟩
        exact ⟨_, rfl, ⟨s1, p1, l1, c1, q1, k1, d1, by simp, hD.kp g, hN⟩, g⟩

def dotV : List Nat → List Nat → Int
  | x :: xs, y :: ys => yV x y + dotV xs ys
  | _, _ => 0
theorem dotV_take (xs : List Nat) : ∀ (ys : List Nat) (i : Nat), xs.length = ys.length → i < xs.length → dotV (xs.take (i + 1)) (ys.take (i + 1)) = dotV (xs.take i) (ys.take i) + yV (xs.getD i 0) (ys.getD i 0) := by
  induction xs with
  | nil => intro ys i _ h; simp at h
  | cons x xs ih =>
    intro ys i hl h
    cases ys with
    | nil => simp at hl
    | cons y ys =>
      cases i with
      | zero => simp [dotV]
      | succ i =>
        have e := ih ys i (by simpa using hl) (by simpa using h)
        simp only [List.take_succ_cons, dotV, List.getD_cons_succ] at e ⊢
        rw [e]; omega
def dotS (xs ys : List Nat) : Int := (xs.zip ys).foldl (fun s q => jn s (yS q.1 q.2)) 0
theorem zip_take9 : ∀ (n : Nat) (xs ys : List Nat), (xs.take n).zip (ys.take n) = (xs.zip ys).take n
  | 0, _, _ => by simp
  | _ + 1, [], _ => by simp
  | _ + 1, _ :: _, [] => by simp
  | n + 1, x :: xs, y :: ys => by simp [zip_take9 n xs ys]
theorem dotS_take (xs ys : List Nat) (i : Nat) (hl : xs.length = ys.length) (h : i < xs.length) : dotS (xs.take (i + 1)) (ys.take (i + 1)) = jn (dotS (xs.take i) (ys.take i)) (yS (xs.getD i 0) (ys.getD i 0)) := by
  unfold dotS
  rw [zip_take9, zip_take9, List.take_add_one, List.foldl_append]
  have h2 : i < ys.length := by omega
  have hz : (xs.zip ys)[i]? = some (xs[i], ys[i]) := by rw [List.getElem?_eq_getElem (by simp; omega), List.getElem_zip]
  simp [List.getD, h, h2, hz]
theorem dotV_le (K : Nat) (hK : K = 1074) (xs : List Nat) : ∀ ys : List Nat, (dotV xs ys).natAbs ≤ xs.length * tb K := by
  induction xs with
  | nil => intro ys; simp [dotV]
  | cons x xs ih =>
    intro ys
    cases ys with
    | nil => simp [dotV]
    | cons y ys =>
      have := yV_le x y K hK
      have h2 := ih ys
      simp only [dotV, List.length_cons, Nat.add_mul, Nat.one_mul]
      generalize xs.length * tb K = P at *
      generalize tb K = Q at *
      omega
theorem mem_lt {xs : List Nat} (hx : ∀ x ∈ xs, x < 18446744073709551616) (i : Nat) (h : i < xs.length) : xs.getD i 0 < 18446744073709551616 := hx _ (by rw [List.getD_eq_getElem?_getD, List.getElem?_eq_getElem h]; exact List.getElem_mem _)

set_option maxRecDepth 20000 in
set_option maxHeartbeats 400000 in
theorem fl4_ (x : Nat) (w : World) : Calls Tryz.prog 18 #[.int .u64 (x : Int)] w fun e w' => e = .returned (.float .f64 x) ∧ w' = w := by
  have h := Fq.ff64 x
  go_enter Tryz.func18, Tryz.ntmps18
  go_wp2
  exact bodyPost_ret (v := .float .f64 x) (by simp [results, Tryz.results18, go_sem]) rfl ⟨rfl, rfl⟩
set_option maxRecDepth 20000 in
set_option maxHeartbeats 400000 in
theorem bits4_ (X : Nat) (h : (FloatKind.f64.format.order X X != some .eq) = false) (w : World) : Calls Tryz.prog 23 #[.float .f64 X] w fun e w' => e = .returned (.int .u64 (X : Int)) ∧ w' = w := by
  have h2 := Fq.fb64 X
  go_enter Tryz.func23, Tryz.ntmps23
  go_wp2
  exact bodyPost_ret (v := .int .u64 (X : Int)) (by simp [results, Tryz.results23, go_sem]) rfl ⟨rfl, rfl⟩
theorem lv1 : fmaW 0 (0 + tV false 4607182418800017408 1074 + Iv false 1 * Iv false 4607182418800017408 + tV true 4607182418800017408 1074) = 1 := by decide +kernel
theorem lv2 : sgV (0 + tV false 4607182418800017408 1074 + Iv false 1 * Iv false 4607182418800017408 + tV true 4607182418800017408 1074) = 1 := by decide +kernel
theorem lv3 : ratW (-1) (decide ((0 + tV false 9218868437227405311 1074 + tV false 9218868437227405311 1074) < 0)) (0 + tV false 9218868437227405311 1074 + tV false 9218868437227405311 1074).natAbs 2 (-2148) = 9218868437227405311 := by decide +kernel
theorem lv4 : fmaW 1 (0 + tV false 9218868437227405311 1074 + tV false 9218868437227405311 1074) = 9218868437227405312 := by decide +kernel
theorem lo1 : (FloatKind.f64.format.order 1 1 != some .eq) = false := by decide +kernel
theorem lo2 : (FloatKind.f64.format.order 9218868437227405311 9218868437227405311 != some .eq) = false := by decide +kernel
theorem lo3 : (FloatKind.f64.format.order 9218868437227405312 9218868437227405312 != some .eq) = false := by decide +kernel
theorem Kb.ne {g : Nat} {a w w' : World} (h : Kb g w w') (k : Kp a w) (hg : a.heap.size ≤ g) : Kp a w' := Kb.kp h k hg
set_option maxRecDepth 20000 in
set_option maxHeartbeats 2000000 in
theorem lives_ (w : World) (hT : Tab w) (hQ : Fq.Tab w) : Calls Tryz.prog 13 #[] w fun e w' => e = .returned (.bool true) ∧ Kp w w' := by
  have hnw := fnew_ 1074
  have hfl1 := fl4_ 1
  have hfl2 := fl4_ 4607182418800017408
  have hfl3 := fl4_ 9218868437227405311
  have hb1 := bits4_ 1 lo1
  have hb2 := bits4_ 9218868437227405311 lo2
  have hb3 := bits4_ 9218868437227405312 lo3
  have ha1 := fun (b : Nat) (V : Int) (k : Nat) (hk : k < 4611686018427387904) => fadd_ false 4607182418800017408 (by decide) 1074 rfl b V k hk
  have ha2 := fun (b : Nat) (V : Int) (k : Nat) (hk : k < 4611686018427387904) => fadd_ true 4607182418800017408 (by decide) 1074 rfl b V k hk
  have ha3 := fun (b : Nat) (V : Int) (k : Nat) (hk : k < 4611686018427387904) => fadd_ false 9218868437227405311 (by decide) 1074 rfl b V k hk
  have hm1 := fun (b : Nat) (V : Int) (k : Nat) (hk : k < 4611686018427387904) => fmul_ false false 1 4607182418800017408 (by decide) (by decide) 1074 rfl b V k hk
  rw [show Fq.wD false 4607182418800017408 = 4607182418800017408 from rfl] at ha1 hm1
  rw [show Fq.wD true 4607182418800017408 = 13830554455654793216 from rfl] at ha2
  rw [show Fq.wD false 9218868437227405311 = 9218868437227405311 from rfl] at ha3
  rw [show Fq.wD false 1 = 1 from rfl] at hm1
  have hr1 := fun (b : Nat) (V : Int) (k : Nat) => fround_ 0 (by decide) (by decide) 1074 rfl b V k
  have hr2 := fun (b : Nat) (V : Int) (k : Nat) => fround_ 1 (by decide) (by decide) 1074 rfl b V k
  have ho1 := fun (b : Nat) (V : Int) (k : Nat) => fover_ (-1) (by decide) (by decide) 2 (by decide) (by decide) 1074 rfl b V k
  have hs1 := fun (b : Nat) (V : Int) (k : Nat) => fsign_ 1074 rfl b V k
  have hs2 := fun (b : Nat) (V : Int) (k : Nat) => fstate_ 1074 b V k
  go_enter Tryz.func13, Tryz.ntmps13
  go_wp2_with fail
  refine (hnw _).mono ?_; rintro e w1 ⟨rfl, s1, g1⟩
  go_wp2_with fail
  refine (hnw _).mono ?_; rintro e w2 ⟨rfl, t1, g2⟩
  have hne : w.heap.size ≠ w1.heap.size := by have := s1.lt; omega
  have hz1 : w.heap.size ≤ w1.heap.size := g1.size
  replace s1 := s1.kp g2
  have kw := g1.trans g2
  have hz0 : w.heap.size ≤ w.heap.size := Nat.le_refl _
  clear g1 g2 hnw
  generalize w1.heap.size = b2 at *
  generalize hb9 : w.heap.size = b1 at s1 hne ⊢
  rw [hb9] at hz0
  have hz0 : w.heap.size ≤ b1 := by rw [hb9]; exact hz0
  clear hb9
  go_wp2_with fail
  refine (ha1 b1 _ 0 (by decide) _ s1).mono ?_; rintro e w3 ⟨⟨v3, rfl⟩, s2, k3⟩
  replace t1 := t1.kb k3 (Ne.symm hne)
  replace kw := k3.kp kw hz0
  clear k3 s1
  go_wp2_with fail
  refine (hfl1 _).mono ?_; rintro e w' ⟨rfl, hw'⟩; obtain rfl := hw'.symm; clear hw'
  go_wp2_with fail
  refine (hfl2 _).mono ?_; rintro e w' ⟨rfl, hw'⟩; obtain rfl := hw'.symm; clear hw'
  go_wp2_with fail
  refine (hm1 b1 _ 1 (by decide) _ s2).mono ?_; rintro e w4 ⟨⟨v4, rfl⟩, s3, k4⟩
  replace t1 := t1.kb k4 (Ne.symm hne)
  replace kw := k4.kp kw hz0
  clear k4 s2
  go_wp2_with fail
  refine (ha2 b1 _ 2 (by decide) _ s3).mono ?_; rintro e w5 ⟨⟨v5, rfl⟩, s4, k5⟩
  replace t1 := t1.kb k5 (Ne.symm hne)
  replace kw := k5.kp kw hz0
  clear k5 s3
  go_wp2_with fail
  refine (hfl3 _).mono ?_; rintro e w' ⟨rfl, hw'⟩; obtain rfl := hw'.symm; clear hw'
  go_wp2_with fail
  refine (ha3 b2 _ 0 (by decide) _ t1).mono ?_; rintro e w6 ⟨⟨v6, rfl⟩, t2, k6⟩
  replace s4 := s4.kb k6 hne
  replace kw := k6.kp kw hz1
  clear k6 t1
  go_wp2_with fail
  refine (hfl3 _).mono ?_; rintro e w' ⟨rfl, hw'⟩; obtain rfl := hw'.symm; clear hw'
  go_wp2_with fail
  refine (ha3 b2 _ 1 (by decide) _ t2).mono ?_; rintro e w7 ⟨⟨v7, rfl⟩, t3, k7⟩
  replace s4 := s4.kb k7 hne
  replace kw := k7.kp kw hz1
  clear k7 t2
  have q1 := hr1 b1 _ _ _ s4 (hT.grown kw) (Fq.Tab.grown hQ kw)
  rw [lv1] at q1
  go_wp2_with fail
  refine q1.mono ?_; rintro e w8 ⟨rfl, g8⟩
  replace kw := kw.trans g8
  replace s4 := s4.kp g8
  replace t3 := t3.kp g8
  clear g8 q1
  go_wp2_with fail
  refine (hb1 _).mono ?_; rintro e w' ⟨rfl, hw'⟩; obtain rfl := hw'.symm; clear hw'
  have q2 := hs1 b1 _ _ _ s4
  rw [lv2] at q2
  go_wp2_with fail
  refine q2.mono ?_; rintro e w9 ⟨rfl, g9⟩
  replace kw := kw.trans g9
  replace s4 := s4.kp g9
  replace t3 := t3.kp g9
  clear g9 q2
  go_wp2_with fail
  refine (hs2 b1 _ _ _ s4).mono ?_; rintro e w' ⟨rfl, hw'⟩; obtain rfl := hw'.symm; clear hw'
  have q3 := ho1 b2 _ _ _ t3 (Fq.Tab.grown hQ kw)
  rw [lv3] at q3
  go_wp2_with fail
  refine q3.mono ?_; rintro e w10 ⟨rfl, g10⟩
  replace kw := kw.trans g10
  replace t3 := t3.kp g10
  clear g10 q3
  go_wp2_with fail
  refine (hb2 _).mono ?_; rintro e w' ⟨rfl, hw'⟩; obtain rfl := hw'.symm; clear hw'
  have q4 := hr2 b2 _ _ _ t3 (hT.grown kw) (Fq.Tab.grown hQ kw)
  rw [lv4] at q4
  go_wp2_with fail
  refine q4.mono ?_; rintro e w11 ⟨rfl, g11⟩
  replace kw := kw.trans g11
  clear g11 q4
  go_wp2_with fail
  refine (hb3 _).mono ?_; rintro e w' ⟨rfl, hw'⟩; obtain rfl := hw'.symm; clear hw'
  go_wp2
  exact bodyPost_ret (v := .bool true) (by simp [results, Tryz.results13, go_sem]) rfl ⟨rfl, kw⟩
end Go.Proofs.YtokhnokobkmmkaaGreatDoor
