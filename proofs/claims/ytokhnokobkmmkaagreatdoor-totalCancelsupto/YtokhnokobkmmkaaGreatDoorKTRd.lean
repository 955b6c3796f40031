import Derived.Test.YtokhnokobkmmkaaGreatDoorKTRa
namespace Go.Proofs.YtokhnokobkmmkaaGreatDoor
open Go.RowKit
set_option linter.unusedVariables false
set_option maxRecDepth 20000 in
set_option maxHeartbeats 2000000 in
theorem raddN4_ (X : Int) (s1 : Bool) (p1 : Option Addr) (l1 c1 : Nat) (q1 : Option Addr) (k1 d1 : Nat) (P M N : Bool) (T : Nat) (hT : T < 4611686018427387904) (hin : ∀ w : World, Calls Tryz.prog 51 #[.int .u64 X] w fun e w' => e = .returned (.bool true) ∧ w' = w) (w : World) : Calls Tryz.prog 32 #[.agg #[.bool s1, .slice p1 l1 c1, .slice q1 k1 d1, .bool P, .bool M, .bool N, .int .u64 (T : Int)], .int .u64 X] w fun e w' => e = .returned (.agg #[.bool s1, .slice p1 l1 c1, .slice q1 k1 d1, .bool P, .bool M, .bool true, .int .u64 ((T + 1 : Nat) : Int)]) ∧ Kp w w' := by
  have hmo := more_ s1 p1 l1 c1 q1 k1 d1 P M N T 1 (by omega)
  rw [show (((1 : Nat) : Int)) = 1 from rfl] at hmo
  generalize ((T + 1 : Nat) : Int) = TT at *
  have h7 : H7c ((w.alloc (.cells #[.bool s1, .slice p1 l1 c1, .slice q1 k1 d1, .bool P, .bool M, .bool N, .int .u64 (T : Int)] 30)).alloc (.cells #[.bool false, .slice none 0 0, .slice none 0 0, .bool false, .bool false, .bool false, .int .u64 0] 30)) w.heap.size (.bool s1) (.slice p1 l1 c1) (.slice q1 k1 d1) (.bool P) (.bool M) (.bool N) (.int .u64 (T : Int)) := (H7c.new w (.bool s1) (.slice p1 l1 c1) (.slice q1 k1 d1) (.bool P) (.bool M) (.bool N) (.int .u64 (T : Int)) 30).keep ((Kp.refl _).alloc _)
  have h8 : H7c ((w.alloc (.cells #[.bool s1, .slice p1 l1 c1, .slice q1 k1 d1, .bool P, .bool M, .bool N, .int .u64 (T : Int)] 30)).alloc (.cells #[.bool false, .slice none 0 0, .slice none 0 0, .bool false, .bool false, .bool false, .int .u64 0] 30)) (w.heap.size + 1) (.bool false) (.slice none 0 0) (.slice none 0 0) (.bool false) (.bool false) (.bool false) (.int .u64 0) := by
    have := H7c.new (w.alloc (.cells #[.bool s1, .slice p1 l1 c1, .slice q1 k1 d1, .bool P, .bool M, .bool N, .int .u64 (T : Int)] 30)) (.bool false) (.slice none 0 0) (.slice none 0 0) (.bool false) (.bool false) (.bool false) (.int .u64 0) 30
    simpa using this
  have kw : Kp w ((w.alloc (.cells #[.bool s1, .slice p1 l1 c1, .slice q1 k1 d1, .bool P, .bool M, .bool N, .int .u64 (T : Int)] 30)).alloc (.cells #[.bool false, .slice none 0 0, .slice none 0 0, .bool false, .bool false, .bool false, .int .u64 0] 30)) := ((Kp.refl w).alloc _).alloc _
  have hb1 : w.heap.size ≤ w.heap.size := Nat.le_refl _
  clear hT
  go_enter Tryz.func32, Tryz.ntmps32
  go_upto_region 1 with fail
  generalize ((w.alloc (.cells #[.bool s1, .slice p1 l1 c1, .slice q1 k1 d1, .bool P, .bool M, .bool N, .int .u64 (T : Int)] 30)).alloc (.cells #[.bool false, .slice none 0 0, .slice none 0 0, .bool false, .bool false, .bool false, .int .u64 0] 30)) = W0 at *
  generalize hb9 : w.heap.size = b at h7 h8 ⊢
  rw [hb9] at hb1
  have hbw : w.heap.size ≤ b := by rw [hb9]; exact hb1
  obtain ⟨r0, r1, r2, r3, r4, r5, r6, r7, r8, r9, r10, r11, r12, r13⟩ := id h7
  obtain ⟨t0, t1, t2, t3, t4, t5, t6, t7, t8, t9, t10, t11, t12, t13⟩ := id h8
  go_upto_region 2 with (first | (go_at_call 54; refine (hmo _).mono ?_; rintro e W1 ⟨rfl, g1⟩; replace h7 := h7.keep g1; replace h8 := h8.keep g1; replace kw := kw.trans g1; clear r0 r1 r2 r3 r4 r5 r6 r7 r8 r9 r10 r11 r12 r13 t0 t1 t2 t3 t4 t5 t6 t7 t8 t9 t10 t11 t12 t13; obtain ⟨r0, r1, r2, r3, r4, r5, r6, r7, r8, r9, r10, r11, r12, r13⟩ := id h7; obtain ⟨t0, t1, t2, t3, t4, t5, t6, t7, t8, t9, t10, t11, t12, t13⟩ := id h8))
  have q7 := H7c.put h7 (.bool s1) (.slice p1 l1 c1) (.slice q1 k1 d1) (.bool P) (.bool M) (.bool N) (.int .u64 TT)
  have q8 : H7c (((((((W1.setCell ⟨b, 0, none⟩ (.bool s1)).setCell ⟨b, 1, none⟩ (.slice p1 l1 c1)).setCell ⟨b, 2, none⟩ (.slice q1 k1 d1)).setCell ⟨b, 3, none⟩ (.bool P)).setCell ⟨b, 4, none⟩ (.bool M)).setCell ⟨b, 5, none⟩ (.bool N)).setCell ⟨b, 6, none⟩ (.int .u64 TT)) (b + 1) (.bool false) (.slice none 0 0) (.slice none 0 0) (.bool false) (.bool false) (.bool false) (.int .u64 0) := (H7c.far1 (H7c.far1 (H7c.far1 (H7c.far1 (H7c.far1 (H7c.far1 (H7c.far1 h8 ⟨b, 0, none⟩ (show b ≠ b + 1 by omega) _) ⟨b, 1, none⟩ (show b ≠ b + 1 by omega) _) ⟨b, 2, none⟩ (show b ≠ b + 1 by omega) _) ⟨b, 3, none⟩ (show b ≠ b + 1 by omega) _) ⟨b, 4, none⟩ (show b ≠ b + 1 by omega) _) ⟨b, 5, none⟩ (show b ≠ b + 1 by omega) _) ⟨b, 6, none⟩ (show b ≠ b + 1 by omega) _)
  have kq : Kp w (((((((W1.setCell ⟨b, 0, none⟩ (.bool s1)).setCell ⟨b, 1, none⟩ (.slice p1 l1 c1)).setCell ⟨b, 2, none⟩ (.slice q1 k1 d1)).setCell ⟨b, 3, none⟩ (.bool P)).setCell ⟨b, 4, none⟩ (.bool M)).setCell ⟨b, 5, none⟩ (.bool N)).setCell ⟨b, 6, none⟩ (.int .u64 TT)) := (((((((kw.setCell hbw _).setCell hbw _).setCell hbw _).setCell hbw _).setCell hbw _).setCell hbw _).setCell hbw _)
  generalize (((((((W1.setCell ⟨b, 0, none⟩ (.bool s1)).setCell ⟨b, 1, none⟩ (.slice p1 l1 c1)).setCell ⟨b, 2, none⟩ (.slice q1 k1 d1)).setCell ⟨b, 3, none⟩ (.bool P)).setCell ⟨b, 4, none⟩ (.bool M)).setCell ⟨b, 5, none⟩ (.bool N)).setCell ⟨b, 6, none⟩ (.int .u64 TT)) = W2 at q7 q8 kq ⊢
  clear h7 h8 kw r0 r1 r2 r3 r4 r5 r6 r7 r8 r9 r10 r11 r12 r13 t0 t1 t2 t3 t4 t5 t6 t7 t8 t9 t10 t11 t12 t13
  obtain ⟨r0, r1, r2, r3, r4, r5, r6, r7, r8, r9, r10, r11, r12, r13⟩ := id q7
  obtain ⟨t0, t1, t2, t3, t4, t5, t6, t7, t8, t9, t10, t11, t12, t13⟩ := id q8
  go_wp2_with (first | (go_at_call 51; refine (hin _).mono ?_; rintro e w' ⟨rfl, hw'⟩; obtain rfl := hw'.symm; clear hw'))
  exact bodyPost_ret (v := .agg #[.bool s1, .slice p1 l1 c1, .slice q1 k1 d1, .bool P, .bool M, .bool true, .int .u64 TT]) (by simp [results, Tryz.results32, go_sem, t0, t1, t2, t3, t4, t5, t6]) rfl ⟨rfl, ((((((((kq.setCell hbw _).setCell (show w.heap.size ≤ b + 1 by omega) _).setCell (show w.heap.size ≤ b + 1 by omega) _).setCell (show w.heap.size ≤ b + 1 by omega) _).setCell (show w.heap.size ≤ b + 1 by omega) _).setCell (show w.heap.size ≤ b + 1 by omega) _).setCell (show w.heap.size ≤ b + 1 by omega) _).setCell (show w.heap.size ≤ b + 1 by omega) _)⟩
set_option maxRecDepth 20000 in
set_option maxHeartbeats 2000000 in
theorem raddP4_ (X : Int) (s1 : Bool) (p1 : Option Addr) (l1 c1 : Nat) (q1 : Option Addr) (k1 d1 : Nat) (P M N : Bool) (T : Nat) (hT : T < 4611686018427387904) (hin : ∀ w : World, Calls Tryz.prog 51 #[.int .u64 X] w fun e w' => e = .returned (.bool false) ∧ w' = w) (hii : ∀ w : World, Calls Tryz.prog 59 #[.int .u64 X] w fun e w' => e = .returned (.bool true) ∧ w' = w) (hng : ∀ w : World, Calls Tryz.prog 60 #[.int .u64 X] w fun e w' => e = .returned (.bool false) ∧ w' = w) (w : World) : Calls Tryz.prog 32 #[.agg #[.bool s1, .slice p1 l1 c1, .slice q1 k1 d1, .bool P, .bool M, .bool N, .int .u64 (T : Int)], .int .u64 X] w fun e w' => e = .returned (.agg #[.bool s1, .slice p1 l1 c1, .slice q1 k1 d1, .bool true, .bool M, .bool N, .int .u64 ((T + 1 : Nat) : Int)]) ∧ Kp w w' := by
  have hmo := more_ s1 p1 l1 c1 q1 k1 d1 P M N T 1 (by omega)
  rw [show (((1 : Nat) : Int)) = 1 from rfl] at hmo
  generalize ((T + 1 : Nat) : Int) = TT at *
  have h7 : H7c ((w.alloc (.cells #[.bool s1, .slice p1 l1 c1, .slice q1 k1 d1, .bool P, .bool M, .bool N, .int .u64 (T : Int)] 30)).alloc (.cells #[.bool false, .slice none 0 0, .slice none 0 0, .bool false, .bool false, .bool false, .int .u64 0] 30)) w.heap.size (.bool s1) (.slice p1 l1 c1) (.slice q1 k1 d1) (.bool P) (.bool M) (.bool N) (.int .u64 (T : Int)) := (H7c.new w (.bool s1) (.slice p1 l1 c1) (.slice q1 k1 d1) (.bool P) (.bool M) (.bool N) (.int .u64 (T : Int)) 30).keep ((Kp.refl _).alloc _)
  have h8 : H7c ((w.alloc (.cells #[.bool s1, .slice p1 l1 c1, .slice q1 k1 d1, .bool P, .bool M, .bool N, .int .u64 (T : Int)] 30)).alloc (.cells #[.bool false, .slice none 0 0, .slice none 0 0, .bool false, .bool false, .bool false, .int .u64 0] 30)) (w.heap.size + 1) (.bool false) (.slice none 0 0) (.slice none 0 0) (.bool false) (.bool false) (.bool false) (.int .u64 0) := by
    have := H7c.new (w.alloc (.cells #[.bool s1, .slice p1 l1 c1, .slice q1 k1 d1, .bool P, .bool M, .bool N, .int .u64 (T : Int)] 30)) (.bool false) (.slice none 0 0) (.slice none 0 0) (.bool false) (.bool false) (.bool false) (.int .u64 0) 30
    simpa using this
  have kw : Kp w ((w.alloc (.cells #[.bool s1, .slice p1 l1 c1, .slice q1 k1 d1, .bool P, .bool M, .bool N, .int .u64 (T : Int)] 30)).alloc (.cells #[.bool false, .slice none 0 0, .slice none 0 0, .bool false, .bool false, .bool false, .int .u64 0] 30)) := ((Kp.refl w).alloc _).alloc _
  have hb1 : w.heap.size ≤ w.heap.size := Nat.le_refl _
  clear hT
  go_enter Tryz.func32, Tryz.ntmps32
  go_upto_region 1 with fail
  generalize ((w.alloc (.cells #[.bool s1, .slice p1 l1 c1, .slice q1 k1 d1, .bool P, .bool M, .bool N, .int .u64 (T : Int)] 30)).alloc (.cells #[.bool false, .slice none 0 0, .slice none 0 0, .bool false, .bool false, .bool false, .int .u64 0] 30)) = W0 at *
  generalize hb9 : w.heap.size = b at h7 h8 ⊢
  rw [hb9] at hb1
  have hbw : w.heap.size ≤ b := by rw [hb9]; exact hb1
  obtain ⟨r0, r1, r2, r3, r4, r5, r6, r7, r8, r9, r10, r11, r12, r13⟩ := id h7
  obtain ⟨t0, t1, t2, t3, t4, t5, t6, t7, t8, t9, t10, t11, t12, t13⟩ := id h8
  go_upto_region 2 with (first | (go_at_call 54; refine (hmo _).mono ?_; rintro e W1 ⟨rfl, g1⟩; replace h7 := h7.keep g1; replace h8 := h8.keep g1; replace kw := kw.trans g1; clear r0 r1 r2 r3 r4 r5 r6 r7 r8 r9 r10 r11 r12 r13 t0 t1 t2 t3 t4 t5 t6 t7 t8 t9 t10 t11 t12 t13; obtain ⟨r0, r1, r2, r3, r4, r5, r6, r7, r8, r9, r10, r11, r12, r13⟩ := id h7; obtain ⟨t0, t1, t2, t3, t4, t5, t6, t7, t8, t9, t10, t11, t12, t13⟩ := id h8))
  have q7 := H7c.put h7 (.bool s1) (.slice p1 l1 c1) (.slice q1 k1 d1) (.bool P) (.bool M) (.bool N) (.int .u64 TT)
  have q8 : H7c (((((((W1.setCell ⟨b, 0, none⟩ (.bool s1)).setCell ⟨b, 1, none⟩ (.slice p1 l1 c1)).setCell ⟨b, 2, none⟩ (.slice q1 k1 d1)).setCell ⟨b, 3, none⟩ (.bool P)).setCell ⟨b, 4, none⟩ (.bool M)).setCell ⟨b, 5, none⟩ (.bool N)).setCell ⟨b, 6, none⟩ (.int .u64 TT)) (b + 1) (.bool false) (.slice none 0 0) (.slice none 0 0) (.bool false) (.bool false) (.bool false) (.int .u64 0) := (H7c.far1 (H7c.far1 (H7c.far1 (H7c.far1 (H7c.far1 (H7c.far1 (H7c.far1 h8 ⟨b, 0, none⟩ (show b ≠ b + 1 by omega) _) ⟨b, 1, none⟩ (show b ≠ b + 1 by omega) _) ⟨b, 2, none⟩ (show b ≠ b + 1 by omega) _) ⟨b, 3, none⟩ (show b ≠ b + 1 by omega) _) ⟨b, 4, none⟩ (show b ≠ b + 1 by omega) _) ⟨b, 5, none⟩ (show b ≠ b + 1 by omega) _) ⟨b, 6, none⟩ (show b ≠ b + 1 by omega) _)
  have kq : Kp w (((((((W1.setCell ⟨b, 0, none⟩ (.bool s1)).setCell ⟨b, 1, none⟩ (.slice p1 l1 c1)).setCell ⟨b, 2, none⟩ (.slice q1 k1 d1)).setCell ⟨b, 3, none⟩ (.bool P)).setCell ⟨b, 4, none⟩ (.bool M)).setCell ⟨b, 5, none⟩ (.bool N)).setCell ⟨b, 6, none⟩ (.int .u64 TT)) := (((((((kw.setCell hbw _).setCell hbw _).setCell hbw _).setCell hbw _).setCell hbw _).setCell hbw _).setCell hbw _)
  generalize (((((((W1.setCell ⟨b, 0, none⟩ (.bool s1)).setCell ⟨b, 1, none⟩ (.slice p1 l1 c1)).setCell ⟨b, 2, none⟩ (.slice q1 k1 d1)).setCell ⟨b, 3, none⟩ (.bool P)).setCell ⟨b, 4, none⟩ (.bool M)).setCell ⟨b, 5, none⟩ (.bool N)).setCell ⟨b, 6, none⟩ (.int .u64 TT)) = W2 at q7 q8 kq ⊢
  clear h7 h8 kw r0 r1 r2 r3 r4 r5 r6 r7 r8 r9 r10 r11 r12 r13 t0 t1 t2 t3 t4 t5 t6 t7 t8 t9 t10 t11 t12 t13
  obtain ⟨r0, r1, r2, r3, r4, r5, r6, r7, r8, r9, r10, r11, r12, r13⟩ := id q7
  obtain ⟨t0, t1, t2, t3, t4, t5, t6, t7, t8, t9, t10, t11, t12, t13⟩ := id q8
  go_wp2_with (first | (go_at_call 51; refine (hin _).mono ?_; rintro e w' ⟨rfl, hw'⟩; obtain rfl := hw'.symm; clear hw') | (go_at_call 59; refine (hii _).mono ?_; rintro e w' ⟨rfl, hw'⟩; obtain rfl := hw'.symm; clear hw') | (go_at_call 60; refine (hng _).mono ?_; rintro e w' ⟨rfl, hw'⟩; obtain rfl := hw'.symm; clear hw'))
  exact bodyPost_ret (v := .agg #[.bool s1, .slice p1 l1 c1, .slice q1 k1 d1, .bool true, .bool M, .bool N, .int .u64 TT]) (by simp [results, Tryz.results32, go_sem, t0, t1, t2, t3, t4, t5, t6]) rfl ⟨rfl, ((((((((kq.setCell hbw _).setCell (show w.heap.size ≤ b + 1 by omega) _).setCell (show w.heap.size ≤ b + 1 by omega) _).setCell (show w.heap.size ≤ b + 1 by omega) _).setCell (show w.heap.size ≤ b + 1 by omega) _).setCell (show w.heap.size ≤ b + 1 by omega) _).setCell (show w.heap.size ≤ b + 1 by omega) _).setCell (show w.heap.size ≤ b + 1 by omega) _)⟩
set_option maxRecDepth 20000 in
set_option maxHeartbeats 2000000 in
theorem raddM4_ (X : Int) (s1 : Bool) (p1 : Option Addr) (l1 c1 : Nat) (q1 : Option Addr) (k1 d1 : Nat) (P M N : Bool) (T : Nat) (hT : T < 4611686018427387904) (hin : ∀ w : World, Calls Tryz.prog 51 #[.int .u64 X] w fun e w' => e = .returned (.bool false) ∧ w' = w) (hii : ∀ w : World, Calls Tryz.prog 59 #[.int .u64 X] w fun e w' => e = .returned (.bool true) ∧ w' = w) (hng : ∀ w : World, Calls Tryz.prog 60 #[.int .u64 X] w fun e w' => e = .returned (.bool true) ∧ w' = w) (w : World) : Calls Tryz.prog 32 #[.agg #[.bool s1, .slice p1 l1 c1, .slice q1 k1 d1, .bool P, .bool M, .bool N, .int .u64 (T : Int)], .int .u64 X] w fun e w' => e = .returned (.agg #[.bool s1, .slice p1 l1 c1, .slice q1 k1 d1, .bool P, .bool true, .bool N, .int .u64 ((T + 1 : Nat) : Int)]) ∧ Kp w w' := by
  have hmo := more_ s1 p1 l1 c1 q1 k1 d1 P M N T 1 (by omega)
  rw [show (((1 : Nat) : Int)) = 1 from rfl] at hmo
  generalize ((T + 1 : Nat) : Int) = TT at *
  have h7 : H7c ((w.alloc (.cells #[.bool s1, .slice p1 l1 c1, .slice q1 k1 d1, .bool P, .bool M, .bool N, .int .u64 (T : Int)] 30)).alloc (.cells #[.bool false, .slice none 0 0, .slice none 0 0, .bool false, .bool false, .bool false, .int .u64 0] 30)) w.heap.size (.bool s1) (.slice p1 l1 c1) (.slice q1 k1 d1) (.bool P) (.bool M) (.bool N) (.int .u64 (T : Int)) := (H7c.new w (.bool s1) (.slice p1 l1 c1) (.slice q1 k1 d1) (.bool P) (.bool M) (.bool N) (.int .u64 (T : Int)) 30).keep ((Kp.refl _).alloc _)
  have h8 : H7c ((w.alloc (.cells #[.bool s1, .slice p1 l1 c1, .slice q1 k1 d1, .bool P, .bool M, .bool N, .int .u64 (T : Int)] 30)).alloc (.cells #[.bool false, .slice none 0 0, .slice none 0 0, .bool false, .bool false, .bool false, .int .u64 0] 30)) (w.heap.size + 1) (.bool false) (.slice none 0 0) (.slice none 0 0) (.bool false) (.bool false) (.bool false) (.int .u64 0) := by
    have := H7c.new (w.alloc (.cells #[.bool s1, .slice p1 l1 c1, .slice q1 k1 d1, .bool P, .bool M, .bool N, .int .u64 (T : Int)] 30)) (.bool false) (.slice none 0 0) (.slice none 0 0) (.bool false) (.bool false) (.bool false) (.int .u64 0) 30
    simpa using this
  have kw : Kp w ((w.alloc (.cells #[.bool s1, .slice p1 l1 c1, .slice q1 k1 d1, .bool P, .bool M, .bool N, .int .u64 (T : Int)] 30)).alloc (.cells #[.bool false, .slice none 0 0, .slice none 0 0, .bool false, .bool false, .bool false, .int .u64 0] 30)) := ((Kp.refl w).alloc _).alloc _
  have hb1 : w.heap.size ≤ w.heap.size := Nat.le_refl _
  clear hT
  go_enter Tryz.func32, Tryz.ntmps32
  go_upto_region 1 with fail
  generalize ((w.alloc (.cells #[.bool s1, .slice p1 l1 c1, .slice q1 k1 d1, .bool P, .bool M, .bool N, .int .u64 (T : Int)] 30)).alloc (.cells #[.bool false, .slice none 0 0, .slice none 0 0, .bool false, .bool false, .bool false, .int .u64 0] 30)) = W0 at *
  generalize hb9 : w.heap.size = b at h7 h8 ⊢
  rw [hb9] at hb1
  have hbw : w.heap.size ≤ b := by rw [hb9]; exact hb1
  obtain ⟨r0, r1, r2, r3, r4, r5, r6, r7, r8, r9, r10, r11, r12, r13⟩ := id h7
  obtain ⟨t0, t1, t2, t3, t4, t5, t6, t7, t8, t9, t10, t11, t12, t13⟩ := id h8
  go_upto_region 2 with (first | (go_at_call 54; refine (hmo _).mono ?_; rintro e W1 ⟨rfl, g1⟩; replace h7 := h7.keep g1; replace h8 := h8.keep g1; replace kw := kw.trans g1; clear r0 r1 r2 r3 r4 r5 r6 r7 r8 r9 r10 r11 r12 r13 t0 t1 t2 t3 t4 t5 t6 t7 t8 t9 t10 t11 t12 t13; obtain ⟨r0, r1, r2, r3, r4, r5, r6, r7, r8, r9, r10, r11, r12, r13⟩ := id h7; obtain ⟨t0, t1, t2, t3, t4, t5, t6, t7, t8, t9, t10, t11, t12, t13⟩ := id h8))
  have q7 := H7c.put h7 (.bool s1) (.slice p1 l1 c1) (.slice q1 k1 d1) (.bool P) (.bool M) (.bool N) (.int .u64 TT)
  have q8 : H7c (((((((W1.setCell ⟨b, 0, none⟩ (.bool s1)).setCell ⟨b, 1, none⟩ (.slice p1 l1 c1)).setCell ⟨b, 2, none⟩ (.slice q1 k1 d1)).setCell ⟨b, 3, none⟩ (.bool P)).setCell ⟨b, 4, none⟩ (.bool M)).setCell ⟨b, 5, none⟩ (.bool N)).setCell ⟨b, 6, none⟩ (.int .u64 TT)) (b + 1) (.bool false) (.slice none 0 0) (.slice none 0 0) (.bool false) (.bool false) (.bool false) (.int .u64 0) := (H7c.far1 (H7c.far1 (H7c.far1 (H7c.far1 (H7c.far1 (H7c.far1 (H7c.far1 h8 ⟨b, 0, none⟩ (show b ≠ b + 1 by omega) _) ⟨b, 1, none⟩ (show b ≠ b + 1 by omega) _) ⟨b, 2, none⟩ (show b ≠ b + 1 by omega) _) ⟨b, 3, none⟩ (show b ≠ b + 1 by omega) _) ⟨b, 4, none⟩ (show b ≠ b + 1 by omega) _) ⟨b, 5, none⟩ (show b ≠ b + 1 by omega) _) ⟨b, 6, none⟩ (show b ≠ b + 1 by omega) _)
  have kq : Kp w (((((((W1.setCell ⟨b, 0, none⟩ (.bool s1)).setCell ⟨b, 1, none⟩ (.slice p1 l1 c1)).setCell ⟨b, 2, none⟩ (.slice q1 k1 d1)).setCell ⟨b, 3, none⟩ (.bool P)).setCell ⟨b, 4, none⟩ (.bool M)).setCell ⟨b, 5, none⟩ (.bool N)).setCell ⟨b, 6, none⟩ (.int .u64 TT)) := (((((((kw.setCell hbw _).setCell hbw _).setCell hbw _).setCell hbw _).setCell hbw _).setCell hbw _).setCell hbw _)
  generalize (((((((W1.setCell ⟨b, 0, none⟩ (.bool s1)).setCell ⟨b, 1, none⟩ (.slice p1 l1 c1)).setCell ⟨b, 2, none⟩ (.slice q1 k1 d1)).setCell ⟨b, 3, none⟩ (.bool P)).setCell ⟨b, 4, none⟩ (.bool M)).setCell ⟨b, 5, none⟩ (.bool N)).setCell ⟨b, 6, none⟩ (.int .u64 TT)) = W2 at q7 q8 kq ⊢
  clear h7 h8 kw r0 r1 r2 r3 r4 r5 r6 r7 r8 r9 r10 r11 r12 r13 t0 t1 t2 t3 t4 t5 t6 t7 t8 t9 t10 t11 t12 t13
  obtain ⟨r0, r1, r2, r3, r4, r5, r6, r7, r8, r9, r10, r11, r12, r13⟩ := id q7
  obtain ⟨t0, t1, t2, t3, t4, t5, t6, t7, t8, t9, t10, t11, t12, t13⟩ := id q8
  go_wp2_with (first | (go_at_call 51; refine (hin _).mono ?_; rintro e w' ⟨rfl, hw'⟩; obtain rfl := hw'.symm; clear hw') | (go_at_call 59; refine (hii _).mono ?_; rintro e w' ⟨rfl, hw'⟩; obtain rfl := hw'.symm; clear hw') | (go_at_call 60; refine (hng _).mono ?_; rintro e w' ⟨rfl, hw'⟩; obtain rfl := hw'.symm; clear hw'))
  exact bodyPost_ret (v := .agg #[.bool s1, .slice p1 l1 c1, .slice q1 k1 d1, .bool P, .bool true, .bool N, .int .u64 TT]) (by simp [results, Tryz.results32, go_sem, t0, t1, t2, t3, t4, t5, t6]) rfl ⟨rfl, ((((((((kq.setCell hbw _).setCell (show w.heap.size ≤ b + 1 by omega) _).setCell (show w.heap.size ≤ b + 1 by omega) _).setCell (show w.heap.size ≤ b + 1 by omega) _).setCell (show w.heap.size ≤ b + 1 by omega) _).setCell (show w.heap.size ≤ b + 1 by omega) _).setCell (show w.heap.size ≤ b + 1 by omega) _).setCell (show w.heap.size ≤ b + 1 by omega) _)⟩
set_option maxRecDepth 20000 in
set_option maxHeartbeats 400000 in
theorem fin4_ (X : Nat) (hX : X < 18446744073709551616) (w : World) : Calls Tryz.prog 45 #[.int .u64 (X : Int)] w fun e w' => e = .returned (.bool (decide (X % 9223372036854775808 < 9218868437227405312))) ∧ w' = w := by
  have f1 : (X : Int) / 4503599627370496 = ((X / 4503599627370496 : Nat) : Int) := by omega
  have f2 : bits .and .u64 ((X / 4503599627370496 : Nat) : Int) 2047 = ((X / 4503599627370496 % 2048 : Nat) : Int) := by
    have h := bits_and_u64_nat (X / 4503599627370496) 2047 (by omega) (by decide)
    have e : (X / 4503599627370496) &&& 2047 = X / 4503599627370496 % 2048 := Nat.and_two_pow_sub_one_eq_mod _ 11
    rw [e] at h
    exact h
  have f3 : ((((X / 4503599627370496 % 2048 : Nat) : Int)) != 2047) = decide (X % 9223372036854775808 < 9218868437227405312) := by
    rw [Bool.eq_iff_iff, bne_iff_ne, decide_eq_true_eq]; omega
  generalize ((X / 4503599627370496 % 2048 : Nat) : Int) = Y at *
  generalize decide (X % 9223372036854775808 < 9218868437227405312) = V at *
  generalize ((X / 4503599627370496 : Nat) : Int) = Z at *
  clear hX
  go_enter Tryz.func45, Tryz.ntmps45
  go_wp2
  exact bodyPost_ret (v := .bool V) (by simp [results, Tryz.results45, go_sem] <;> simpa using f3) rfl ⟨rfl, rfl⟩
set_option maxRecDepth 20000 in
set_option maxHeartbeats 400000 in
theorem neg4_ (X : Int) (V : Bool) (t : decide (9223372036854775808 < X) = V) (w : World) : Calls Tryz.prog 60 #[.int .u64 X] w fun e w' => e = .returned (.bool V) ∧ w' = w := by
  go_enter Tryz.func60, Tryz.ntmps60
  go_wp2
  exact bodyPost_ret (v := .bool V) (by simp [results, Tryz.results60, go_sem] <;> simpa using t) rfl ⟨rfl, rfl⟩

set_option linter.unusedVariables false
def NB (p q : Option Addr) (b : Nat) : Prop := (∀ a, p = some a → a.block ≠ b) ∧ (∀ a, q = some a → a.block ≠ b)
theorem Own.setNe {w : World} {base : Nat} {p : Option Addr} {l c : Nat} {xs : List Int} (h : Own w base (.slice p l c) xs) {x : Addr} (hx : ∀ a, p = some a → a.block ≠ x.block) (u : Value) : Own (w.setCell x u) base (.slice p l c) xs := by
  refine ownsRow_setCell_other h ?_ u
  cases p with
  | none => simp [Value.ownBlock]
  | some a => simpa [Value.ownBlock] using hx a rfl
theorem Own.blk {w : World} {base : Nat} {p : Option Addr} {l c : Nat} {xs : List Int} (h : Own w base (.slice p l c) xs) : ∀ a, p = some a → base ≤ a.block ∧ a.block < w.heap.size := by
  intro a ha
  rcases h.2 with ⟨h1, -⟩ | ⟨g, cap, cur, h1, h2, h3, -⟩
  · simp at h1; rw [h1.1] at ha; cases ha
  · simp at h1
    rw [h1.1] at ha
    obtain rfl := Option.some.inj ha
    refine ⟨h2, ?_⟩
    exact lt_of_block h3
theorem Dy.setNe {base : Nat} {w : World} {s1 : Bool} {p1 : Option Addr} {l1 c1 : Nat} {q1 : Option Addr} {k1 d1 : Nat} {V : Int} {E : Nat} (h : Dy base w s1 p1 l1 c1 q1 k1 d1 V E) {x : Addr} (hx : NB p1 q1 x.block) (u : Value) : Dy base (w.setCell x u) s1 p1 l1 c1 q1 k1 d1 V E := by
  obtain ⟨a, j, h1, h2, h3⟩ := h
  exact ⟨a, j, h1.setNe hx.1 u, h2.setNe hx.2 u, h3⟩
theorem Dy.nbNew {base : Nat} {w : World} {s1 : Bool} {p1 : Option Addr} {l1 c1 : Nat} {q1 : Option Addr} {k1 d1 : Nat} {V : Int} {E : Nat} (h : Dy base w s1 p1 l1 c1 q1 k1 d1 V E) {b : Nat} (hb : w.heap.size ≤ b) : NB p1 q1 b := by
  obtain ⟨x, y, h1, h2, -⟩ := h
  exact ⟨fun a ha => by have := (h1.blk a ha).2; omega, fun a ha => by have := (h2.blk a ha).2; omega⟩
theorem Dy.nbLow {base : Nat} {w : World} {s1 : Bool} {p1 : Option Addr} {l1 c1 : Nat} {q1 : Option Addr} {k1 d1 : Nat} {V : Int} {E : Nat} (h : Dy base w s1 p1 l1 c1 q1 k1 d1 V E) {b : Nat} (hb : b < base) : NB p1 q1 b := by
  obtain ⟨x, y, h1, h2, -⟩ := h
  exact ⟨fun a ha => by have := (h1.blk a ha).1; omega, fun a ha => by have := (h2.blk a ha).1; omega⟩

def Rz (G : Nat → Prop) (w : World) (v : Value) (V : Int) (K T : Nat) (P M N : Bool) : Prop := ∃ (s1 : Bool) (p1 : Option Addr) (l1 c1 : Nat) (q1 : Option Addr) (k1 d1 : Nat), v = .agg #[.bool s1, .slice p1 l1 c1, .slice q1 k1 d1, .bool P, .bool M, .bool N, .int .u64 (T : Int)] ∧ Dy 0 w s1 p1 l1 c1 q1 k1 d1 V (K + K) ∧ ∀ g, G g → NB p1 q1 g
theorem Rz.kp {G : Nat → Prop} {w w' : World} {v : Value} {V : Int} {K T : Nat} {P M N : Bool} (h : Rz G w v V K T P M N) (g : Kp w w') : Rz G w' v V K T P M N := by
  obtain ⟨s1, p1, l1, c1, q1, k1, d1, rfl, h, hn⟩ := h
  exact ⟨s1, p1, l1, c1, q1, k1, d1, rfl, h.kp g, hn⟩
theorem stI_jn (P M N : Bool) (S : Int) (h : S = 0 ∨ S = 1 ∨ S = -1 ∨ S = 2) : stI (P || decide (S = 1)) (M || decide (S = -1)) (N || decide (S = 2)) = jn (stI P M N) S := by
  rcases h with rfl | rfl | rfl | rfl <;> cases P <;> cases M <;> cases N <;> rfl
theorem dig_zero6 : dig 0 = [] := by decide +kernel
theorem dig_one6 : dig 1 = [1] := by decide +kernel
set_option maxRecDepth 20000 in
set_option maxHeartbeats 1000000 in
theorem int0X_ (E9 : Nat) (w : World) : Calls Tryz.prog 53 #[.int .i64 0] w fun e w' => ∃ (s : Bool) (p : Option Addr) (l c : Nat) (q : Option Addr) (k d : Nat), e = .returned (.agg #[.bool s, .slice p l c, .slice q k d]) ∧ Dy w.heap.size w' s p l c q k d 0 E9 ∧ Kp w w' := by
  obtain ⟨B, hB⟩ : ∃ B, B = w.heap.size := ⟨_, rfl⟩
  obtain ⟨w0, hw0⟩ : ∃ w0, w0 = w.alloc (.cells #[.bool false, .slice none 0 0, .slice none 0 0] 28) := ⟨_, rfl⟩
  have kw : Kp w w0 := by rw [hw0]; exact (Kp.refl w).alloc _
  have r0 : w0.cell? ⟨B, 0, none⟩ = some (.bool false) := by rw [hw0, hB]; simp [go_sem]
  have r1 : w0.cell? ⟨B, 1, none⟩ = some (.slice none 0 0) := by rw [hw0, hB]; simp [go_sem]
  have r2 : w0.cell? ⟨B, 2, none⟩ = some (.slice none 0 0) := by rw [hw0, hB]; simp [go_sem]
  have f0 : w0.frozen? ⟨B, 0, none⟩ = false := by rw [hw0, hB]; simp [go_sem]
  have f1 : w0.frozen? ⟨B, 1, none⟩ = false := by rw [hw0, hB]; simp [go_sem]
  have f2 : w0.frozen? ⟨B, 2, none⟩ = false := by rw [hw0, hB]; simp [go_sem]
  have hlt := cell_lt r0
  have hs := rsmall_ 0 (by decide) w0
  have HW : Hid (w0 = w.alloc (.cells #[.bool false, .slice none 0 0, .slice none 0 0] 28) ∧ B = w.heap.size ∧ Kp w w0) := ⟨hw0, hB, kw⟩
  clear hw0 hB kw
  go_enter Tryz.func53, Tryz.ntmps53
  go_wp2_with fail
  rw [← HW.out.2.1]
  try rw [← HW.out.1]
  refine hs.mono ?_; rintro e w1 ⟨v, rfl, ho, k1⟩
  obtain ⟨pv, cv, rfl, hav, hcv⟩ := ho.arr
  obtain ⟨L, hL⟩ : ∃ L, L = (dig 0).length := ⟨_, rfl⟩
  rw [← hL]
  obtain ⟨g4, hg4⟩ : ∃ g4, g4 = w1.heap.size := ⟨_, rfl⟩
  obtain ⟨w4, hw4⟩ : ∃ w4, w4 = w1.alloc (.cells #[.int .u32 1] 110) := ⟨_, rfl⟩
  have k4 : Kp w1 w4 := by rw [hw4]; exact (Kp.refl _).alloc _
  have ar4 : Arr w4 (some ⟨g4, 0, none⟩) (dig 1) := by
    have h := (row1 w1 1).all rfl
    rw [← hw4, ← hg4] at h
    rw [dig_one6]
    exact h
  have h := fracX_ false (.slice pv (dig 0).length cv) (.slice (some ⟨g4, 0, none⟩) (dig 1).length 1) (dig 0) (dig 1) 0 w4 ⟨pv, cv, rfl, hav.grown k4, hcv⟩ ⟨some ⟨g4, 0, none⟩, 1, rfl, ar4, by rw [dig_one6]; decide⟩ (Wd_dig _) (Wd_dig _) (by rw [dig_zero6]; decide) (by rw [dig_one6]; decide) (by rw [val_dig]; decide) (by decide)
  rw [val_dig, val_dig] at h
  rw [show (dig 1).length = 1 from by rw [dig_one6]; rfl] at h
  rw [← hL] at h
  have k04 := k1.trans k4
  have HG : Hid (g4 = w1.heap.size ∧ w4 = w1.alloc (.cells #[.int .u32 1] 110)) := ⟨hg4, hw4⟩
  replace r0 := kkeep k04 r0
  replace r1 := kkeep k04 r1
  replace r2 := kkeep k04 r2
  replace f0 := (kfro k04 hlt).trans f0
  replace f1 := (kfro k04 hlt).trans f1
  replace f2 := (kfro k04 hlt).trans f2
  have HK : Hid (Kp w0 w4 ∧ B < w0.heap.size) := ⟨k04, hlt⟩
  have hlt4 := cell_lt r0
  clear hs ho hav hcv hL hg4 hw4 k4 ar4 k1 k04 hlt
  go_wp2_with fail
  rw [← HG.out.1, ← HG.out.2]
  refine h.mono ?_; rintro e w5 ⟨vn, vd, a', b', ng, rfl, o1, o2, ff, k5⟩
  obtain ⟨pn, cn, rfl, an, ln⟩ := o1.arr
  obtain ⟨pd, cd, rfl, ad, ld⟩ := o2.arr
  replace r0 := kkeep k5 r0
  replace r1 := kkeep k5 r1
  replace r2 := kkeep k5 r2
  replace f0 := (kfro k5 hlt4).trans f0
  replace f1 := (kfro k5 hlt4).trans f1
  replace f2 := (kfro k5 hlt4).trans f2
  have z1 : a' = 0 ∧ b' = 1 := ff.1.2.1 rfl
  have hp : Dy w4.heap.size w5 ng pn (dig a').length cn pd (dig b').length cd 0 E9 :=
    ⟨a', 0, o1, by rw [z1.2] at o2 ⊢; exact o2, ⟨Nat.zero_le _, Or.inr rfl, by rw [z1.1]; simp⟩, fun h => absurd rfl h⟩
  have hq := (((hp.set (x := ⟨B, 0, none⟩) hlt4 (.bool ng)).set (x := ⟨B, 1, none⟩) hlt4 (.slice pn (dig a').length cn)).set (x := ⟨B, 2, none⟩) hlt4 (.slice pd (dig b').length cd)).mono (b2 := w.heap.size) (by have h1 := Below.size HW.out.2.2; have h2 := Below.size HK.out.1; omega)
  have hkw : Kp w (((w5.setCell ⟨B, 0, none⟩ (.bool ng)).setCell ⟨B, 1, none⟩ (.slice pn (dig a').length cn)).setCell ⟨B, 2, none⟩ (.slice pd (dig b').length cd)) := by
    have hB := HW.out.2.1
    exact ((((HW.out.2.2.trans HK.out.1).trans k5).setCell (by rw [hB]; exact Nat.le_refl _) _).setCell (by rw [hB]; exact Nat.le_refl _) _).setCell (by rw [hB]; exact Nat.le_refl _) _
  generalize (dig a').length = La at hq hkw ⊢
  generalize (dig b').length = Lb at hq hkw ⊢
  have HO : Hid (_ ∧ _) := ⟨hq, hkw⟩
  clear h hp hq hkw o1 o2 ff z1 k5 an ln ad ld hlt4 HG
  go_wp2
  exact bodyPost_ret (v := .agg #[.bool ng, .slice pn La cn, .slice pd Lb cd]) (by simp [results, Tryz.results53, go_sem, r0, r1, r2]) rfl ⟨ng, pn, La, cn, pd, Lb, cd, rfl, HO.out.1, HO.out.2⟩
set_option maxRecDepth 20000 in
set_option maxHeartbeats 1000000 in
theorem new4_ (K : Nat) (w : World) : Calls Tryz.prog 30 #[] w fun e w' => ∃ v, e = .returned v ∧ (∀ G : Nat → Prop, (∀ g, G g → w'.heap.size ≤ g ∨ g < w.heap.size) → Rz G w' v 0 K 0 false false false) ∧ Kp w w' := by
  have hi := int0X_ (K + K)
  have h7 := H7c.new w (.bool false) (.slice none 0 0) (.slice none 0 0) (.bool false) (.bool false) (.bool false) (.int .u64 0) 30
  have kw : Kp w (w.alloc (.cells #[.bool false, .slice none 0 0, .slice none 0 0, .bool false, .bool false, .bool false, .int .u64 0] 30)) := (Kp.refl w).alloc _
  go_enter Tryz.func30, Tryz.ntmps30
  go_wp2_with (first | (go_at_call 53; refine (hi _).mono ?_; rintro e W1 ⟨s1, p1, l1, c1, q1, k1, d1, rfl, D1, g1⟩; have hlt := h7.lt; replace h7 := h7.keep g1; obtain ⟨r0, r1, r2, r3, r4, r5, r6, r7, r8, r9, r10, r11, r12, r13⟩ := id h7))
  refine bodyPost_ret (v := .agg #[.bool s1, .slice p1 l1 c1, .slice q1 k1 d1, .bool false, .bool false, .bool false, .int .u64 0]) (by simp [results, Tryz.results30, go_sem, r0, r1, r2, r3, r4, r5, r6]) rfl ⟨_, rfl, ?_, ((((((((kw.trans g1).setCell (Nat.le_refl _) _).setCell (Nat.le_refl _) _).setCell (Nat.le_refl _) _).setCell (Nat.le_refl _) _).setCell (Nat.le_refl _) _).setCell (Nat.le_refl _) _).setCell (Nat.le_refl _) _)⟩
  intro G hG
  have hd := (Dy.set (Dy.set (Dy.set (Dy.set (Dy.set (Dy.set (Dy.set D1 (x := ⟨w.heap.size, 0, none⟩) hlt (.bool s1)) (x := ⟨w.heap.size, 1, none⟩) hlt (.slice p1 l1 c1)) (x := ⟨w.heap.size, 2, none⟩) hlt (.slice q1 k1 d1)) (x := ⟨w.heap.size, 3, none⟩) hlt (.bool false)) (x := ⟨w.heap.size, 4, none⟩) hlt (.bool false)) (x := ⟨w.heap.size, 5, none⟩) hlt (.bool false)) (x := ⟨w.heap.size, 6, none⟩) hlt (.int .u64 0))
  refine ⟨s1, p1, l1, c1, q1, k1, d1, rfl, Dy.mono hd (Nat.zero_le _), fun x hx => ?_⟩
  rcases hG x hx with h | h
  · exact hd.nbNew h
  · exact hd.nbLow (Nat.lt_trans h hlt)
end Go.Proofs.YtokhnokobkmmkaaGreatDoor
