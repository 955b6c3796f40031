import Derived.Test.YtcckdceijgdgoaaKDCb
namespace Go.Proofs.Ytcckdceijgdgoaa
open Go.RowKit
set_option maxRecDepth 20000 in
set_option maxHeartbeats 2000000 in
theorem dreadA_ (a b L H : Nat) (D R : Int) (C : Bool) (hx : ∀ w : World, Calls Try.prog 31 #[.agg #[.float .f64 a, .float .f64 b]] w fun e w' => e = .returned (.agg #[.float .f64 L, .float .f64 H]) ∧ Kp w w') (hv : ∀ w : World, Calls Try.prog 53 #[.agg #[.float .f64 L, .float .f64 H]] w fun e w' => e = .returned (.bool false) ∧ Kp w w') (hc : ∀ w : World, Calls Try.prog 56 #[.agg #[.float .f64 L, .float .f64 H]] w fun e w' => e = .returned (.bool C) ∧ Kp w w') (hf : ∀ w : World, Calls Try.prog 55 #[.int .i64 D, .agg #[.bool true, .bool true, .bool C]] w fun e w' => e = .returned (.int .i64 R) ∧ Kp w w') (t0 : (R == 0) = false) (w : World) : Calls Try.prog 38 #[.agg #[.float .f64 a, .float .f64 b, .int .i64 D]] w fun e w' => e = .returned (.agg #[.float .f64 L, .float .f64 H, .int .i64 R]) ∧ Kp w w' := by
  go_enter Try.func38, Try.ntmps38
  go_upto_region 5 with (first | (go_at_call 31; refine (hx _).mono ?_; rintro e w1 ⟨rfl, g1⟩; have k1 : Kp w w1 := Kp.trans (((Kp.refl w).alloc _).alloc _) g1; have sx := H3c.keep (H3c.keep (H3c.new w (.float .f64 a) (.float .f64 b) (.int .i64 D) 41) ((Kp.refl _).alloc (.cells #[.float .f64 0, .float .f64 0, .int .i64 0] 41))) g1; have sr := H3c.keep (H3c.two w #[.float .f64 a, .float .f64 b, .int .i64 D] (.float .f64 0) (.float .f64 0) (.int .i64 0) 41 41) g1) | (go_at_call 53; refine (hv _).mono ?_; rintro e w2 ⟨rfl, g2⟩; have k2 := Kp.trans (k1.alloc _) g2; have qy := Fq.H2.keep (Fq.H2.new w1 (.float .f64 L) (.float .f64 H) 31) g2; replace sx := H3c.keep (H3c.keep sx ((Kp.refl w1).alloc _)) g2; replace sr := H3c.keep (H3c.keep sr ((Kp.refl w1).alloc _)) g2; obtain ⟨x0, x1, x2, x3, x4, x5⟩ := id sx; obtain ⟨r0, r1, r2, r3, r4, r5⟩ := id sr; obtain ⟨y0, y1, y2, y3⟩ := id qy))
  refine Fq.wp_region_grow (by kernel_rfl) (by kernel_rfl) (fun ι _ G hG hall => ?_)
  have cc0 : ∀ n, (G n).cell? ⟨w.heap.size, 0, none⟩ = some (.float .f64 a) := fun n => Fq.gkeep (hG n) x0
  have cc1 : ∀ n, (G n).cell? ⟨w.heap.size, 1, none⟩ = some (.float .f64 b) := fun n => Fq.gkeep (hG n) x1
  have cc2 : ∀ n, (G n).cell? ⟨w.heap.size, 2, none⟩ = some (.int .i64 D) := fun n => Fq.gkeep (hG n) x2
  have cc3 : ∀ n, (G n).cell? ⟨w1.heap.size, 0, none⟩ = some (.float .f64 L) := fun n => Fq.gkeep (hG n) y0
  have cc4 : ∀ n, (G n).cell? ⟨w1.heap.size, 1, none⟩ = some (.float .f64 H) := fun n => Fq.gkeep (hG n) y1
  repeat (go_big_quiet_step (first | (go_at_call 56; exact (hc _).mono (fun e w' h => ⟨h.1, hall _ (Fq.gtrans (hG _) h.2)⟩)) | (go_at_call 55; exact (hf _).mono (fun e w' h => ⟨h.1, hall _ (Fq.gtrans (hG _) h.2)⟩))))
  refine wpQuiet_nil ?_
  rintro _ ⟨nq, rfl⟩
  have gq : Kp w2 (G nq) := hG nq
  clear cc0 cc1 cc2 cc3 cc4 hall hG
  have k3 := Kp.trans k2 gq
  have sr3 := H3c.keep sr gq
  have qy3 := Fq.H2.keep qy gq
  clear x0 x1 x2 x3 x4 x5 r0 r1 r2 r3 r4 r5 y0 y1 y2 y3
  obtain ⟨r0, r1, r2, r3, r4, r5⟩ := id sr3
  obtain ⟨y0, y1, y2, y3⟩ := id qy3
  go_wp2
  exact bodyPost_ret (v := .agg #[.float .f64 L, .float .f64 H, .int .i64 R]) (by simp [results, Try.results38, go_sem, r0, r1, r2]) rfl ⟨rfl, (((k3.setCell (by simp) _).setCell (by simp) _).setCell (by simp) _)⟩
set_option maxRecDepth 20000 in
set_option maxHeartbeats 2000000 in
theorem dreadB_ (a b L H : Nat) (D R : Int) (C : Bool) (hx : ∀ w : World, Calls Try.prog 31 #[.agg #[.float .f64 a, .float .f64 b]] w fun e w' => e = .returned (.agg #[.float .f64 L, .float .f64 H]) ∧ Kp w w') (hv : ∀ w : World, Calls Try.prog 53 #[.agg #[.float .f64 L, .float .f64 H]] w fun e w' => e = .returned (.bool false) ∧ Kp w w') (hc : ∀ w : World, Calls Try.prog 56 #[.agg #[.float .f64 L, .float .f64 H]] w fun e w' => e = .returned (.bool C) ∧ Kp w w') (hf : ∀ w : World, Calls Try.prog 55 #[.int .i64 D, .agg #[.bool true, .bool true, .bool C]] w fun e w' => e = .returned (.int .i64 R) ∧ Kp w w') (t0 : (R == 0) = true) (w : World) : Calls Try.prog 38 #[.agg #[.float .f64 a, .float .f64 b, .int .i64 D]] w fun e w' => e = .returned (.agg #[.float .f64 9218868437227405312, .float .f64 18442240474082181120, .int .i64 0]) ∧ Kp w w' := by
  go_enter Try.func38, Try.ntmps38
  go_upto_region 5 with (first | (go_at_call 31; refine (hx _).mono ?_; rintro e w1 ⟨rfl, g1⟩; have k1 : Kp w w1 := Kp.trans (((Kp.refl w).alloc _).alloc _) g1; have sx := H3c.keep (H3c.keep (H3c.new w (.float .f64 a) (.float .f64 b) (.int .i64 D) 41) ((Kp.refl _).alloc (.cells #[.float .f64 0, .float .f64 0, .int .i64 0] 41))) g1; have sr := H3c.keep (H3c.two w #[.float .f64 a, .float .f64 b, .int .i64 D] (.float .f64 0) (.float .f64 0) (.int .i64 0) 41 41) g1) | (go_at_call 53; refine (hv _).mono ?_; rintro e w2 ⟨rfl, g2⟩; have k2 := Kp.trans (k1.alloc _) g2; have qy := Fq.H2.keep (Fq.H2.new w1 (.float .f64 L) (.float .f64 H) 31) g2; replace sx := H3c.keep (H3c.keep sx ((Kp.refl w1).alloc _)) g2; replace sr := H3c.keep (H3c.keep sr ((Kp.refl w1).alloc _)) g2; obtain ⟨x0, x1, x2, x3, x4, x5⟩ := id sx; obtain ⟨r0, r1, r2, r3, r4, r5⟩ := id sr; obtain ⟨y0, y1, y2, y3⟩ := id qy))
  refine Fq.wp_region_grow (by kernel_rfl) (by kernel_rfl) (fun ι _ G hG hall => ?_)
  have cc0 : ∀ n, (G n).cell? ⟨w.heap.size, 0, none⟩ = some (.float .f64 a) := fun n => Fq.gkeep (hG n) x0
  have cc1 : ∀ n, (G n).cell? ⟨w.heap.size, 1, none⟩ = some (.float .f64 b) := fun n => Fq.gkeep (hG n) x1
  have cc2 : ∀ n, (G n).cell? ⟨w.heap.size, 2, none⟩ = some (.int .i64 D) := fun n => Fq.gkeep (hG n) x2
  have cc3 : ∀ n, (G n).cell? ⟨w1.heap.size, 0, none⟩ = some (.float .f64 L) := fun n => Fq.gkeep (hG n) y0
  have cc4 : ∀ n, (G n).cell? ⟨w1.heap.size, 1, none⟩ = some (.float .f64 H) := fun n => Fq.gkeep (hG n) y1
  repeat (go_big_quiet_step (first | (go_at_call 56; exact (hc _).mono (fun e w' h => ⟨h.1, hall _ (Fq.gtrans (hG _) h.2)⟩)) | (go_at_call 55; exact (hf _).mono (fun e w' h => ⟨h.1, hall _ (Fq.gtrans (hG _) h.2)⟩))))
  refine wpQuiet_nil ?_
  rintro _ ⟨nq, rfl⟩
  have gq : Kp w2 (G nq) := hG nq
  clear cc0 cc1 cc2 cc3 cc4 hall hG
  have k3 := Kp.trans k2 gq
  have sr3 := H3c.keep sr gq
  have qy3 := Fq.H2.keep qy gq
  clear x0 x1 x2 x3 x4 x5 r0 r1 r2 r3 r4 r5 y0 y1 y2 y3
  obtain ⟨r0, r1, r2, r3, r4, r5⟩ := id sr3
  obtain ⟨y0, y1, y2, y3⟩ := id qy3
  go_wp2_with (first | (go_at_call 54; refine (nai_ _).mono ?_; rintro e w5 ⟨rfl, g5⟩; have k5 := Kp.trans k3 g5; obtain ⟨r0, r1, r2, r3, r4, r5⟩ := H3c.keep sr3 g5))
  exact bodyPost_ret (v := .agg #[.float .f64 9218868437227405312, .float .f64 18442240474082181120, .int .i64 0]) (by simp [results, Try.results38, go_sem, r0, r1, r2]) rfl ⟨rfl, (((k5.setCell (by simp) _).setCell (by simp) _).setCell (by simp) _)⟩
set_option maxRecDepth 20000 in
set_option maxHeartbeats 2000000 in
theorem dreadD_ (a b L H : Nat) (D R : Int) (C : Bool) (hx : ∀ w : World, Calls Try.prog 31 #[.agg #[.float .f64 a, .float .f64 b]] w fun e w' => e = .returned (.agg #[.float .f64 L, .float .f64 H]) ∧ Kp w w') (hv : ∀ w : World, Calls Try.prog 53 #[.agg #[.float .f64 L, .float .f64 H]] w fun e w' => e = .returned (.bool true) ∧ Kp w w') (hc : ∀ w : World, Calls Try.prog 56 #[.agg #[.float .f64 L, .float .f64 H]] w fun e w' => e = .returned (.bool C) ∧ Kp w w') (hf : ∀ w : World, Calls Try.prog 55 #[.int .i64 D, .agg #[.bool false, .bool true, .bool C]] w fun e w' => e = .returned (.int .i64 R) ∧ Kp w w') (u1 : (FloatKind.f64.format.order a L == some Ordering.eq) = true) (u2 : (FloatKind.f64.format.order b H == some Ordering.eq) = true) (t0 : (R == 0) = false) (w : World) : Calls Try.prog 38 #[.agg #[.float .f64 a, .float .f64 b, .int .i64 D]] w fun e w' => e = .returned (.agg #[.float .f64 L, .float .f64 H, .int .i64 R]) ∧ Kp w w' := by
  have q1 := Fq.eqInR a L
  have q2 := Fq.eqInR b H
  rw [u1] at q1
  rw [u2] at q2
  go_enter Try.func38, Try.ntmps38
  go_upto_region 5 with (first | (go_at_call 31; refine (hx _).mono ?_; rintro e w1 ⟨rfl, g1⟩; have k1 : Kp w w1 := Kp.trans (((Kp.refl w).alloc _).alloc _) g1; have sx := H3c.keep (H3c.keep (H3c.new w (.float .f64 a) (.float .f64 b) (.int .i64 D) 41) ((Kp.refl _).alloc (.cells #[.float .f64 0, .float .f64 0, .int .i64 0] 41))) g1; have sr := H3c.keep (H3c.two w #[.float .f64 a, .float .f64 b, .int .i64 D] (.float .f64 0) (.float .f64 0) (.int .i64 0) 41 41) g1) | (go_at_call 53; refine (hv _).mono ?_; rintro e w2 ⟨rfl, g2⟩; have k2 := Kp.trans (k1.alloc _) g2; have qy := Fq.H2.keep (Fq.H2.new w1 (.float .f64 L) (.float .f64 H) 31) g2; replace sx := H3c.keep (H3c.keep sx ((Kp.refl w1).alloc _)) g2; replace sr := H3c.keep (H3c.keep sr ((Kp.refl w1).alloc _)) g2; obtain ⟨x0, x1, x2, x3, x4, x5⟩ := id sx; obtain ⟨r0, r1, r2, r3, r4, r5⟩ := id sr; obtain ⟨y0, y1, y2, y3⟩ := id qy))
  refine Fq.wp_region_grow (by kernel_rfl) (by kernel_rfl) (fun ι _ G hG hall => ?_)
  have cc0 : ∀ n, (G n).cell? ⟨w.heap.size, 0, none⟩ = some (.float .f64 a) := fun n => Fq.gkeep (hG n) x0
  have cc1 : ∀ n, (G n).cell? ⟨w.heap.size, 1, none⟩ = some (.float .f64 b) := fun n => Fq.gkeep (hG n) x1
  have cc2 : ∀ n, (G n).cell? ⟨w.heap.size, 2, none⟩ = some (.int .i64 D) := fun n => Fq.gkeep (hG n) x2
  have cc3 : ∀ n, (G n).cell? ⟨w1.heap.size, 0, none⟩ = some (.float .f64 L) := fun n => Fq.gkeep (hG n) y0
  have cc4 : ∀ n, (G n).cell? ⟨w1.heap.size, 1, none⟩ = some (.float .f64 H) := fun n => Fq.gkeep (hG n) y1
  repeat (go_big_quiet_step (first | (go_at_call 56; exact (hc _).mono (fun e w' h => ⟨h.1, hall _ (Fq.gtrans (hG _) h.2)⟩)) | (go_at_call 55; exact (hf _).mono (fun e w' h => ⟨h.1, hall _ (Fq.gtrans (hG _) h.2)⟩))))
  refine wpQuiet_nil ?_
  rintro _ ⟨nq, rfl⟩
  have gq : Kp w2 (G nq) := hG nq
  clear cc0 cc1 cc2 cc3 cc4 hall hG
  have k3 := Kp.trans k2 gq
  have sr3 := H3c.keep sr gq
  have qy3 := Fq.H2.keep qy gq
  clear x0 x1 x2 x3 x4 x5 r0 r1 r2 r3 r4 r5 y0 y1 y2 y3
  obtain ⟨r0, r1, r2, r3, r4, r5⟩ := id sr3
  obtain ⟨y0, y1, y2, y3⟩ := id qy3
  go_wp2
  exact bodyPost_ret (v := .agg #[.float .f64 L, .float .f64 H, .int .i64 R]) (by simp [results, Try.results38, go_sem, r0, r1, r2]) rfl ⟨rfl, (((k3.setCell (by simp) _).setCell (by simp) _).setCell (by simp) _)⟩
set_option maxRecDepth 20000 in
set_option maxHeartbeats 2000000 in
theorem dreadE_ (a b L H : Nat) (D R : Int) (C : Bool) (hx : ∀ w : World, Calls Try.prog 31 #[.agg #[.float .f64 a, .float .f64 b]] w fun e w' => e = .returned (.agg #[.float .f64 L, .float .f64 H]) ∧ Kp w w') (hv : ∀ w : World, Calls Try.prog 53 #[.agg #[.float .f64 L, .float .f64 H]] w fun e w' => e = .returned (.bool true) ∧ Kp w w') (hc : ∀ w : World, Calls Try.prog 56 #[.agg #[.float .f64 L, .float .f64 H]] w fun e w' => e = .returned (.bool C) ∧ Kp w w') (hf : ∀ w : World, Calls Try.prog 55 #[.int .i64 D, .agg #[.bool false, .bool true, .bool C]] w fun e w' => e = .returned (.int .i64 R) ∧ Kp w w') (u1 : (FloatKind.f64.format.order a L == some Ordering.eq) = true) (u2 : (FloatKind.f64.format.order b H == some Ordering.eq) = true) (t0 : (R == 0) = true) (w : World) : Calls Try.prog 38 #[.agg #[.float .f64 a, .float .f64 b, .int .i64 D]] w fun e w' => e = .returned (.agg #[.float .f64 9218868437227405312, .float .f64 18442240474082181120, .int .i64 0]) ∧ Kp w w' := by
  have q1 := Fq.eqInR a L
  have q2 := Fq.eqInR b H
  rw [u1] at q1
  rw [u2] at q2
  go_enter Try.func38, Try.ntmps38
  go_upto_region 5 with (first | (go_at_call 31; refine (hx _).mono ?_; rintro e w1 ⟨rfl, g1⟩; have k1 : Kp w w1 := Kp.trans (((Kp.refl w).alloc _).alloc _) g1; have sx := H3c.keep (H3c.keep (H3c.new w (.float .f64 a) (.float .f64 b) (.int .i64 D) 41) ((Kp.refl _).alloc (.cells #[.float .f64 0, .float .f64 0, .int .i64 0] 41))) g1; have sr := H3c.keep (H3c.two w #[.float .f64 a, .float .f64 b, .int .i64 D] (.float .f64 0) (.float .f64 0) (.int .i64 0) 41 41) g1) | (go_at_call 53; refine (hv _).mono ?_; rintro e w2 ⟨rfl, g2⟩; have k2 := Kp.trans (k1.alloc _) g2; have qy := Fq.H2.keep (Fq.H2.new w1 (.float .f64 L) (.float .f64 H) 31) g2; replace sx := H3c.keep (H3c.keep sx ((Kp.refl w1).alloc _)) g2; replace sr := H3c.keep (H3c.keep sr ((Kp.refl w1).alloc _)) g2; obtain ⟨x0, x1, x2, x3, x4, x5⟩ := id sx; obtain ⟨r0, r1, r2, r3, r4, r5⟩ := id sr; obtain ⟨y0, y1, y2, y3⟩ := id qy))
  refine Fq.wp_region_grow (by kernel_rfl) (by kernel_rfl) (fun ι _ G hG hall => ?_)
  have cc0 : ∀ n, (G n).cell? ⟨w.heap.size, 0, none⟩ = some (.float .f64 a) := fun n => Fq.gkeep (hG n) x0
  have cc1 : ∀ n, (G n).cell? ⟨w.heap.size, 1, none⟩ = some (.float .f64 b) := fun n => Fq.gkeep (hG n) x1
  have cc2 : ∀ n, (G n).cell? ⟨w.heap.size, 2, none⟩ = some (.int .i64 D) := fun n => Fq.gkeep (hG n) x2
  have cc3 : ∀ n, (G n).cell? ⟨w1.heap.size, 0, none⟩ = some (.float .f64 L) := fun n => Fq.gkeep (hG n) y0
  have cc4 : ∀ n, (G n).cell? ⟨w1.heap.size, 1, none⟩ = some (.float .f64 H) := fun n => Fq.gkeep (hG n) y1
  repeat (go_big_quiet_step (first | (go_at_call 56; exact (hc _).mono (fun e w' h => ⟨h.1, hall _ (Fq.gtrans (hG _) h.2)⟩)) | (go_at_call 55; exact (hf _).mono (fun e w' h => ⟨h.1, hall _ (Fq.gtrans (hG _) h.2)⟩))))
  refine wpQuiet_nil ?_
  rintro _ ⟨nq, rfl⟩
  have gq : Kp w2 (G nq) := hG nq
  clear cc0 cc1 cc2 cc3 cc4 hall hG
  have k3 := Kp.trans k2 gq
  have sr3 := H3c.keep sr gq
  have qy3 := Fq.H2.keep qy gq
  clear x0 x1 x2 x3 x4 x5 r0 r1 r2 r3 r4 r5 y0 y1 y2 y3
  obtain ⟨r0, r1, r2, r3, r4, r5⟩ := id sr3
  obtain ⟨y0, y1, y2, y3⟩ := id qy3
  go_wp2_with (first | (go_at_call 54; refine (nai_ _).mono ?_; rintro e w5 ⟨rfl, g5⟩; have k5 := Kp.trans k3 g5; obtain ⟨r0, r1, r2, r3, r4, r5⟩ := H3c.keep sr3 g5))
  exact bodyPost_ret (v := .agg #[.float .f64 9218868437227405312, .float .f64 18442240474082181120, .int .i64 0]) (by simp [results, Try.results38, go_sem, r0, r1, r2]) rfl ⟨rfl, (((k5.setCell (by simp) _).setCell (by simp) _).setCell (by simp) _)⟩
end Go.Proofs.Ytcckdceijgdgoaa
