import Derived.Test.YtjkbapnndoldgaaKSHi
namespace Go.Proofs.Ytjkbapnndoldgaa
open Go.RowKit

set_option linter.unusedVariables false
set_option maxRecDepth 20000 in
set_option maxHeartbeats 1000000 in
theorem empty_d_ (w : World) : Calls Try.prog 73 #[] w fun e w' => e = .returned (.agg #[.float .f64 9218868437227405312, .float .f64 18442240474082181120]) ∧ Kp w w' := by
  have c1 : ∀ w : World, (convert 38 38 (.float .f64 9218868437227405312)).run Try.prog w = .ok (.float .f64 9218868437227405312) w := fun w => by kernel_rfl
  have c2 : ∀ w : World, (convert 38 38 (.float .f64 18442240474082181120)).run Try.prog w = .ok (.float .f64 18442240474082181120) w := fun w => by kernel_rfl
  go_enter Try.func73, Try.ntmps73
  go_wp2_with (first | (go_at_call 62; (first | refine (Fq.inf1_ _).mono ?_ | refine (Fq.infm_ _).mono ?_); rintro e w' ⟨rfl, rfl⟩))
  exact bodyPost_ret (v := .agg #[.float .f64 9218868437227405312, .float .f64 18442240474082181120]) (by simp [results, Try.results73, go_sem]) rfl ⟨rfl, (by repeat (with_reducible (first | assumption | exact Kp.refl _ | apply Kp.drew | apply Kp.alloc | apply Kp.drewN | (refine Kp.setCell ?_ (by first | omega | (simp <;> omega)) _) | (refine Kp.trans ?_ (by assumption)))))⟩
theorem plain_d9_ (x : Nat) (h : x < 18446744073709551616) (w : World) : Calls Try.prog 74 #[.float .f64 x] w fun e w' => e = .returned (.float .f64 (Fq.pla x)) ∧ w' = w := by
  obtain ⟨n, m, hm, rfl⟩ := Fq.exD x h
  have g := Fq.plain_d n m hm w
  rw [pla_wD n m hm] at g
  exact g
set_option maxRecDepth 20000 in
set_option maxHeartbeats 1000000 in
theorem read_d_ (a b : Nat) (ha : a < 18446744073709551616) (hb : b < 18446744073709551616) (w : World) : Calls Try.prog 48 #[.agg #[.float .f64 a, .float .f64 b]] w fun e w' => e = .returned (.agg #[.float .f64 (Fq.rlo a b), .float .f64 (Fq.rhi a b)]) ∧ Kp w w' := by
  have t2 := Fq.feqI a ha
  have t3 := Fq.feqM b hb
  have hpa := plain_d9_ a ha
  have hpb := plain_d9_ b hb
  have hu : Kp w w := Kp.refl w
  by_cases h1 : (FloatKind.f64.format.order a b == some Ordering.lt || FloatKind.f64.format.order a b == some Ordering.eq) = true
  · by_cases h2 : a = 9218868437227405312
    · have es : Fq.snd a b = false := by simp [Fq.snd, h2]
      rw [decide_eq_true h2] at t2
      rw [show Fq.rlo a b = 9218868437227405312 from by simp [Fq.rlo, es], show Fq.rhi a b = 18442240474082181120 from by simp [Fq.rhi, es]]
      clear h2 es ha hb
      go_enter Try.func48, Try.ntmps48
      go_wp2_with (first | (go_at_call 73; refine (empty_d_ _).mono ?_; rintro e w1 ⟨rfl, g1⟩; have k1 : Kp w w1 := Kp.trans (((Kp.refl w).alloc _).alloc _) g1; have s1 := H48.keep (H48.new w (.float .f64 a) (.float .f64 b) (.float .f64 0) (.float .f64 0) 55 55) g1; have y0 := fun o => (H48.keep s1 ((Kp.refl w1).alloc o)).1.1; have y1 := fun o => (H48.keep s1 ((Kp.refl w1).alloc o)).1.2.1; have y2 := fun o => (H48.keep s1 ((Kp.refl w1).alloc o)).2.1; have y3 := fun o => (H48.keep s1 ((Kp.refl w1).alloc o)).2.2.1; have y4 := fun o => (H48.keep s1 ((Kp.refl w1).alloc o)).1.2.2.1; have y5 := fun o => (H48.keep s1 ((Kp.refl w1).alloc o)).1.2.2.2; have y6 := fun o => (H48.keep s1 ((Kp.refl w1).alloc o)).2.2.2.1; have y7 := fun o => (H48.keep s1 ((Kp.refl w1).alloc o)).2.2.2.2))
      exact bodyPost_ret (v := .agg #[.float .f64 9218868437227405312, .float .f64 18442240474082181120]) (by simp [results, Try.results48, go_sem, y2, y3]) rfl ⟨rfl, (by first | exact ((k1.alloc _).setCell (by simp <;> omega) _).setCell (by simp <;> omega) _ | repeat (with_reducible (first | assumption | exact Kp.refl _ | apply Kp.drew | apply Kp.alloc | apply Kp.drewN | (refine Kp.setCell ?_ (by first | omega | (simp <;> omega)) _) | (refine Kp.trans ?_ (by assumption)))))⟩
    · rw [decide_eq_false h2] at t2
      by_cases h3 : b = 18442240474082181120
      · have es : Fq.snd a b = false := by simp [Fq.snd, h3]
        rw [decide_eq_true h3] at t3
        rw [show Fq.rlo a b = 9218868437227405312 from by simp [Fq.rlo, es], show Fq.rhi a b = 18442240474082181120 from by simp [Fq.rhi, es]]
        clear h2 h3 es ha hb
        go_enter Try.func48, Try.ntmps48
        go_wp2_with (first | (go_at_call 73; refine (empty_d_ _).mono ?_; rintro e w1 ⟨rfl, g1⟩; have k1 : Kp w w1 := Kp.trans (((Kp.refl w).alloc _).alloc _) g1; have s1 := H48.keep (H48.new w (.float .f64 a) (.float .f64 b) (.float .f64 0) (.float .f64 0) 55 55) g1; have y0 := fun o => (H48.keep s1 ((Kp.refl w1).alloc o)).1.1; have y1 := fun o => (H48.keep s1 ((Kp.refl w1).alloc o)).1.2.1; have y2 := fun o => (H48.keep s1 ((Kp.refl w1).alloc o)).2.1; have y3 := fun o => (H48.keep s1 ((Kp.refl w1).alloc o)).2.2.1; have y4 := fun o => (H48.keep s1 ((Kp.refl w1).alloc o)).1.2.2.1; have y5 := fun o => (H48.keep s1 ((Kp.refl w1).alloc o)).1.2.2.2; have y6 := fun o => (H48.keep s1 ((Kp.refl w1).alloc o)).2.2.2.1; have y7 := fun o => (H48.keep s1 ((Kp.refl w1).alloc o)).2.2.2.2))
        exact bodyPost_ret (v := .agg #[.float .f64 9218868437227405312, .float .f64 18442240474082181120]) (by simp [results, Try.results48, go_sem, y2, y3]) rfl ⟨rfl, (by first | exact ((k1.alloc _).setCell (by simp <;> omega) _).setCell (by simp <;> omega) _ | repeat (with_reducible (first | assumption | exact Kp.refl _ | apply Kp.drew | apply Kp.alloc | apply Kp.drewN | (refine Kp.setCell ?_ (by first | omega | (simp <;> omega)) _) | (refine Kp.trans ?_ (by assumption)))))⟩
      · have es : Fq.snd a b = true := by simp only [Fq.snd, h1, h2, h3]; simp
        rw [decide_eq_false h3] at t3
        rw [show Fq.rlo a b = Fq.pla a from by simp [Fq.rlo, es], show Fq.rhi a b = Fq.pla b from by simp [Fq.rhi, es]]
        clear h2 h3 es ha hb
        go_enter Try.func48, Try.ntmps48
        go_upto_region 5 with (first | (go_at_call 73; refine (empty_d_ _).mono ?_; rintro e w1 ⟨rfl, g1⟩; have k1 : Kp w w1 := Kp.trans (((Kp.refl w).alloc _).alloc _) g1; have s1 := H48.keep (H48.new w (.float .f64 a) (.float .f64 b) (.float .f64 0) (.float .f64 0) 55 55) g1; have y0 := fun o => (H48.keep s1 ((Kp.refl w1).alloc o)).1.1; have y1 := fun o => (H48.keep s1 ((Kp.refl w1).alloc o)).1.2.1; have y2 := fun o => (H48.keep s1 ((Kp.refl w1).alloc o)).2.1; have y3 := fun o => (H48.keep s1 ((Kp.refl w1).alloc o)).2.2.1; have y4 := fun o => (H48.keep s1 ((Kp.refl w1).alloc o)).1.2.2.1; have y5 := fun o => (H48.keep s1 ((Kp.refl w1).alloc o)).1.2.2.2; have y6 := fun o => (H48.keep s1 ((Kp.refl w1).alloc o)).2.2.2.1; have y7 := fun o => (H48.keep s1 ((Kp.refl w1).alloc o)).2.2.2.2))
        have z0 := y0 (.cells #[.float .f64 9218868437227405312, .float .f64 18442240474082181120] 55)
        have z1 := y1 (.cells #[.float .f64 9218868437227405312, .float .f64 18442240474082181120] 55)
        have z2 := y2 (.cells #[.float .f64 9218868437227405312, .float .f64 18442240474082181120] 55)
        have z3 := y3 (.cells #[.float .f64 9218868437227405312, .float .f64 18442240474082181120] 55)
        have z6 := y6 (.cells #[.float .f64 9218868437227405312, .float .f64 18442240474082181120] 55)
        have z7 := y7 (.cells #[.float .f64 9218868437227405312, .float .f64 18442240474082181120] 55)
        have kW := k1.alloc (.cells #[.float .f64 9218868437227405312, .float .f64 18442240474082181120] 55)
        clear y0 y1 y2 y3 y4 y5 y6 y7 s1 k1 g1
        generalize w1.alloc (.cells #[.float .f64 9218868437227405312, .float .f64 18442240474082181120] 55) = W at z0 z1 z2 z3 z6 z7 kW ⊢
        have d0 : W.drew.cell? ⟨w.heap.size, 0, none⟩ = some (.float .f64 a) := by simpa [go_sem] using z0
        have d1 : W.drew.cell? ⟨w.heap.size, 1, none⟩ = some (.float .f64 b) := by simpa [go_sem] using z1
        go_region_held3 (fun w' => w'.cell? ⟨w.heap.size, 0, none⟩ = some (.float .f64 a) ∧ w'.cell? ⟨w.heap.size, 1, none⟩ = some (.float .f64 b)) (first | with_reducible exact ⟨z0, z1⟩ | with_reducible exact ⟨d0, d1⟩ | (simp [go_sem, z0, z1])) (first | (go_at_call 74; (first | refine (hpa _).mono ?_ | refine (hpb _).mono ?_); rintro e w' ⟨rfl, rfl⟩))
        go_wp2
        exact bodyPost_ret (v := .agg #[.float .f64 (Fq.pla a), .float .f64 (Fq.pla b)]) (by simp [results, Try.results48, go_sem, z2, z3]) rfl ⟨rfl, ((kW.drew).setCell (by simp <;> omega) _).setCell (by simp <;> omega) _⟩
  · have h1' : (FloatKind.f64.format.order a b == some Ordering.lt || FloatKind.f64.format.order a b == some Ordering.eq) = false := by simpa using h1
    have es : Fq.snd a b = false := by simp only [Fq.snd, h1']; simp
    rw [show Fq.rlo a b = 9218868437227405312 from by simp [Fq.rlo, es], show Fq.rhi a b = 18442240474082181120 from by simp [Fq.rhi, es]]
    clear h1 es ha hb t2 t3
    go_enter Try.func48, Try.ntmps48
    go_wp2_with (first | (go_at_call 73; refine (empty_d_ _).mono ?_; rintro e w1 ⟨rfl, g1⟩; have k1 : Kp w w1 := Kp.trans (((Kp.refl w).alloc _).alloc _) g1; have s1 := H48.keep (H48.new w (.float .f64 a) (.float .f64 b) (.float .f64 0) (.float .f64 0) 55 55) g1; have y0 := fun o => (H48.keep s1 ((Kp.refl w1).alloc o)).1.1; have y1 := fun o => (H48.keep s1 ((Kp.refl w1).alloc o)).1.2.1; have y2 := fun o => (H48.keep s1 ((Kp.refl w1).alloc o)).2.1; have y3 := fun o => (H48.keep s1 ((Kp.refl w1).alloc o)).2.2.1; have y4 := fun o => (H48.keep s1 ((Kp.refl w1).alloc o)).1.2.2.1; have y5 := fun o => (H48.keep s1 ((Kp.refl w1).alloc o)).1.2.2.2; have y6 := fun o => (H48.keep s1 ((Kp.refl w1).alloc o)).2.2.2.1; have y7 := fun o => (H48.keep s1 ((Kp.refl w1).alloc o)).2.2.2.2))
    exact bodyPost_ret (v := .agg #[.float .f64 9218868437227405312, .float .f64 18442240474082181120]) (by simp [results, Try.results48, go_sem, y2, y3]) rfl ⟨rfl, (by first | exact ((k1.alloc _).setCell (by simp <;> omega) _).setCell (by simp <;> omega) _ | repeat (with_reducible (first | assumption | exact Kp.refl _ | apply Kp.drew | apply Kp.alloc | apply Kp.drewN | (refine Kp.setCell ?_ (by first | omega | (simp <;> omega)) _) | (refine Kp.trans ?_ (by assumption)))))⟩
set_option linter.unusedVariables false
set_option maxRecDepth 20000 in
set_option maxHeartbeats 4000000 in
theorem meetA_d_ (a b c d L1 H1 L2 H2 NL NH : Nat) (hx : ∀ w : World, Calls Try.prog 48 #[.agg #[.float .f64 a, .float .f64 b]] w fun e w' => e = .returned (.agg #[.float .f64 L1, .float .f64 H1]) ∧ Kp w w') (hy : ∀ w : World, Calls Try.prog 48 #[.agg #[.float .f64 c, .float .f64 d]] w fun e w' => e = .returned (.agg #[.float .f64 L2, .float .f64 H2]) ∧ Kp w w') (ZL ZH : Nat) (hm1 : ∀ (ts : Array TypeId) (t : TypeId) (w : World), (Builtin.max_ ts t #[.float .f64 L1, .float .f64 L2]).run Try.prog w = .ok (.float .f64 NL) w) (hm2 : ∀ (ts : Array TypeId) (t : TypeId) (w : World), (Builtin.min_ ts t #[.float .f64 H1, .float .f64 H2]).run Try.prog w = .ok (.float .f64 NH) w) (hz : ∀ w : World, Calls Try.prog 48 #[.agg #[.float .f64 NL, .float .f64 NH]] w fun e w' => e = .returned (.agg #[.float .f64 ZL, .float .f64 ZH]) ∧ Kp w w') (w : World) : Calls Try.prog 26 #[.agg #[.float .f64 a, .float .f64 b], .agg #[.float .f64 c, .float .f64 d]] w fun e w' => e = .returned (.agg #[.float .f64 ZL, .float .f64 ZH]) ∧ Kp w w' := by
    go_enter Try.func26, Try.ntmps26
    go_upto_region 1 with fail
    go_cut [] (fun wx => H6 wx w.heap.size (.float .f64 L1) (.float .f64 H1) (.float .f64 L2) (.float .f64 H2) (.float .f64 0) (.float .f64 0) ∧ Kp w wx)
    case first =>
      go_region_with (first | (go_at_call_of 48 (Value.agg #[.float .f64 a, .float .f64 b]); refine (hx _).mono ?_; rintro e wx ⟨rfl, gx⟩; first | (have kx := Kp.trans ky gx; have sx := H6.keep sy gx; obtain ⟨⟨p0, p1, p2, p3⟩, ⟨p4, p5, p6, p7⟩, ⟨p8, p9, pa, pb⟩⟩ := id sx) | (have kx : Kp w wx := Kp.trans ((((Kp.refl w).alloc _).alloc _).alloc _).drew gx; have sx := H6.keep (H6.new w (.float .f64 a) (.float .f64 b) (.float .f64 c) (.float .f64 d) (.float .f64 0) (.float .f64 0) 55 55 55) (Kp.trans (Kp.drew (Kp.refl _)) gx); obtain ⟨⟨p0, p1, p2, p3⟩, ⟨p4, p5, p6, p7⟩, ⟨p8, p9, pa, pb⟩⟩ := id sx)) | (go_at_call_of 48 (Value.agg #[.float .f64 c, .float .f64 d]); refine (hy _).mono ?_; rintro e wy ⟨rfl, gy⟩; first | (have ky := Kp.trans kx gy; have sy := H6.keep sx gy; obtain ⟨⟨p0, p1, p2, p3⟩, ⟨p4, p5, p6, p7⟩, ⟨p8, p9, pa, pb⟩⟩ := id sy) | (have ky : Kp w wy := Kp.trans ((((Kp.refl w).alloc _).alloc _).alloc _).drew gy; have sy := H6.keep (H6.new w (.float .f64 a) (.float .f64 b) (.float .f64 c) (.float .f64 d) (.float .f64 0) (.float .f64 0) 55 55 55) (Kp.trans (Kp.drew (Kp.refl _)) gy); obtain ⟨⟨p0, p1, p2, p3⟩, ⟨p4, p5, p6, p7⟩, ⟨p8, p9, pa, pb⟩⟩ := id sy)))
      all_goals (
        go_wp2_with fail
        go_meet
        first | (exact ⟨H6.put (id sy : H6 wy w.heap.size (.float .f64 a) (.float .f64 b) (.float .f64 c) (.float .f64 d) (.float .f64 0) (.float .f64 0)) (.float .f64 L1) (.float .f64 H1) (.float .f64 L2) (.float .f64 H2), (((ky.setCell (Nat.le_refl _) _).setCell (Nat.le_refl _) _).setCell (Nat.le_succ _) _).setCell (Nat.le_succ _) _⟩) | (exact ⟨H6.put (id sx : H6 wx w.heap.size (.float .f64 a) (.float .f64 b) (.float .f64 c) (.float .f64 d) (.float .f64 0) (.float .f64 0)) (.float .f64 L1) (.float .f64 H1) (.float .f64 L2) (.float .f64 H2), (((kx.setCell (Nat.le_refl _) _).setCell (Nat.le_refl _) _).setCell (Nat.le_succ _) _).setCell (Nat.le_succ _) _⟩))
    case rest =>
    obtain ⟨sw, kw⟩ := hcut
    obtain ⟨⟨p0, p1, p2, p3⟩, ⟨p4, p5, p6, p7⟩, ⟨p8, p9, pa, pb⟩⟩ := id sw
    go_wp2_with (first | (go_at_call_of 48 (Value.agg #[.float .f64 NL, .float .f64 NH]); refine (hz _).mono ?_; rintro e wv ⟨rfl, gv⟩; have kv := Kp.trans kw gv; have sv := H6.keep sw gv; obtain ⟨⟨u0, u1, u2, u3⟩, ⟨u4, u5, u6, u7⟩, ⟨u8, u9, ua, ub⟩⟩ := id sv))
    exact bodyPost_ret (v := .agg #[.float .f64 ZL, .float .f64 ZH]) (by simp [results, Try.results26, go_sem, u8, u9]) rfl ⟨rfl, (kv.setCell (by simp <;> omega) _).setCell (by simp <;> omega) _⟩
theorem meet_d9_ (a b c d : Nat) (L1 H1 L2 H2 : Int) (hx : Rd a b L1 H1) (hy : Rd c d L2 H2) (w : World) : Calls Try.prog 26 #[.agg #[.float .f64 a, .float .f64 b], .agg #[.float .f64 c, .float .f64 d]] w fun e w' => e = .returned (.agg #[.float .f64 (pw (iL L1 H1 L2 H2)), .float .f64 (pw (iH L1 H1 L2 H2))]) ∧ Kp w w' := by
  have e := read_meet L1 H1 L2 H2 hx.vd hy.vd
  have hz : ∀ w : World, Calls Try.prog 48 #[.agg #[.float .f64 (pw (max L1 L2)), .float .f64 (pw (min H1 H2))]] w fun e w' => e = .returned (.agg #[.float .f64 (pw (iL L1 H1 L2 H2)), .float .f64 (pw (iH L1 H1 L2 H2))]) ∧ Kp w w' := by
    intro w
    have g := read_d_ (pw (max L1 L2)) (pw (min H1 H2)) (pw_lt _ (bd_max _ _ hx.vd.lo hy.vd.lo)) (pw_lt _ (bd_min _ _ hx.vd.hi hy.vd.hi)) w
    rw [e.1, e.2] at g
    exact g
  exact meetA_d_ a b c d _ _ _ _ _ _ (fun w => by have g := read_d_ a b hx.1 hx.2.1 w; rw [hx.2.2.2.1, hx.2.2.2.2] at g; exact g) (fun w => by have g := read_d_ c d hy.1 hy.2.1 w; rw [hy.2.2.2.1, hy.2.2.2.2] at g; exact g) _ _ (max9_ L1 L2 hx.vd.lo hy.vd.lo) (min9_ H1 H2 hx.vd.hi hy.vd.hi) hz w
end Go.Proofs.Ytjkbapnndoldgaa
