import Derived.Test.YtjkbapnndoldgaaKSHi
namespace Go.Proofs.Ytjkbapnndoldgaa
open Go.RowKit

set_option linter.unusedVariables false
set_option maxRecDepth 20000 in
set_option maxHeartbeats 1000000 in
theorem empty_near_ (w : World) : Calls Try.prog 71 #[] w fun e w' => e = .returned (.agg #[.float .f32 2139095040, .float .f32 4286578688]) ∧ Kp w w' := by
  have c1 : ∀ w : World, (convert 38 50 (.float .f64 9218868437227405312)).run Try.prog w = .ok (.float .f32 2139095040) w := fun w => by kernel_rfl
  have c2 : ∀ w : World, (convert 38 50 (.float .f64 18442240474082181120)).run Try.prog w = .ok (.float .f32 4286578688) w := fun w => by kernel_rfl
  go_enter Try.func71, Try.ntmps71
  go_wp2_with (first | (go_at_call 62; (first | refine (Fq.inf1_ _).mono ?_ | refine (Fq.infm_ _).mono ?_); rintro e w' ⟨rfl, rfl⟩))
  exact bodyPost_ret (v := .agg #[.float .f32 2139095040, .float .f32 4286578688]) (by simp [results, Try.results71, go_sem]) rfl ⟨rfl, (by repeat (with_reducible (first | assumption | exact Kp.refl _ | apply Kp.drew | apply Kp.alloc | apply Kp.drewN | (refine Kp.setCell ?_ (by first | omega | (simp <;> omega)) _) | (refine Kp.trans ?_ (by assumption)))))⟩
theorem plain_near9_ (x : Nat) (h : x < 4294967296) (w : World) : Calls Try.prog 72 #[.float .f32 x] w fun e w' => e = .returned (.float .f32 (Sg.pla x)) ∧ w' = w := by
  obtain ⟨n, m, hm, rfl⟩ := Fq.exS x h
  have g := Fq.plain_near n m hm w
  rw [pla_wS n m hm] at g
  exact g
set_option maxRecDepth 20000 in
set_option maxHeartbeats 1000000 in
theorem read_near_ (a b : Nat) (ha : a < 4294967296) (hb : b < 4294967296) (w : World) : Calls Try.prog 47 #[.agg #[.float .f32 a, .float .f32 b]] w fun e w' => e = .returned (.agg #[.float .f32 (Sg.rlo a b), .float .f32 (Sg.rhi a b)]) ∧ Kp w w' := by
  have t2 := Sg.feqI a ha
  have t3 := Sg.feqM b hb
  have hpa := plain_near9_ a ha
  have hpb := plain_near9_ b hb
  have hu : Kp w w := Kp.refl w
  by_cases h1 : (FloatKind.f32.format.order a b == some Ordering.lt || FloatKind.f32.format.order a b == some Ordering.eq) = true
  · by_cases h2 : a = 2139095040
    · have es : Sg.snd a b = false := by simp [Sg.snd, h2]
      rw [decide_eq_true h2] at t2
      rw [show Sg.rlo a b = 2139095040 from by simp [Sg.rlo, es], show Sg.rhi a b = 4286578688 from by simp [Sg.rhi, es]]
      clear h2 es ha hb
      go_enter Try.func47, Try.ntmps47
      go_wp2_with (first | (go_at_call 71; refine (empty_near_ _).mono ?_; rintro e w1 ⟨rfl, g1⟩; have k1 : Kp w w1 := Kp.trans (((Kp.refl w).alloc _).alloc _) g1; have s1 := H48.keep (H48.new w (.float .f32 a) (.float .f32 b) (.float .f32 0) (.float .f32 0) 52 52) g1; have y0 := fun o => (H48.keep s1 ((Kp.refl w1).alloc o)).1.1; have y1 := fun o => (H48.keep s1 ((Kp.refl w1).alloc o)).1.2.1; have y2 := fun o => (H48.keep s1 ((Kp.refl w1).alloc o)).2.1; have y3 := fun o => (H48.keep s1 ((Kp.refl w1).alloc o)).2.2.1; have y4 := fun o => (H48.keep s1 ((Kp.refl w1).alloc o)).1.2.2.1; have y5 := fun o => (H48.keep s1 ((Kp.refl w1).alloc o)).1.2.2.2; have y6 := fun o => (H48.keep s1 ((Kp.refl w1).alloc o)).2.2.2.1; have y7 := fun o => (H48.keep s1 ((Kp.refl w1).alloc o)).2.2.2.2))
      exact bodyPost_ret (v := .agg #[.float .f32 2139095040, .float .f32 4286578688]) (by simp [results, Try.results47, go_sem, y2, y3]) rfl ⟨rfl, (by first | exact ((k1.alloc _).setCell (by simp <;> omega) _).setCell (by simp <;> omega) _ | repeat (with_reducible (first | assumption | exact Kp.refl _ | apply Kp.drew | apply Kp.alloc | apply Kp.drewN | (refine Kp.setCell ?_ (by first | omega | (simp <;> omega)) _) | (refine Kp.trans ?_ (by assumption)))))⟩
    · rw [decide_eq_false h2] at t2
      by_cases h3 : b = 4286578688
      · have es : Sg.snd a b = false := by simp [Sg.snd, h3]
        rw [decide_eq_true h3] at t3
        rw [show Sg.rlo a b = 2139095040 from by simp [Sg.rlo, es], show Sg.rhi a b = 4286578688 from by simp [Sg.rhi, es]]
        clear h2 h3 es ha hb
        go_enter Try.func47, Try.ntmps47
        go_wp2_with (first | (go_at_call 71; refine (empty_near_ _).mono ?_; rintro e w1 ⟨rfl, g1⟩; have k1 : Kp w w1 := Kp.trans (((Kp.refl w).alloc _).alloc _) g1; have s1 := H48.keep (H48.new w (.float .f32 a) (.float .f32 b) (.float .f32 0) (.float .f32 0) 52 52) g1; have y0 := fun o => (H48.keep s1 ((Kp.refl w1).alloc o)).1.1; have y1 := fun o => (H48.keep s1 ((Kp.refl w1).alloc o)).1.2.1; have y2 := fun o => (H48.keep s1 ((Kp.refl w1).alloc o)).2.1; have y3 := fun o => (H48.keep s1 ((Kp.refl w1).alloc o)).2.2.1; have y4 := fun o => (H48.keep s1 ((Kp.refl w1).alloc o)).1.2.2.1; have y5 := fun o => (H48.keep s1 ((Kp.refl w1).alloc o)).1.2.2.2; have y6 := fun o => (H48.keep s1 ((Kp.refl w1).alloc o)).2.2.2.1; have y7 := fun o => (H48.keep s1 ((Kp.refl w1).alloc o)).2.2.2.2))
        exact bodyPost_ret (v := .agg #[.float .f32 2139095040, .float .f32 4286578688]) (by simp [results, Try.results47, go_sem, y2, y3]) rfl ⟨rfl, (by first | exact ((k1.alloc _).setCell (by simp <;> omega) _).setCell (by simp <;> omega) _ | repeat (with_reducible (first | assumption | exact Kp.refl _ | apply Kp.drew | apply Kp.alloc | apply Kp.drewN | (refine Kp.setCell ?_ (by first | omega | (simp <;> omega)) _) | (refine Kp.trans ?_ (by assumption)))))⟩
      · have es : Sg.snd a b = true := by simp only [Sg.snd, h1, h2, h3]; simp
        rw [decide_eq_false h3] at t3
        rw [show Sg.rlo a b = Sg.pla a from by simp [Sg.rlo, es], show Sg.rhi a b = Sg.pla b from by simp [Sg.rhi, es]]
        clear h2 h3 es ha hb
        go_enter Try.func47, Try.ntmps47
        go_upto_region 5 with (first | (go_at_call 71; refine (empty_near_ _).mono ?_; rintro e w1 ⟨rfl, g1⟩; have k1 : Kp w w1 := Kp.trans (((Kp.refl w).alloc _).alloc _) g1; have s1 := H48.keep (H48.new w (.float .f32 a) (.float .f32 b) (.float .f32 0) (.float .f32 0) 52 52) g1; have y0 := fun o => (H48.keep s1 ((Kp.refl w1).alloc o)).1.1; have y1 := fun o => (H48.keep s1 ((Kp.refl w1).alloc o)).1.2.1; have y2 := fun o => (H48.keep s1 ((Kp.refl w1).alloc o)).2.1; have y3 := fun o => (H48.keep s1 ((Kp.refl w1).alloc o)).2.2.1; have y4 := fun o => (H48.keep s1 ((Kp.refl w1).alloc o)).1.2.2.1; have y5 := fun o => (H48.keep s1 ((Kp.refl w1).alloc o)).1.2.2.2; have y6 := fun o => (H48.keep s1 ((Kp.refl w1).alloc o)).2.2.2.1; have y7 := fun o => (H48.keep s1 ((Kp.refl w1).alloc o)).2.2.2.2))
        have z0 := y0 (.cells #[.float .f32 2139095040, .float .f32 4286578688] 52)
        have z1 := y1 (.cells #[.float .f32 2139095040, .float .f32 4286578688] 52)
        have z2 := y2 (.cells #[.float .f32 2139095040, .float .f32 4286578688] 52)
        have z3 := y3 (.cells #[.float .f32 2139095040, .float .f32 4286578688] 52)
        have z6 := y6 (.cells #[.float .f32 2139095040, .float .f32 4286578688] 52)
        have z7 := y7 (.cells #[.float .f32 2139095040, .float .f32 4286578688] 52)
        have kW := k1.alloc (.cells #[.float .f32 2139095040, .float .f32 4286578688] 52)
        clear y0 y1 y2 y3 y4 y5 y6 y7 s1 k1 g1
        generalize w1.alloc (.cells #[.float .f32 2139095040, .float .f32 4286578688] 52) = W at z0 z1 z2 z3 z6 z7 kW ⊢
        have d0 : W.drew.cell? ⟨w.heap.size, 0, none⟩ = some (.float .f32 a) := by simpa [go_sem] using z0
        have d1 : W.drew.cell? ⟨w.heap.size, 1, none⟩ = some (.float .f32 b) := by simpa [go_sem] using z1
        go_region_held3 (fun w' => w'.cell? ⟨w.heap.size, 0, none⟩ = some (.float .f32 a) ∧ w'.cell? ⟨w.heap.size, 1, none⟩ = some (.float .f32 b)) (first | with_reducible exact ⟨z0, z1⟩ | with_reducible exact ⟨d0, d1⟩ | (simp [go_sem, z0, z1])) (first | (go_at_call 72; (first | refine (hpa _).mono ?_ | refine (hpb _).mono ?_); rintro e w' ⟨rfl, rfl⟩))
        go_wp2
        exact bodyPost_ret (v := .agg #[.float .f32 (Sg.pla a), .float .f32 (Sg.pla b)]) (by simp [results, Try.results47, go_sem, z2, z3]) rfl ⟨rfl, ((kW.drew).setCell (by simp <;> omega) _).setCell (by simp <;> omega) _⟩
  · have h1' : (FloatKind.f32.format.order a b == some Ordering.lt || FloatKind.f32.format.order a b == some Ordering.eq) = false := by simpa using h1
    have es : Sg.snd a b = false := by simp only [Sg.snd, h1']; simp
    rw [show Sg.rlo a b = 2139095040 from by simp [Sg.rlo, es], show Sg.rhi a b = 4286578688 from by simp [Sg.rhi, es]]
    clear h1 es ha hb t2 t3
    go_enter Try.func47, Try.ntmps47
    go_wp2_with (first | (go_at_call 71; refine (empty_near_ _).mono ?_; rintro e w1 ⟨rfl, g1⟩; have k1 : Kp w w1 := Kp.trans (((Kp.refl w).alloc _).alloc _) g1; have s1 := H48.keep (H48.new w (.float .f32 a) (.float .f32 b) (.float .f32 0) (.float .f32 0) 52 52) g1; have y0 := fun o => (H48.keep s1 ((Kp.refl w1).alloc o)).1.1; have y1 := fun o => (H48.keep s1 ((Kp.refl w1).alloc o)).1.2.1; have y2 := fun o => (H48.keep s1 ((Kp.refl w1).alloc o)).2.1; have y3 := fun o => (H48.keep s1 ((Kp.refl w1).alloc o)).2.2.1; have y4 := fun o => (H48.keep s1 ((Kp.refl w1).alloc o)).1.2.2.1; have y5 := fun o => (H48.keep s1 ((Kp.refl w1).alloc o)).1.2.2.2; have y6 := fun o => (H48.keep s1 ((Kp.refl w1).alloc o)).2.2.2.1; have y7 := fun o => (H48.keep s1 ((Kp.refl w1).alloc o)).2.2.2.2))
    exact bodyPost_ret (v := .agg #[.float .f32 2139095040, .float .f32 4286578688]) (by simp [results, Try.results47, go_sem, y2, y3]) rfl ⟨rfl, (by first | exact ((k1.alloc _).setCell (by simp <;> omega) _).setCell (by simp <;> omega) _ | repeat (with_reducible (first | assumption | exact Kp.refl _ | apply Kp.drew | apply Kp.alloc | apply Kp.drewN | (refine Kp.setCell ?_ (by first | omega | (simp <;> omega)) _) | (refine Kp.trans ?_ (by assumption)))))⟩
set_option linter.unusedVariables false
set_option maxRecDepth 20000 in
set_option maxHeartbeats 4000000 in
theorem meetA_near_ (a b c d L1 H1 L2 H2 NL NH : Nat) (hx : ∀ w : World, Calls Try.prog 47 #[.agg #[.float .f32 a, .float .f32 b]] w fun e w' => e = .returned (.agg #[.float .f32 L1, .float .f32 H1]) ∧ Kp w w') (hy : ∀ w : World, Calls Try.prog 47 #[.agg #[.float .f32 c, .float .f32 d]] w fun e w' => e = .returned (.agg #[.float .f32 L2, .float .f32 H2]) ∧ Kp w w') (ZL ZH : Nat) (hm1 : ∀ (ts : Array TypeId) (t : TypeId) (w : World), (Builtin.max_ ts t #[.float .f32 L1, .float .f32 L2]).run Try.prog w = .ok (.float .f32 NL) w) (hm2 : ∀ (ts : Array TypeId) (t : TypeId) (w : World), (Builtin.min_ ts t #[.float .f32 H1, .float .f32 H2]).run Try.prog w = .ok (.float .f32 NH) w) (hz : ∀ w : World, Calls Try.prog 47 #[.agg #[.float .f32 NL, .float .f32 NH]] w fun e w' => e = .returned (.agg #[.float .f32 ZL, .float .f32 ZH]) ∧ Kp w w') (w : World) : Calls Try.prog 23 #[.agg #[.float .f32 a, .float .f32 b], .agg #[.float .f32 c, .float .f32 d]] w fun e w' => e = .returned (.agg #[.float .f32 ZL, .float .f32 ZH]) ∧ Kp w w' := by
    go_enter Try.func23, Try.ntmps23
    go_upto_region 1 with fail
    go_cut [] (fun wx => H6 wx w.heap.size (.float .f32 L1) (.float .f32 H1) (.float .f32 L2) (.float .f32 H2) (.float .f32 0) (.float .f32 0) ∧ Kp w wx)
    case first =>
      go_region_with (first | (go_at_call_of 47 (Value.agg #[.float .f32 a, .float .f32 b]); refine (hx _).mono ?_; rintro e wx ⟨rfl, gx⟩; first | (have kx := Kp.trans ky gx; have sx := H6.keep sy gx; obtain ⟨⟨p0, p1, p2, p3⟩, ⟨p4, p5, p6, p7⟩, ⟨p8, p9, pa, pb⟩⟩ := id sx) | (have kx : Kp w wx := Kp.trans ((((Kp.refl w).alloc _).alloc _).alloc _).drew gx; have sx := H6.keep (H6.new w (.float .f32 a) (.float .f32 b) (.float .f32 c) (.float .f32 d) (.float .f32 0) (.float .f32 0) 52 52 52) (Kp.trans (Kp.drew (Kp.refl _)) gx); obtain ⟨⟨p0, p1, p2, p3⟩, ⟨p4, p5, p6, p7⟩, ⟨p8, p9, pa, pb⟩⟩ := id sx)) | (go_at_call_of 47 (Value.agg #[.float .f32 c, .float .f32 d]); refine (hy _).mono ?_; rintro e wy ⟨rfl, gy⟩; first | (have ky := Kp.trans kx gy; have sy := H6.keep sx gy; obtain ⟨⟨p0, p1, p2, p3⟩, ⟨p4, p5, p6, p7⟩, ⟨p8, p9, pa, pb⟩⟩ := id sy) | (have ky : Kp w wy := Kp.trans ((((Kp.refl w).alloc _).alloc _).alloc _).drew gy; have sy := H6.keep (H6.new w (.float .f32 a) (.float .f32 b) (.float .f32 c) (.float .f32 d) (.float .f32 0) (.float .f32 0) 52 52 52) (Kp.trans (Kp.drew (Kp.refl _)) gy); obtain ⟨⟨p0, p1, p2, p3⟩, ⟨p4, p5, p6, p7⟩, ⟨p8, p9, pa, pb⟩⟩ := id sy)))
      all_goals (
        go_wp2_with fail
        go_meet
        first | (exact ⟨H6.put (id sy : H6 wy w.heap.size (.float .f32 a) (.float .f32 b) (.float .f32 c) (.float .f32 d) (.float .f32 0) (.float .f32 0)) (.float .f32 L1) (.float .f32 H1) (.float .f32 L2) (.float .f32 H2), (((ky.setCell (Nat.le_refl _) _).setCell (Nat.le_refl _) _).setCell (Nat.le_succ _) _).setCell (Nat.le_succ _) _⟩) | (exact ⟨H6.put (id sx : H6 wx w.heap.size (.float .f32 a) (.float .f32 b) (.float .f32 c) (.float .f32 d) (.float .f32 0) (.float .f32 0)) (.float .f32 L1) (.float .f32 H1) (.float .f32 L2) (.float .f32 H2), (((kx.setCell (Nat.le_refl _) _).setCell (Nat.le_refl _) _).setCell (Nat.le_succ _) _).setCell (Nat.le_succ _) _⟩))
    case rest =>
    obtain ⟨sw, kw⟩ := hcut
    obtain ⟨⟨p0, p1, p2, p3⟩, ⟨p4, p5, p6, p7⟩, ⟨p8, p9, pa, pb⟩⟩ := id sw
    go_wp2_with (first | (go_at_call_of 47 (Value.agg #[.float .f32 NL, .float .f32 NH]); refine (hz _).mono ?_; rintro e wv ⟨rfl, gv⟩; have kv := Kp.trans kw gv; have sv := H6.keep sw gv; obtain ⟨⟨u0, u1, u2, u3⟩, ⟨u4, u5, u6, u7⟩, ⟨u8, u9, ua, ub⟩⟩ := id sv))
    exact bodyPost_ret (v := .agg #[.float .f32 ZL, .float .f32 ZH]) (by simp [results, Try.results23, go_sem, u8, u9]) rfl ⟨rfl, (kv.setCell (by simp <;> omega) _).setCell (by simp <;> omega) _⟩
theorem meet_near9_ (a b c d : Nat) (L1 H1 L2 H2 : Int) (hx : Sg.Rd a b L1 H1) (hy : Sg.Rd c d L2 H2) (w : World) : Calls Try.prog 23 #[.agg #[.float .f32 a, .float .f32 b], .agg #[.float .f32 c, .float .f32 d]] w fun e w' => e = .returned (.agg #[.float .f32 (Sg.pw (Sg.iL L1 H1 L2 H2)), .float .f32 (Sg.pw (Sg.iH L1 H1 L2 H2))]) ∧ Kp w w' := by
  have e := Sg.read_meet L1 H1 L2 H2 hx.vd hy.vd
  have hz : ∀ w : World, Calls Try.prog 47 #[.agg #[.float .f32 (Sg.pw (max L1 L2)), .float .f32 (Sg.pw (min H1 H2))]] w fun e w' => e = .returned (.agg #[.float .f32 (Sg.pw (Sg.iL L1 H1 L2 H2)), .float .f32 (Sg.pw (Sg.iH L1 H1 L2 H2))]) ∧ Kp w w' := by
    intro w
    have g := read_near_ (Sg.pw (max L1 L2)) (Sg.pw (min H1 H2)) (Sg.pw_lt _ (Sg.bd_max _ _ hx.vd.lo hy.vd.lo)) (Sg.pw_lt _ (Sg.bd_min _ _ hx.vd.hi hy.vd.hi)) w
    rw [e.1, e.2] at g
    exact g
  exact meetA_near_ a b c d _ _ _ _ _ _ (fun w => by have g := read_near_ a b hx.1 hx.2.1 w; rw [hx.2.2.2.1, hx.2.2.2.2] at g; exact g) (fun w => by have g := read_near_ c d hy.1 hy.2.1 w; rw [hy.2.2.2.1, hy.2.2.2.2] at g; exact g) _ _ (Sg.max9_ L1 L2 hx.vd.lo hy.vd.lo) (Sg.min9_ H1 H2 hx.vd.hi hy.vd.hi) hz w
set_option maxRecDepth 20000 in
set_option maxHeartbeats 4000000 in
theorem hullA_near_ (a b c d L1 H1 L2 H2 NL NH : Nat) (hx : ∀ w : World, Calls Try.prog 47 #[.agg #[.float .f32 a, .float .f32 b]] w fun e w' => e = .returned (.agg #[.float .f32 L1, .float .f32 H1]) ∧ Kp w w') (hy : ∀ w : World, Calls Try.prog 47 #[.agg #[.float .f32 c, .float .f32 d]] w fun e w' => e = .returned (.agg #[.float .f32 L2, .float .f32 H2]) ∧ Kp w w') (hm1 : ∀ (ts : Array TypeId) (t : TypeId) (w : World), (Builtin.min_ ts t #[.float .f32 L1, .float .f32 L2]).run Try.prog w = .ok (.float .f32 NL) w) (hm2 : ∀ (ts : Array TypeId) (t : TypeId) (w : World), (Builtin.max_ ts t #[.float .f32 H1, .float .f32 H2]).run Try.prog w = .ok (.float .f32 NH) w) (w : World) : Calls Try.prog 24 #[.agg #[.float .f32 a, .float .f32 b], .agg #[.float .f32 c, .float .f32 d]] w fun e w' => e = .returned (.agg #[.float .f32 NL, .float .f32 NH]) ∧ Kp w w' := by
    go_enter Try.func24, Try.ntmps24
    go_upto_region 1 with fail
    go_cut [] (fun wx => H6 wx w.heap.size (.float .f32 L1) (.float .f32 H1) (.float .f32 L2) (.float .f32 H2) (.float .f32 0) (.float .f32 0) ∧ Kp w wx)
    case first =>
      go_region_with (first | (go_at_call_of 47 (Value.agg #[.float .f32 a, .float .f32 b]); refine (hx _).mono ?_; rintro e wx ⟨rfl, gx⟩; first | (have kx := Kp.trans ky gx; have sx := H6.keep sy gx; obtain ⟨⟨p0, p1, p2, p3⟩, ⟨p4, p5, p6, p7⟩, ⟨p8, p9, pa, pb⟩⟩ := id sx) | (have kx : Kp w wx := Kp.trans ((((Kp.refl w).alloc _).alloc _).alloc _).drew gx; have sx := H6.keep (H6.new w (.float .f32 a) (.float .f32 b) (.float .f32 c) (.float .f32 d) (.float .f32 0) (.float .f32 0) 52 52 52) (Kp.trans (Kp.drew (Kp.refl _)) gx); obtain ⟨⟨p0, p1, p2, p3⟩, ⟨p4, p5, p6, p7⟩, ⟨p8, p9, pa, pb⟩⟩ := id sx)) | (go_at_call_of 47 (Value.agg #[.float .f32 c, .float .f32 d]); refine (hy _).mono ?_; rintro e wy ⟨rfl, gy⟩; first | (have ky := Kp.trans kx gy; have sy := H6.keep sx gy; obtain ⟨⟨p0, p1, p2, p3⟩, ⟨p4, p5, p6, p7⟩, ⟨p8, p9, pa, pb⟩⟩ := id sy) | (have ky : Kp w wy := Kp.trans ((((Kp.refl w).alloc _).alloc _).alloc _).drew gy; have sy := H6.keep (H6.new w (.float .f32 a) (.float .f32 b) (.float .f32 c) (.float .f32 d) (.float .f32 0) (.float .f32 0) 52 52 52) (Kp.trans (Kp.drew (Kp.refl _)) gy); obtain ⟨⟨p0, p1, p2, p3⟩, ⟨p4, p5, p6, p7⟩, ⟨p8, p9, pa, pb⟩⟩ := id sy)))
      all_goals (
        go_wp2_with fail
        go_meet
        first | (exact ⟨H6.put (id sy : H6 wy w.heap.size (.float .f32 a) (.float .f32 b) (.float .f32 c) (.float .f32 d) (.float .f32 0) (.float .f32 0)) (.float .f32 L1) (.float .f32 H1) (.float .f32 L2) (.float .f32 H2), (((ky.setCell (Nat.le_refl _) _).setCell (Nat.le_refl _) _).setCell (Nat.le_succ _) _).setCell (Nat.le_succ _) _⟩) | (exact ⟨H6.put (id sx : H6 wx w.heap.size (.float .f32 a) (.float .f32 b) (.float .f32 c) (.float .f32 d) (.float .f32 0) (.float .f32 0)) (.float .f32 L1) (.float .f32 H1) (.float .f32 L2) (.float .f32 H2), (((kx.setCell (Nat.le_refl _) _).setCell (Nat.le_refl _) _).setCell (Nat.le_succ _) _).setCell (Nat.le_succ _) _⟩))
    case rest =>
    obtain ⟨sw, kw⟩ := hcut
    obtain ⟨⟨p0, p1, p2, p3⟩, ⟨p4, p5, p6, p7⟩, ⟨p8, p9, pa, pb⟩⟩ := id sw
    go_wp2
    exact bodyPost_ret (v := .agg #[.float .f32 NL, .float .f32 NH]) (by simp [results, Try.results24, go_sem, p8, p9]) rfl ⟨rfl, (kw.setCell (by simp <;> omega) _).setCell (by simp <;> omega) _⟩
theorem join_near9_ (a b c d : Nat) (L1 H1 L2 H2 : Int) (hx : Sg.Rd a b L1 H1) (hy : Sg.Rd c d L2 H2) (w : World) : Calls Try.prog 24 #[.agg #[.float .f32 a, .float .f32 b], .agg #[.float .f32 c, .float .f32 d]] w fun e w' => e = .returned (.agg #[.float .f32 (Sg.pw (min L1 L2)), .float .f32 (Sg.pw (max H1 H2))]) ∧ Kp w w' :=
  hullA_near_ a b c d _ _ _ _ _ _ (fun w => by have g := read_near_ a b hx.1 hx.2.1 w; rw [hx.2.2.2.1, hx.2.2.2.2] at g; exact g) (fun w => by have g := read_near_ c d hy.1 hy.2.1 w; rw [hy.2.2.2.1, hy.2.2.2.2] at g; exact g) (Sg.min9_ L1 L2 hx.vd.lo hy.vd.lo) (Sg.max9_ H1 H2 hx.vd.hi hy.vd.hi) w
end Go.Proofs.Ytjkbapnndoldgaa
