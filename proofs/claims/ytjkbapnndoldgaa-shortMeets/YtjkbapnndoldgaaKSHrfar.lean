import Derived.Test.YtjkbapnndoldgaaKNRa
namespace Go.Proofs.Ytjkbapnndoldgaa
open Go.RowKit

set_option linter.unusedVariables false
set_option maxRecDepth 20000 in
set_option maxHeartbeats 1000000 in
theorem empty_far_ (w : World) : Calls Try.prog 75 #[] w fun e w' => e = .returned (.agg #[.float .f64 9218868437227405312, .float .f64 18442240474082181120]) ∧ Kp w w' := by
  have c1 : ∀ w : World, (convert 38 57 (.float .f64 9218868437227405312)).run Try.prog w = .ok (.float .f64 9218868437227405312) w := fun w => by kernel_rfl
  have c2 : ∀ w : World, (convert 38 57 (.float .f64 18442240474082181120)).run Try.prog w = .ok (.float .f64 18442240474082181120) w := fun w => by kernel_rfl
  go_enter Try.func75, Try.ntmps75
  go_wp2_with (first | (go_at_call 62; (first | refine (Fq.inf1_ _).mono ?_ | refine (Fq.infm_ _).mono ?_); rintro e w' ⟨rfl, rfl⟩))
  exact bodyPost_ret (v := .agg #[.float .f64 9218868437227405312, .float .f64 18442240474082181120]) (by simp [results, Try.results75, go_sem]) rfl ⟨rfl, (by repeat (with_reducible (first | assumption | exact Kp.refl _ | apply Kp.drew | apply Kp.alloc | apply Kp.drewN | (refine Kp.setCell ?_ (by first | omega | (simp <;> omega)) _) | (refine Kp.trans ?_ (by assumption)))))⟩
theorem plain_far9_ (x : Nat) (h : x < 18446744073709551616) (w : World) : Calls Try.prog 76 #[.float .f64 x] w fun e w' => e = .returned (.float .f64 (Fq.pla x)) ∧ w' = w := by
  obtain ⟨n, m, hm, rfl⟩ := Fq.exD x h
  have g := Fq.plain_far n m hm w
  rw [pla_wD n m hm] at g
  exact g
set_option maxRecDepth 20000 in
set_option maxHeartbeats 1000000 in
theorem read_far_ (a b : Nat) (ha : a < 18446744073709551616) (hb : b < 18446744073709551616) (w : World) : Calls Try.prog 49 #[.agg #[.float .f64 a, .float .f64 b]] w fun e w' => e = .returned (.agg #[.float .f64 (Fq.rlo a b), .float .f64 (Fq.rhi a b)]) ∧ Kp w w' := by
  have t2 := Fq.feqI a ha
  have t3 := Fq.feqM b hb
  have hpa := plain_far9_ a ha
  have hpb := plain_far9_ b hb
  have hu : Kp w w := Kp.refl w
  by_cases h1 : (FloatKind.f64.format.order a b == some Ordering.lt || FloatKind.f64.format.order a b == some Ordering.eq) = true
  · by_cases h2 : a = 9218868437227405312
    · have es : Fq.snd a b = false := by simp [Fq.snd, h2]
      rw [decide_eq_true h2] at t2
      rw [show Fq.rlo a b = 9218868437227405312 from by simp [Fq.rlo, es], show Fq.rhi a b = 18442240474082181120 from by simp [Fq.rhi, es]]
      clear h2 es ha hb
      go_enter Try.func49, Try.ntmps49
      go_wp2_with (first | (go_at_call 75; refine (empty_far_ _).mono ?_; rintro e w1 ⟨rfl, g1⟩; have k1 : Kp w w1 := Kp.trans (((Kp.refl w).alloc _).alloc _) g1; have s1 := H48.keep (H48.new w (.float .f64 a) (.float .f64 b) (.float .f64 0) (.float .f64 0) 59 59) g1; have y0 := fun o => (H48.keep s1 ((Kp.refl w1).alloc o)).1.1; have y1 := fun o => (H48.keep s1 ((Kp.refl w1).alloc o)).1.2.1; have y2 := fun o => (H48.keep s1 ((Kp.refl w1).alloc o)).2.1; have y3 := fun o => (H48.keep s1 ((Kp.refl w1).alloc o)).2.2.1; have y4 := fun o => (H48.keep s1 ((Kp.refl w1).alloc o)).1.2.2.1; have y5 := fun o => (H48.keep s1 ((Kp.refl w1).alloc o)).1.2.2.2; have y6 := fun o => (H48.keep s1 ((Kp.refl w1).alloc o)).2.2.2.1; have y7 := fun o => (H48.keep s1 ((Kp.refl w1).alloc o)).2.2.2.2))
      exact bodyPost_ret (v := .agg #[.float .f64 9218868437227405312, .float .f64 18442240474082181120]) (by simp [results, Try.results49, go_sem, y2, y3]) rfl ⟨rfl, (by first | exact ((k1.alloc _).setCell (by simp <;> omega) _).setCell (by simp <;> omega) _ | repeat (with_reducible (first | assumption | exact Kp.refl _ | apply Kp.drew | apply Kp.alloc | apply Kp.drewN | (refine Kp.setCell ?_ (by first | omega | (simp <;> omega)) _) | (refine Kp.trans ?_ (by assumption)))))⟩
    · rw [decide_eq_false h2] at t2
      by_cases h3 : b = 18442240474082181120
      · have es : Fq.snd a b = false := by simp [Fq.snd, h3]
        rw [decide_eq_true h3] at t3
        rw [show Fq.rlo a b = 9218868437227405312 from by simp [Fq.rlo, es], show Fq.rhi a b = 18442240474082181120 from by simp [Fq.rhi, es]]
        clear h2 h3 es ha hb
        go_enter Try.func49, Try.ntmps49
        go_wp2_with (first | (go_at_call 75; refine (empty_far_ _).mono ?_; rintro e w1 ⟨rfl, g1⟩; have k1 : Kp w w1 := Kp.trans (((Kp.refl w).alloc _).alloc _) g1; have s1 := H48.keep (H48.new w (.float .f64 a) (.float .f64 b) (.float .f64 0) (.float .f64 0) 59 59) g1; have y0 := fun o => (H48.keep s1 ((Kp.refl w1).alloc o)).1.1; have y1 := fun o => (H48.keep s1 ((Kp.refl w1).alloc o)).1.2.1; have y2 := fun o => (H48.keep s1 ((Kp.refl w1).alloc o)).2.1; have y3 := fun o => (H48.keep s1 ((Kp.refl w1).alloc o)).2.2.1; have y4 := fun o => (H48.keep s1 ((Kp.refl w1).alloc o)).1.2.2.1; have y5 := fun o => (H48.keep s1 ((Kp.refl w1).alloc o)).1.2.2.2; have y6 := fun o => (H48.keep s1 ((Kp.refl w1).alloc o)).2.2.2.1; have y7 := fun o => (H48.keep s1 ((Kp.refl w1).alloc o)).2.2.2.2))
        exact bodyPost_ret (v := .agg #[.float .f64 9218868437227405312, .float .f64 18442240474082181120]) (by simp [results, Try.results49, go_sem, y2, y3]) rfl ⟨rfl, (by first | exact ((k1.alloc _).setCell (by simp <;> omega) _).setCell (by simp <;> omega) _ | repeat (with_reducible (first | assumption | exact Kp.refl _ | apply Kp.drew | apply Kp.alloc | apply Kp.drewN | (refine Kp.setCell ?_ (by first | omega | (simp <;> omega)) _) | (refine Kp.trans ?_ (by assumption)))))⟩
      · have es : Fq.snd a b = true := by simp only [Fq.snd, h1, h2, h3]; simp
        rw [decide_eq_false h3] at t3
        rw [show Fq.rlo a b = Fq.pla a from by simp [Fq.rlo, es], show Fq.rhi a b = Fq.pla b from by simp [Fq.rhi, es]]
        clear h2 h3 es ha hb
        go_enter Try.func49, Try.ntmps49
        go_upto_region 5 with (first | (go_at_call 75; refine (empty_far_ _).mono ?_; rintro e w1 ⟨rfl, g1⟩; have k1 : Kp w w1 := Kp.trans (((Kp.refl w).alloc _).alloc _) g1; have s1 := H48.keep (H48.new w (.float .f64 a) (.float .f64 b) (.float .f64 0) (.float .f64 0) 59 59) g1; have y0 := fun o => (H48.keep s1 ((Kp.refl w1).alloc o)).1.1; have y1 := fun o => (H48.keep s1 ((Kp.refl w1).alloc o)).1.2.1; have y2 := fun o => (H48.keep s1 ((Kp.refl w1).alloc o)).2.1; have y3 := fun o => (H48.keep s1 ((Kp.refl w1).alloc o)).2.2.1; have y4 := fun o => (H48.keep s1 ((Kp.refl w1).alloc o)).1.2.2.1; have y5 := fun o => (H48.keep s1 ((Kp.refl w1).alloc o)).1.2.2.2; have y6 := fun o => (H48.keep s1 ((Kp.refl w1).alloc o)).2.2.2.1; have y7 := fun o => (H48.keep s1 ((Kp.refl w1).alloc o)).2.2.2.2))
        have z0 := y0 (.cells #[.float .f64 9218868437227405312, .float .f64 18442240474082181120] 59)
        have z1 := y1 (.cells #[.float .f64 9218868437227405312, .float .f64 18442240474082181120] 59)
        have z2 := y2 (.cells #[.float .f64 9218868437227405312, .float .f64 18442240474082181120] 59)
        have z3 := y3 (.cells #[.float .f64 9218868437227405312, .float .f64 18442240474082181120] 59)
        have z6 := y6 (.cells #[.float .f64 9218868437227405312, .float .f64 18442240474082181120] 59)
        have z7 := y7 (.cells #[.float .f64 9218868437227405312, .float .f64 18442240474082181120] 59)
        have kW := k1.alloc (.cells #[.float .f64 9218868437227405312, .float .f64 18442240474082181120] 59)
        clear y0 y1 y2 y3 y4 y5 y6 y7 s1 k1 g1
        generalize w1.alloc (.cells #[.float .f64 9218868437227405312, .float .f64 18442240474082181120] 59) = W at z0 z1 z2 z3 z6 z7 kW ⊢
        have d0 : W.drew.cell? ⟨w.heap.size, 0, none⟩ = some (.float .f64 a) := by simpa [go_sem] using z0
        have d1 : W.drew.cell? ⟨w.heap.size, 1, none⟩ = some (.float .f64 b) := by simpa [go_sem] using z1
        go_region_held3 (fun w' => w'.cell? ⟨w.heap.size, 0, none⟩ = some (.float .f64 a) ∧ w'.cell? ⟨w.heap.size, 1, none⟩ = some (.float .f64 b)) (first | with_reducible exact ⟨z0, z1⟩ | with_reducible exact ⟨d0, d1⟩ | (simp [go_sem, z0, z1])) (first | (go_at_call 76; (first | refine (hpa _).mono ?_ | refine (hpb _).mono ?_); rintro e w' ⟨rfl, rfl⟩))
        go_wp2
        exact bodyPost_ret (v := .agg #[.float .f64 (Fq.pla a), .float .f64 (Fq.pla b)]) (by simp [results, Try.results49, go_sem, z2, z3]) rfl ⟨rfl, ((kW.drew).setCell (by simp <;> omega) _).setCell (by simp <;> omega) _⟩
  · have h1' : (FloatKind.f64.format.order a b == some Ordering.lt || FloatKind.f64.format.order a b == some Ordering.eq) = false := by simpa using h1
    have es : Fq.snd a b = false := by simp only [Fq.snd, h1']; simp
    rw [show Fq.rlo a b = 9218868437227405312 from by simp [Fq.rlo, es], show Fq.rhi a b = 18442240474082181120 from by simp [Fq.rhi, es]]
    clear h1 es ha hb t2 t3
    go_enter Try.func49, Try.ntmps49
    go_wp2_with (first | (go_at_call 75; refine (empty_far_ _).mono ?_; rintro e w1 ⟨rfl, g1⟩; have k1 : Kp w w1 := Kp.trans (((Kp.refl w).alloc _).alloc _) g1; have s1 := H48.keep (H48.new w (.float .f64 a) (.float .f64 b) (.float .f64 0) (.float .f64 0) 59 59) g1; have y0 := fun o => (H48.keep s1 ((Kp.refl w1).alloc o)).1.1; have y1 := fun o => (H48.keep s1 ((Kp.refl w1).alloc o)).1.2.1; have y2 := fun o => (H48.keep s1 ((Kp.refl w1).alloc o)).2.1; have y3 := fun o => (H48.keep s1 ((Kp.refl w1).alloc o)).2.2.1; have y4 := fun o => (H48.keep s1 ((Kp.refl w1).alloc o)).1.2.2.1; have y5 := fun o => (H48.keep s1 ((Kp.refl w1).alloc o)).1.2.2.2; have y6 := fun o => (H48.keep s1 ((Kp.refl w1).alloc o)).2.2.2.1; have y7 := fun o => (H48.keep s1 ((Kp.refl w1).alloc o)).2.2.2.2))
    exact bodyPost_ret (v := .agg #[.float .f64 9218868437227405312, .float .f64 18442240474082181120]) (by simp [results, Try.results49, go_sem, y2, y3]) rfl ⟨rfl, (by first | exact ((k1.alloc _).setCell (by simp <;> omega) _).setCell (by simp <;> omega) _ | repeat (with_reducible (first | assumption | exact Kp.refl _ | apply Kp.drew | apply Kp.alloc | apply Kp.drewN | (refine Kp.setCell ?_ (by first | omega | (simp <;> omega)) _) | (refine Kp.trans ?_ (by assumption)))))⟩
end Go.Proofs.Ytjkbapnndoldgaa
