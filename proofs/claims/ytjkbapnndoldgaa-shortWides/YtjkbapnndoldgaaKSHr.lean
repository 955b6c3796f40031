import Derived.Test.YtjkbapnndoldgaaKNRb
import Derived.Test.YtjkbapnndoldgaaKSHm
namespace Go.Proofs.Ytjkbapnndoldgaa
open Go.RowKit

set_option linter.unusedVariables false
theorem pla_wS (n : Bool) (m : Nat) (h : m < 2147483648) : Fq.wS (n && !(m == 0)) m = Sg.pla (Fq.wS n m) := by
  unfold Sg.pla Fq.wS
  cases n
  · simp <;> omega
  · by_cases c : m = 0
    · simp [c]
    · simp [c]
set_option maxRecDepth 20000 in
set_option maxHeartbeats 1000000 in
theorem empty_s_ (w : World) : Calls Try.prog 39 #[] w fun e w' => e = .returned (.agg #[.float .f32 2139095040, .float .f32 4286578688]) ∧ Kp w w' := by
  have c1 : ∀ w : World, (convert 38 26 (.float .f64 9218868437227405312)).run Try.prog w = .ok (.float .f32 2139095040) w := fun w => by kernel_rfl
  have c2 : ∀ w : World, (convert 38 26 (.float .f64 18442240474082181120)).run Try.prog w = .ok (.float .f32 4286578688) w := fun w => by kernel_rfl
  go_enter Try.func39, Try.ntmps39
  go_wp2_with (first | (go_at_call 62; (first | refine (Fq.inf1_ _).mono ?_ | refine (Fq.infm_ _).mono ?_); rintro e w' ⟨rfl, rfl⟩))
  exact bodyPost_ret (v := .agg #[.float .f32 2139095040, .float .f32 4286578688]) (by simp [results, Try.results39, go_sem]) rfl ⟨rfl, (by repeat (with_reducible (first | assumption | exact Kp.refl _ | apply Kp.drew | apply Kp.alloc | apply Kp.drewN | (refine Kp.setCell ?_ (by first | omega | (simp <;> omega)) _) | (refine Kp.trans ?_ (by assumption)))))⟩
theorem plain_s9_ (x : Nat) (h : x < 4294967296) (w : World) : Calls Try.prog 55 #[.float .f32 x] w fun e w' => e = .returned (.float .f32 (Sg.pla x)) ∧ w' = w := by
  obtain ⟨n, m, hm, rfl⟩ := Fq.exS x h
  have g := Fq.plain_s n m hm w
  rw [pla_wS n m hm] at g
  exact g
set_option maxRecDepth 20000 in
set_option maxHeartbeats 1000000 in
theorem read_s_ (a b : Nat) (ha : a < 4294967296) (hb : b < 4294967296) (w : World) : Calls Try.prog 31 #[.agg #[.float .f32 a, .float .f32 b]] w fun e w' => e = .returned (.agg #[.float .f32 (Sg.rlo a b), .float .f32 (Sg.rhi a b)]) ∧ Kp w w' := by
  have t2 := Sg.feqI a ha
  have t3 := Sg.feqM b hb
  have hpa := plain_s9_ a ha
  have hpb := plain_s9_ b hb
  have hu : Kp w w := Kp.refl w
  by_cases h1 : (FloatKind.f32.format.order a b == some Ordering.lt || FloatKind.f32.format.order a b == some Ordering.eq) = true
  · by_cases h2 : a = 2139095040
    · have es : Sg.snd a b = false := by simp [Sg.snd, h2]
      rw [decide_eq_true h2] at t2
      rw [show Sg.rlo a b = 2139095040 from by simp [Sg.rlo, es], show Sg.rhi a b = 4286578688 from by simp [Sg.rhi, es]]
      clear h2 es ha hb
      go_enter Try.func31, Try.ntmps31
      go_wp2_with (first | (go_at_call 39; refine (empty_s_ _).mono ?_; rintro e w1 ⟨rfl, g1⟩; have k1 : Kp w w1 := Kp.trans (((Kp.refl w).alloc _).alloc _) g1; have s1 := H48.keep (H48.new w (.float .f32 a) (.float .f32 b) (.float .f32 0) (.float .f32 0) 47 47) g1; have y0 := fun o => (H48.keep s1 ((Kp.refl w1).alloc o)).1.1; have y1 := fun o => (H48.keep s1 ((Kp.refl w1).alloc o)).1.2.1; have y2 := fun o => (H48.keep s1 ((Kp.refl w1).alloc o)).2.1; have y3 := fun o => (H48.keep s1 ((Kp.refl w1).alloc o)).2.2.1; have y4 := fun o => (H48.keep s1 ((Kp.refl w1).alloc o)).1.2.2.1; have y5 := fun o => (H48.keep s1 ((Kp.refl w1).alloc o)).1.2.2.2; have y6 := fun o => (H48.keep s1 ((Kp.refl w1).alloc o)).2.2.2.1; have y7 := fun o => (H48.keep s1 ((Kp.refl w1).alloc o)).2.2.2.2))
      exact bodyPost_ret (v := .agg #[.float .f32 2139095040, .float .f32 4286578688]) (by simp [results, Try.results31, go_sem, y2, y3]) rfl ⟨rfl, (by first | exact ((k1.alloc _).setCell (by simp <;> omega) _).setCell (by simp <;> omega) _ | repeat (with_reducible (first | assumption | exact Kp.refl _ | apply Kp.drew | apply Kp.alloc | apply Kp.drewN | (refine Kp.setCell ?_ (by first | omega | (simp <;> omega)) _) | (refine Kp.trans ?_ (by assumption)))))⟩
    · rw [decide_eq_false h2] at t2
      by_cases h3 : b = 4286578688
      · have es : Sg.snd a b = false := by simp [Sg.snd, h3]
        rw [decide_eq_true h3] at t3
        rw [show Sg.rlo a b = 2139095040 from by simp [Sg.rlo, es], show Sg.rhi a b = 4286578688 from by simp [Sg.rhi, es]]
        clear h2 h3 es ha hb
        go_enter Try.func31, Try.ntmps31
        go_wp2_with (first | (go_at_call 39; refine (empty_s_ _).mono ?_; rintro e w1 ⟨rfl, g1⟩; have k1 : Kp w w1 := Kp.trans (((Kp.refl w).alloc _).alloc _) g1; have s1 := H48.keep (H48.new w (.float .f32 a) (.float .f32 b) (.float .f32 0) (.float .f32 0) 47 47) g1; have y0 := fun o => (H48.keep s1 ((Kp.refl w1).alloc o)).1.1; have y1 := fun o => (H48.keep s1 ((Kp.refl w1).alloc o)).1.2.1; have y2 := fun o => (H48.keep s1 ((Kp.refl w1).alloc o)).2.1; have y3 := fun o => (H48.keep s1 ((Kp.refl w1).alloc o)).2.2.1; have y4 := fun o => (H48.keep s1 ((Kp.refl w1).alloc o)).1.2.2.1; have y5 := fun o => (H48.keep s1 ((Kp.refl w1).alloc o)).1.2.2.2; have y6 := fun o => (H48.keep s1 ((Kp.refl w1).alloc o)).2.2.2.1; have y7 := fun o => (H48.keep s1 ((Kp.refl w1).alloc o)).2.2.2.2))
        exact bodyPost_ret (v := .agg #[.float .f32 2139095040, .float .f32 4286578688]) (by simp [results, Try.results31, go_sem, y2, y3]) rfl ⟨rfl, (by first | exact ((k1.alloc _).setCell (by simp <;> omega) _).setCell (by simp <;> omega) _ | repeat (with_reducible (first | assumption | exact Kp.refl _ | apply Kp.drew | apply Kp.alloc | apply Kp.drewN | (refine Kp.setCell ?_ (by first | omega | (simp <;> omega)) _) | (refine Kp.trans ?_ (by assumption)))))⟩
      · have es : Sg.snd a b = true := by simp only [Sg.snd, h1, h2, h3]; simp
        rw [decide_eq_false h3] at t3
        rw [show Sg.rlo a b = Sg.pla a from by simp [Sg.rlo, es], show Sg.rhi a b = Sg.pla b from by simp [Sg.rhi, es]]
        clear h2 h3 es ha hb
        go_enter Try.func31, Try.ntmps31
        go_upto_region 5 with (first | (go_at_call 39; refine (empty_s_ _).mono ?_; rintro e w1 ⟨rfl, g1⟩; have k1 : Kp w w1 := Kp.trans (((Kp.refl w).alloc _).alloc _) g1; have s1 := H48.keep (H48.new w (.float .f32 a) (.float .f32 b) (.float .f32 0) (.float .f32 0) 47 47) g1; have y0 := fun o => (H48.keep s1 ((Kp.refl w1).alloc o)).1.1; have y1 := fun o => (H48.keep s1 ((Kp.refl w1).alloc o)).1.2.1; have y2 := fun o => (H48.keep s1 ((Kp.refl w1).alloc o)).2.1; have y3 := fun o => (H48.keep s1 ((Kp.refl w1).alloc o)).2.2.1; have y4 := fun o => (H48.keep s1 ((Kp.refl w1).alloc o)).1.2.2.1; have y5 := fun o => (H48.keep s1 ((Kp.refl w1).alloc o)).1.2.2.2; have y6 := fun o => (H48.keep s1 ((Kp.refl w1).alloc o)).2.2.2.1; have y7 := fun o => (H48.keep s1 ((Kp.refl w1).alloc o)).2.2.2.2))
        have z0 := y0 (.cells #[.float .f32 2139095040, .float .f32 4286578688] 47)
        have z1 := y1 (.cells #[.float .f32 2139095040, .float .f32 4286578688] 47)
        have z2 := y2 (.cells #[.float .f32 2139095040, .float .f32 4286578688] 47)
        have z3 := y3 (.cells #[.float .f32 2139095040, .float .f32 4286578688] 47)
        have z6 := y6 (.cells #[.float .f32 2139095040, .float .f32 4286578688] 47)
        have z7 := y7 (.cells #[.float .f32 2139095040, .float .f32 4286578688] 47)
        have kW := k1.alloc (.cells #[.float .f32 2139095040, .float .f32 4286578688] 47)
        clear y0 y1 y2 y3 y4 y5 y6 y7 s1 k1 g1
        generalize w1.alloc (.cells #[.float .f32 2139095040, .float .f32 4286578688] 47) = W at z0 z1 z2 z3 z6 z7 kW ⊢
        have d0 : W.drew.cell? ⟨w.heap.size, 0, none⟩ = some (.float .f32 a) := by simpa [go_sem] using z0
        have d1 : W.drew.cell? ⟨w.heap.size, 1, none⟩ = some (.float .f32 b) := by simpa [go_sem] using z1
        go_region_held3 (fun w' => w'.cell? ⟨w.heap.size, 0, none⟩ = some (.float .f32 a) ∧ w'.cell? ⟨w.heap.size, 1, none⟩ = some (.float .f32 b)) (first | with_reducible exact ⟨z0, z1⟩ | with_reducible exact ⟨d0, d1⟩ | (simp [go_sem, z0, z1])) (first | (go_at_call 55; (first | refine (hpa _).mono ?_ | refine (hpb _).mono ?_); rintro e w' ⟨rfl, rfl⟩))
        go_wp2
        exact bodyPost_ret (v := .agg #[.float .f32 (Sg.pla a), .float .f32 (Sg.pla b)]) (by simp [results, Try.results31, go_sem, z2, z3]) rfl ⟨rfl, ((kW.drew).setCell (by simp <;> omega) _).setCell (by simp <;> omega) _⟩
  · have h1' : (FloatKind.f32.format.order a b == some Ordering.lt || FloatKind.f32.format.order a b == some Ordering.eq) = false := by simpa using h1
    have es : Sg.snd a b = false := by simp only [Sg.snd, h1']; simp
    rw [show Sg.rlo a b = 2139095040 from by simp [Sg.rlo, es], show Sg.rhi a b = 4286578688 from by simp [Sg.rhi, es]]
    clear h1 es ha hb t2 t3
    go_enter Try.func31, Try.ntmps31
    go_wp2_with (first | (go_at_call 39; refine (empty_s_ _).mono ?_; rintro e w1 ⟨rfl, g1⟩; have k1 : Kp w w1 := Kp.trans (((Kp.refl w).alloc _).alloc _) g1; have s1 := H48.keep (H48.new w (.float .f32 a) (.float .f32 b) (.float .f32 0) (.float .f32 0) 47 47) g1; have y0 := fun o => (H48.keep s1 ((Kp.refl w1).alloc o)).1.1; have y1 := fun o => (H48.keep s1 ((Kp.refl w1).alloc o)).1.2.1; have y2 := fun o => (H48.keep s1 ((Kp.refl w1).alloc o)).2.1; have y3 := fun o => (H48.keep s1 ((Kp.refl w1).alloc o)).2.2.1; have y4 := fun o => (H48.keep s1 ((Kp.refl w1).alloc o)).1.2.2.1; have y5 := fun o => (H48.keep s1 ((Kp.refl w1).alloc o)).1.2.2.2; have y6 := fun o => (H48.keep s1 ((Kp.refl w1).alloc o)).2.2.2.1; have y7 := fun o => (H48.keep s1 ((Kp.refl w1).alloc o)).2.2.2.2))
    exact bodyPost_ret (v := .agg #[.float .f32 2139095040, .float .f32 4286578688]) (by simp [results, Try.results31, go_sem, y2, y3]) rfl ⟨rfl, (by first | exact ((k1.alloc _).setCell (by simp <;> omega) _).setCell (by simp <;> omega) _ | repeat (with_reducible (first | assumption | exact Kp.refl _ | apply Kp.drew | apply Kp.alloc | apply Kp.drewN | (refine Kp.setCell ?_ (by first | omega | (simp <;> omega)) _) | (refine Kp.trans ?_ (by assumption)))))⟩
end Go.Proofs.Ytjkbapnndoldgaa
