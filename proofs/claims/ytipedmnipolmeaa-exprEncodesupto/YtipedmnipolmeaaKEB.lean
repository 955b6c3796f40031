import Derived.Test.YtipedmnipolmeaaKEA
namespace Go.Proofs.Ytipedmnipolmeaa
open Go.RowKit
namespace Fq
set_option maxRecDepth 20000 in
set_option maxHeartbeats 1000000 in
theorem read_ (a b : Nat) (ha : a < 18446744073709551616) (hb : b < 18446744073709551616) (w : World) : Calls Try.prog 59 #[.agg #[.float .f64 a, .float .f64 b]] w fun e w' => e = .returned (.agg #[.float .f64 (rlo a b), .float .f64 (rhi a b)]) ∧ Grown w w' := by
  have t2 := feqI a ha
  have t3 := feqM b hb
  have hpa := plain6_ a ha
  have hpb := plain6_ b hb
  by_cases h1 : (FloatKind.f64.format.order a b == some Ordering.lt || FloatKind.f64.format.order a b == some Ordering.eq) = true
  · by_cases h2 : a = 9218868437227405312
    · have es : snd a b = false := by simp [snd, h2]
      rw [decide_eq_true h2] at t2
      rw [show rlo a b = 9218868437227405312 from by simp [rlo, es], show rhi a b = 18442240474082181120 from by simp [rhi, es]]
      clear h2 es ha hb
      go_enter Try.func59, Try.ntmps59
      go_wp2
      go_quiet ((go_at_call 71; first | exact Calls.quiet_of_same (inf1_ _) | exact Calls.quiet_of_same (infm_ _)))
      go_wp2_with (first | (go_at_call 72; refine (empty6_ _).mono ?_; rintro e w' ⟨rfl, rfl⟩))
      exact bodyPost_ret (v := .agg #[.float .f64 9218868437227405312, .float .f64 18442240474082181120]) (by simp [results, Try.results59, go_sem] <;> simp only [*]) rfl ⟨rfl, (by repeat (with_reducible (first | assumption | exact Grown.refl _ | apply Grown.drew | apply Grown.alloc | apply gdrewN | (refine Grown.setCell ?_ (by simp <;> omega) _) | (refine gtrans ?_ (by assumption)))))⟩
    · rw [decide_eq_false h2] at t2
      by_cases h3 : b = 18442240474082181120
      · have es : snd a b = false := by simp [snd, h3]
        rw [decide_eq_true h3] at t3
        rw [show rlo a b = 9218868437227405312 from by simp [rlo, es], show rhi a b = 18442240474082181120 from by simp [rhi, es]]
        clear h2 h3 es ha hb
        go_enter Try.func59, Try.ntmps59
        go_wp2
        go_quiet ((go_at_call 71; first | exact Calls.quiet_of_same (inf1_ _) | exact Calls.quiet_of_same (infm_ _)))
        go_wp2_with (first | (go_at_call 72; refine (empty6_ _).mono ?_; rintro e w' ⟨rfl, rfl⟩))
        exact bodyPost_ret (v := .agg #[.float .f64 9218868437227405312, .float .f64 18442240474082181120]) (by simp [results, Try.results59, go_sem] <;> simp only [*]) rfl ⟨rfl, (by repeat (with_reducible (first | assumption | exact Grown.refl _ | apply Grown.drew | apply Grown.alloc | apply gdrewN | (refine Grown.setCell ?_ (by simp <;> omega) _) | (refine gtrans ?_ (by assumption)))))⟩
      · have es : snd a b = true := by simp only [snd, h1, h2, h3]; simp
        rw [decide_eq_false h3] at t3
        rw [show rlo a b = pla a from by simp [rlo, es], show rhi a b = pla b from by simp [rhi, es]]
        clear h2 h3 es ha hb
        go_enter Try.func59, Try.ntmps59
        go_wp2
        go_quiet ((go_at_call 71; first | exact Calls.quiet_of_same (inf1_ _) | exact Calls.quiet_of_same (infm_ _)))
        go_wp2
        go_region_held3 (fun w' => w'.cell? ⟨w.heap.size, 0, none⟩ = some (.float .f64 a) ∧ w'.cell? ⟨w.heap.size, 1, none⟩ = some (.float .f64 b)) (simp [go_sem, World.cell?_alloc_past]) (first | (go_at_call 73; (first | refine (hpa _).mono ?_ | refine (hpb _).mono ?_); rintro e w' ⟨rfl, rfl⟩))
        go_wp2
        exact bodyPost_ret (v := .agg #[.float .f64 (pla a), .float .f64 (pla b)]) (by simp [results, Try.results59, go_sem] <;> simp only [*]) rfl ⟨rfl, (by repeat (with_reducible (first | assumption | exact Grown.refl _ | apply Grown.drew | apply Grown.alloc | apply gdrewN | (refine Grown.setCell ?_ (by simp <;> omega) _) | (refine gtrans ?_ (by assumption)))))⟩
  · have h1' : (FloatKind.f64.format.order a b == some Ordering.lt || FloatKind.f64.format.order a b == some Ordering.eq) = false := by simpa using h1
    have es : snd a b = false := by simp only [snd, h1']; simp
    rw [show rlo a b = 9218868437227405312 from by simp [rlo, es], show rhi a b = 18442240474082181120 from by simp [rhi, es]]
    clear h1 es ha hb t2 t3
    go_enter Try.func59, Try.ntmps59
    go_wp2
    go_quiet ((go_at_call 71; first | exact Calls.quiet_of_same (inf1_ _) | exact Calls.quiet_of_same (infm_ _)))
    go_wp2_with (first | (go_at_call 72; refine (empty6_ _).mono ?_; rintro e w' ⟨rfl, rfl⟩))
    exact bodyPost_ret (v := .agg #[.float .f64 9218868437227405312, .float .f64 18442240474082181120]) (by simp [results, Try.results59, go_sem] <;> simp only [*]) rfl ⟨rfl, (by repeat (with_reducible (first | assumption | exact Grown.refl _ | apply Grown.drew | apply Grown.alloc | apply gdrewN | (refine Grown.setCell ?_ (by simp <;> omega) _) | (refine gtrans ?_ (by assumption)))))⟩
end Fq
end Go.Proofs.Ytipedmnipolmeaa
