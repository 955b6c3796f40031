import Derived.Test.YtjkbapnndoldgaaKSHz
namespace Go.Proofs.Ytjkbapnndoldgaa
open Go.RowKit

set_option linter.unusedVariables false
theorem rnarZ_ (d : Int) (z : Int) (hz : BdZ z) (w : World) : Calls Try.prog 45 #[.int .i64 d, .int .u64 (pI z)] w fun e w' => e = .returned (.int .u32 ((Sg.pw (if z = 9218868437227405312 then 2139095040 else if z = -9218868437227405312 then -2139095040 else nZ d z) : Nat) : Int)) ∧ Kp w w' := by
  by_cases c1 : z = 9218868437227405312
  · rw [if_pos c1, c1]
    exact rnar_inf_false d w
  · by_cases c2 : z = -9218868437227405312
    · rw [if_neg c1, if_pos c2, c2]
      exact rnar_inf_true d w
    · rw [if_neg c1, if_neg c2]
      unfold BdZ at hz
      have hm : z.natAbs < 9218868437227405312 := by omega
      have h := rnar_fin d (decide (z < 0)) z.natAbs w hm _ rfl
      have e := nar_g k9 k9_eq d (decide (z < 0)) z.natAbs hm _ rfl
      rw [e] at h
      exact h
set_option maxRecDepth 20000 in
set_option maxHeartbeats 400000 in
theorem rempty14_ (w : World) : Calls Try.prog 44 #[] w fun e w' => e = .returned (.agg #[.int .u32 2139095040, .int .u32 4286578688]) ∧ Kp w w' := by
  go_enter Try.func44, Try.ntmps44
  go_wp2
  exact bodyPost_ret (v := .agg #[.int .u32 2139095040, .int .u32 4286578688]) (by simp [results, Try.results44, go_sem]) rfl ⟨rfl, (by repeat (with_reducible (first | assumption | exact Kp.refl _ | apply Kp.drew | apply Kp.alloc | apply Kp.drewN | (refine Kp.setCell ?_ (by first | omega | (simp <;> omega)) _) | (refine Kp.trans ?_ (by assumption)))))⟩
set_option maxRecDepth 20000 in
set_option maxHeartbeats 1000000 in
theorem rnarrowE_ (a b : Int) (h : ∀ w : World, Calls Try.prog 34 #[.agg #[.int .u64 a, .int .u64 b]] w fun e w' => e = .returned (.agg #[.int .u64 9218868437227405312, .int .u64 18442240474082181120]) ∧ Kp w w') (hem : ∀ w : World, Calls Try.prog 43 #[] w fun e w' => e = .returned (.agg #[.int .u64 9218868437227405312, .int .u64 18442240474082181120]) ∧ Kp w w') (hes : ∀ w : World, Calls Try.prog 44 #[] w fun e w' => e = .returned (.agg #[.int .u32 2139095040, .int .u32 4286578688]) ∧ Kp w w') (w : World) : Calls Try.prog 15 #[.agg #[.int .u64 a, .int .u64 b]] w fun e w' => e = .returned (.agg #[.int .u32 2139095040, .int .u32 4286578688]) ∧ Kp w w' := by
  have k0 := ((Kp.refl w).alloc (.cells #[.int .u64 a, .int .u64 b] 36)).alloc (.cells #[.int .u32 0, .int .u32 0] 24)
  have s0 := H48.new w (.int .u64 a) (.int .u64 b) (.int .u32 0) (.int .u32 0) 36 24
  go_enter Try.func15, Try.ntmps15
  go_upto_region 2 with (first | (go_at_call 34; refine (h _).mono ?_; rintro e w1 ⟨rfl, g1⟩; have k1 := Kp.trans k0 g1; have s1 := H48.keep s0 g1; clear g1))
  have sw := H48.keep s1 ((Kp.refl w1).alloc (.cells #[.int .u64 9218868437227405312, .int .u64 18442240474082181120] 36))
  have zw := Fq.H2.new w1 (.int .u64 9218868437227405312) (.int .u64 18442240474082181120) 36
  have kw := k1.alloc (.cells #[.int .u64 9218868437227405312, .int .u64 18442240474082181120] 36)
  have hbb := Fq.H2.lt s1.2
  clear s1 k1 k0 s0
  generalize hW : w1.alloc (.cells #[.int .u64 9218868437227405312, .int .u64 18442240474082181120] 36) = W at sw zw kw ⊢
  obtain ⟨z0, z1, z2, z3⟩ := id zw
  refine Fq.wp_region_grow (by kernel_rfl) (by kernel_rfl) (fun ι _ G hG hall => ?_)
  have cc0 : ∀ n, (G n).cell? ⟨w1.heap.size, 0, none⟩ = some (.int .u64 9218868437227405312) := fun n => Fq.gkeep (hG n) z0
  have cc1 : ∀ n, (G n).cell? ⟨w1.heap.size, 1, none⟩ = some (.int .u64 18442240474082181120) := fun n => Fq.gkeep (hG n) z1
  repeat (go_big_quiet_step (first | (go_at_call 43; exact (hem _).mono (fun e w' h => ⟨h.1, hall _ (Fq.gtrans (hG _) h.2)⟩))))
  refine wpQuiet_nil ?_
  rintro _ ⟨nq, rfl⟩
  have gq : Kp _ (G nq) := hG nq
  clear cc0 cc1 hall hG
  have kq := Kp.trans kw gq
  have sq := H48.keep sw gq
  have zq := Fq.H2.keep zw gq
  clear z0 z1 z2 z3 hW
  generalize G nq = W2 at kq sq zq ⊢
  generalize w1.heap.size = bb at zq hbb ⊢
  go_wp2_with (first | (go_at_call 44; refine (hes _).mono ?_; rintro e w4 ⟨rfl, g4⟩; have k4 := Kp.trans kq g4; obtain ⟨⟨x0, x1, x2, x3⟩, y0, y1, y2, y3⟩ := H48.keep sq g4))
  exact bodyPost_ret (v := .agg #[.int .u32 2139095040, .int .u32 4286578688]) (by simp [results, Try.results15, go_sem, y0, y1]) rfl ⟨rfl, (k4.setCell (by simp <;> omega) _).setCell (by simp <;> omega) _⟩
set_option maxRecDepth 20000 in
set_option maxHeartbeats 1000000 in
theorem rnarrowN_ (a b c d p q : Int) (h : ∀ w : World, Calls Try.prog 34 #[.agg #[.int .u64 a, .int .u64 b]] w fun e w' => e = .returned (.agg #[.int .u64 c, .int .u64 d]) ∧ Kp w w') (hem : ∀ w : World, Calls Try.prog 43 #[] w fun e w' => e = .returned (.agg #[.int .u64 9218868437227405312, .int .u64 18442240474082181120]) ∧ Kp w w') (hdn : ∀ w : World, Calls Try.prog 45 #[.int .i64 (-1), .int .u64 c] w fun e w' => e = .returned (.int .u32 p) ∧ Kp w w') (hup : ∀ w : World, Calls Try.prog 45 #[.int .i64 1, .int .u64 d] w fun e w' => e = .returned (.int .u32 q) ∧ Kp w w') (e1 : (c == 9218868437227405312) = false) (e2 : ¬ c = 9218868437227405312) (w : World) : Calls Try.prog 15 #[.agg #[.int .u64 a, .int .u64 b]] w fun e w' => e = .returned (.agg #[.int .u32 p, .int .u32 q]) ∧ Kp w w' := by
  have k0 := ((Kp.refl w).alloc (.cells #[.int .u64 a, .int .u64 b] 36)).alloc (.cells #[.int .u32 0, .int .u32 0] 24)
  have s0 := H48.new w (.int .u64 a) (.int .u64 b) (.int .u32 0) (.int .u32 0) 36 24
  go_enter Try.func15, Try.ntmps15
  go_upto_region 2 with (first | (go_at_call 34; refine (h _).mono ?_; rintro e w1 ⟨rfl, g1⟩; have k1 := Kp.trans k0 g1; have s1 := H48.keep s0 g1; clear g1))
  have sw := H48.keep s1 ((Kp.refl w1).alloc (.cells #[.int .u64 c, .int .u64 d] 36))
  have zw := Fq.H2.new w1 (.int .u64 c) (.int .u64 d) 36
  have kw := k1.alloc (.cells #[.int .u64 c, .int .u64 d] 36)
  have hbb := Fq.H2.lt s1.2
  clear s1 k1 k0 s0
  generalize hW : w1.alloc (.cells #[.int .u64 c, .int .u64 d] 36) = W at sw zw kw ⊢
  obtain ⟨z0, z1, z2, z3⟩ := id zw
  refine Fq.wp_region_grow (by kernel_rfl) (by kernel_rfl) (fun ι _ G hG hall => ?_)
  have cc0 : ∀ n, (G n).cell? ⟨w1.heap.size, 0, none⟩ = some (.int .u64 c) := fun n => Fq.gkeep (hG n) z0
  have cc1 : ∀ n, (G n).cell? ⟨w1.heap.size, 1, none⟩ = some (.int .u64 d) := fun n => Fq.gkeep (hG n) z1
  repeat (go_big_quiet_step (first | (go_at_call 43; exact (hem _).mono (fun e w' h => ⟨h.1, hall _ (Fq.gtrans (hG _) h.2)⟩))))
  refine wpQuiet_nil ?_
  rintro _ ⟨nq, rfl⟩
  have gq : Kp _ (G nq) := hG nq
  clear cc0 cc1 hall hG
  have kq := Kp.trans kw gq
  have sq := H48.keep sw gq
  have zq := Fq.H2.keep zw gq
  clear z0 z1 z2 z3 hW
  generalize G nq = W2 at kq sq zq ⊢
  generalize w1.heap.size = bb at zq hbb ⊢
  go_upto_region 4 with fail
  obtain ⟨z0, z1, z2, z3⟩ := id zq
  have d0 : W2.drew.cell? ⟨bb, 0, none⟩ = some (.int .u64 c) := by simpa [go_sem] using z0
  have d1 : W2.drew.cell? ⟨bb, 1, none⟩ = some (.int .u64 d) := by simpa [go_sem] using z1
  go_region_held3 (fun w' => w'.cell? ⟨bb, 0, none⟩ = some (.int .u64 c) ∧ w'.cell? ⟨bb, 1, none⟩ = some (.int .u64 d)) (first | with_reducible exact ⟨z0, z1⟩ | with_reducible exact ⟨d0, d1⟩ | with_reducible exact ⟨v0, v1⟩ | with_reducible exact ⟨p0, p1⟩ | with_reducible exact ⟨r0, r1⟩) (first | (go_at_call_of 45 (Value.int .u64 c); refine (hdn _).mono ?_; rintro e w5 ⟨rfl, g5⟩; have k5 := Kp.trans kq.drew g5; have s5 := H48.keep (H48.keep sq (Kp.refl _).drew) g5; have q5 := Fq.H2.keep (Fq.H2.drew zq) g5; obtain ⟨v0, v1, v2, v3⟩ := id q5) | (go_at_call_of 45 (Value.int .u64 d); refine (hup _).mono ?_; rintro e w6 ⟨rfl, g6⟩; have k6 := Kp.trans k5 g6; have s6 := H48.keep s5 g6; have q6 := Fq.H2.keep q5 g6; obtain ⟨p0, p1, p2, p3⟩ := id q6; obtain ⟨r0, r1, r2, r3⟩ := Fq.H2.far (c := w.heap.size + 1) q6 (by omega) (.int .u32 p) (.int .u32 q); obtain ⟨_, vv0, vv1, vv2, vv3⟩ := id s6))
  go_wp2
  exact bodyPost_ret (v := .agg #[.int .u32 p, .int .u32 q]) (by simp [results, Try.results15, go_sem, vv0, vv1]) rfl ⟨rfl, (k6.setCell (by simp <;> omega) _).setCell (by simp <;> omega) _⟩
theorem rnarrow14_ (a b : Nat) (L H : Int) (r : Rd a b L H) (w : World) : Calls Try.prog 15 #[.agg #[.int .u64 ((a : Nat) : Int), .int .u64 ((b : Nat) : Int)]] w fun e w' => e = .returned (.agg #[.int .u32 ((Sg.pw (if L = 9218868437227405312 then 2139095040 else dnZ L) : Nat) : Int), .int .u32 ((Sg.pw (if L = 9218868437227405312 then -2139095040 else upZ H) : Nat) : Int)]) ∧ Kp w w' := by
  have h := rread9_ a b L H r
  have hv := r.vd
  by_cases c : L = 9218868437227405312
  · have cH : H = -9218868437227405312 := by unfold VdZ at hv; omega
    rw [c, cH, show pI 9218868437227405312 = 9218868437227405312 from by decide, show pI (-9218868437227405312) = 18442240474082181120 from by decide] at h
    rw [if_pos c, if_pos c, Sg.pw_I, Sg.pw_MI]
    exact rnarrowE_ _ _ h rempty9_ rempty14_ w
  · have cH : H ≠ -9218868437227405312 := by unfold VdZ at hv; omega
    rw [if_neg c, if_neg c]
    have h1 := rnarZ_ (-1) L hv.lo
    have h2 := rnarZ_ 1 H hv.hi
    rw [if_neg c] at h1
    have e1 : (if L = -9218868437227405312 then -2139095040 else nZ (-1) L) = dnZ L := rfl
    rw [e1] at h1
    have e2 : (if H = 9218868437227405312 then 2139095040 else if H = -9218868437227405312 then -2139095040 else nZ 1 H) = upZ H := by unfold upZ; rw [if_neg cH]
    rw [e2] at h2
    have ne : pI L ≠ 9218868437227405312 := by
      intro hh
      have := (pw_inj L 9218868437227405312 hv.lo (by unfold BdZ; omega)).1 (by rw [pw_I]; unfold pI at hh; omega)
      exact c this
    exact rnarrowN_ _ _ _ _ _ _ h rempty9_ h1 h2 (by simp [ne]) ne w
end Go.Proofs.Ytjkbapnndoldgaa
