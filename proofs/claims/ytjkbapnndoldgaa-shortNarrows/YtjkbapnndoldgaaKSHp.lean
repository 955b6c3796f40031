import Derived.Test.YtjkbapnndoldgaaKEC
import Derived.Test.YtjkbapnndoldgaaKSHz
namespace Go.Proofs.Ytjkbapnndoldgaa
open Go.RowKit

set_option linter.unusedVariables false
theorem pla_pwS (n : Bool) (m : Nat) (h : m ≤ 2139095040) : Sg.pla (Fq.wS n m) = Sg.pw (Fq.plz n m) := by
  unfold Sg.pla Sg.pw Fq.plz Fq.wS
  cases n
  · have : ¬ ((m : Int) < 0) := by omega
    simp [this]; omega
  · by_cases z : m = 0
    · simp [z]
    · simp [z]
set_option maxRecDepth 20000 in
set_option maxHeartbeats 1000000 in
theorem shNearA_ (x a b r y : Nat) (h1 : ∀ (ts : Array TypeId) (t : TypeId) (w : World), (Builtin.max_ ts t #[.float .f64 x, .float .f64 14407015207421345792]).run Try.prog w = .ok (.float .f64 a) w) (h2 : ∀ (ts : Array TypeId) (t : TypeId) (w : World), (Builtin.min_ ts t #[.float .f64 a, .float .f64 5183643170566569984]).run Try.prog w = .ok (.float .f64 b) w) (h3 : ∀ w : World, (convert 38 26 (.float .f64 b)).run Try.prog w = .ok (.float .f32 r) w) (h4 : ∀ w : World, Calls Try.prog 55 #[.float .f32 r] w fun e w' => e = .returned (.float .f32 y) ∧ w' = w) (w : World) : Calls Try.prog 64 #[.float .f64 x] w fun e w' => e = .returned (.float .f32 y) ∧ w' = w := by
  go_enter Try.func64, Try.ntmps64
  go_wp2_with (first | (go_at_call 55; refine (h4 _).mono ?_; rintro e w' ⟨rfl, hw'⟩; obtain rfl := hw'.symm; clear hw'))
  exact bodyPost_ret (v := .float .f32 y) (by simp [results, Try.results64, go_sem]) rfl ⟨rfl, rfl⟩
theorem shNear_ (z : Int) (h : BdZ z) (w : World) : Calls Try.prog 64 #[.float .f64 (pw z)] w fun e w' => e = .returned (.float .f32 (Sg.pw (nZ 0 (cz z)))) ∧ w' = w := by
  have bG : BdZ 5183643170566569984 := by unfold BdZ; omega
  have bM : BdZ (-5183643170566569984) := by unfold BdZ; omega
  have h1 := fun ts t w => max9_ z (-5183643170566569984) h bM ts t w
  have b1 : BdZ (max z (-5183643170566569984)) := bd_max _ _ h bM
  have h2 := fun ts t w => min9_ (max z (-5183643170566569984)) 5183643170566569984 b1 bG ts t w
  rw [show pw (-5183643170566569984) = 14407015207421345792 from by decide] at h1
  rw [show pw 5183643170566569984 = 5183643170566569984 from by decide] at h2
  have hc : cz z = min (max z (-5183643170566569984)) 5183643170566569984 := rfl
  rw [← hc] at h2
  have bc : (cz z).natAbs < 9218868437227405312 := by unfold cz; omega
  have nb := ne_bd z
  rw [nZ_nr] at nb
  have nl : nrR (cz z).natAbs < 2139095040 := by
    unfold Fq.plz at nb
    split at nb <;> omega
  have h3 := cnvN_ (decide (cz z < 0)) (cz z).natAbs bc nl
  have h4 := plain_s9_ (Fq.wS (decide (cz z < 0)) (nrR (cz z).natAbs)) (by unfold Fq.wS; split <;> omega)
  rw [pla_pwS _ _ (by omega), ← nZ_nr] at h4
  exact shNearA_ _ _ _ _ _ h1 h2 h3 h4 w
set_option maxRecDepth 20000 in
set_option maxHeartbeats 1000000 in
theorem shDownt_ (x y u v : Nat) (h1 : ∀ w : World, Calls Try.prog 64 #[.float .f64 x] w fun e w' => e = .returned (.float .f32 y) ∧ w' = w) (h2 : ∀ w : World, (convert 26 38 (.float .f32 y)).run Try.prog w = .ok (.float .f64 u) w) (t : (FloatKind.f64.format.order u x == some Ordering.gt) = true) (h3 : ∀ w : World, Calls Try.prog 65 #[.float .f32 y] w fun e w' => e = .returned (.float .f32 v) ∧ Kp w w') (w : World) : Calls Try.prog 40 #[.float .f64 x] w fun e w' => e = .returned (.float .f32 v) ∧ Kp w w' := by
  go_enter Try.func40, Try.ntmps40
  go_wp2_with (first | (go_at_call 64; refine (h1 _).mono ?_; rintro e w' ⟨rfl, hw'⟩; obtain rfl := hw'.symm; clear hw') | (go_at_call 65; refine (h3 _).mono ?_; rintro e w2 ⟨rfl, g2⟩))
  exact bodyPost_ret (v := .float .f32 v) (by simp [results, Try.results40, go_sem]) rfl ⟨rfl, g2⟩
set_option maxRecDepth 20000 in
set_option maxHeartbeats 1000000 in
theorem shDownf_ (x y u : Nat) (h1 : ∀ w : World, Calls Try.prog 64 #[.float .f64 x] w fun e w' => e = .returned (.float .f32 y) ∧ w' = w) (h2 : ∀ w : World, (convert 26 38 (.float .f32 y)).run Try.prog w = .ok (.float .f64 u) w) (t : (FloatKind.f64.format.order u x == some Ordering.gt) = false) (w : World) : Calls Try.prog 40 #[.float .f64 x] w fun e w' => e = .returned (.float .f32 y) ∧ Kp w w' := by
  go_enter Try.func40, Try.ntmps40
  go_wp2_with (first | (go_at_call 64; refine (h1 _).mono ?_; rintro e w' ⟨rfl, hw'⟩; obtain rfl := hw'.symm; clear hw'))
  exact bodyPost_ret (v := .float .f32 y) (by simp [results, Try.results40, go_sem]) rfl ⟨rfl, (Kp.refl _)⟩
theorem shDown_ (z : Int) (hz : BdZ z) (hI : z ≠ 9218868437227405312) (w : World) : Calls Try.prog 40 #[.float .f64 (pw z)] w fun e w' => e = .returned (.float .f32 (Sg.pw (dnZ z))) ∧ Kp w w' := by
  have h1 := shNear_ z hz
  have nb := ne_bd z
  have hb : Sg.BdZ (nZ 0 (cz z)) := by unfold Sg.BdZ; omega
  have h2 := cnvP_ (nZ 0 (cz z)) hb
  have t := pgt9 (wz (nZ 0 (cz z))) z (wz_bd _ hb) hz
  rw [near_lo z hz hI]
  by_cases c : z < wz (nZ 0 (cz z))
  · rw [if_pos c]
    rw [decide_eq_true c] at t
    have g := fun w => Fq.dn_s (decide (nZ 0 (cz z) < 0)) (nZ 0 (cz z)).natAbs (Sg.abs_pw _ hb) (by rw [Sg.plz_pw]; omega) w
    rw [Sg.plz_pw] at g
    exact shDownt_ _ _ _ _ h1 h2 t g w
  · rw [if_neg c]
    rw [decide_eq_false c] at t
    exact shDownf_ _ _ _ h1 h2 t w
set_option maxRecDepth 20000 in
set_option maxHeartbeats 1000000 in
theorem shUpt_ (x y u v : Nat) (h1 : ∀ w : World, Calls Try.prog 64 #[.float .f64 x] w fun e w' => e = .returned (.float .f32 y) ∧ w' = w) (h2 : ∀ w : World, (convert 26 38 (.float .f32 y)).run Try.prog w = .ok (.float .f64 u) w) (t : (FloatKind.f64.format.order u x == some Ordering.lt) = true) (h3 : ∀ w : World, Calls Try.prog 66 #[.float .f32 y] w fun e w' => e = .returned (.float .f32 v) ∧ Kp w w') (w : World) : Calls Try.prog 41 #[.float .f64 x] w fun e w' => e = .returned (.float .f32 v) ∧ Kp w w' := by
  go_enter Try.func41, Try.ntmps41
  go_wp2_with (first | (go_at_call 64; refine (h1 _).mono ?_; rintro e w' ⟨rfl, hw'⟩; obtain rfl := hw'.symm; clear hw') | (go_at_call 66; refine (h3 _).mono ?_; rintro e w2 ⟨rfl, g2⟩))
  exact bodyPost_ret (v := .float .f32 v) (by simp [results, Try.results41, go_sem]) rfl ⟨rfl, g2⟩
set_option maxRecDepth 20000 in
set_option maxHeartbeats 1000000 in
theorem shUpf_ (x y u : Nat) (h1 : ∀ w : World, Calls Try.prog 64 #[.float .f64 x] w fun e w' => e = .returned (.float .f32 y) ∧ w' = w) (h2 : ∀ w : World, (convert 26 38 (.float .f32 y)).run Try.prog w = .ok (.float .f64 u) w) (t : (FloatKind.f64.format.order u x == some Ordering.lt) = false) (w : World) : Calls Try.prog 41 #[.float .f64 x] w fun e w' => e = .returned (.float .f32 y) ∧ Kp w w' := by
  go_enter Try.func41, Try.ntmps41
  go_wp2_with (first | (go_at_call 64; refine (h1 _).mono ?_; rintro e w' ⟨rfl, hw'⟩; obtain rfl := hw'.symm; clear hw'))
  exact bodyPost_ret (v := .float .f32 y) (by simp [results, Try.results41, go_sem]) rfl ⟨rfl, (Kp.refl _)⟩
theorem shUp_ (z : Int) (hz : BdZ z) (hI : z ≠ -9218868437227405312) (w : World) : Calls Try.prog 41 #[.float .f64 (pw z)] w fun e w' => e = .returned (.float .f32 (Sg.pw (upZ z))) ∧ Kp w w' := by
  have h1 := shNear_ z hz
  have nb := ne_bd z
  have hb : Sg.BdZ (nZ 0 (cz z)) := by unfold Sg.BdZ; omega
  have h2 := cnvP_ (nZ 0 (cz z)) hb
  have t := plt9 (wz (nZ 0 (cz z))) z (wz_bd _ hb) hz
  rw [near_hi z hz hI]
  by_cases c : wz (nZ 0 (cz z)) < z
  · rw [if_pos c]
    rw [decide_eq_true c] at t
    have g := fun w => Fq.up_s (decide (nZ 0 (cz z) < 0)) (nZ 0 (cz z)).natAbs (Sg.abs_pw _ hb) (by rw [Sg.plz_pw]; omega) w
    rw [Sg.plz_pw] at g
    exact shUpt_ _ _ _ _ h1 h2 t g w
  · rw [if_neg c]
    rw [decide_eq_false c] at t
    exact shUpf_ _ _ _ h1 h2 t w
set_option maxRecDepth 20000 in
set_option maxHeartbeats 1000000 in
theorem shNarrowE_ (a b c d : Nat) (h : ∀ w : World, Calls Try.prog 37 #[.agg #[.float .f64 a, .float .f64 b]] w fun e w' => e = .returned (.agg #[.float .f64 c, .float .f64 d]) ∧ Kp w w') (hem : ∀ w : World, Calls Try.prog 38 #[] w fun e w' => e = .returned (.agg #[.float .f64 9218868437227405312, .float .f64 18442240474082181120]) ∧ Kp w w') (hes : ∀ w : World, Calls Try.prog 39 #[] w fun e w' => e = .returned (.agg #[.float .f32 2139095040, .float .f32 4286578688]) ∧ Kp w w') (t1 : (FloatKind.f64.format.order c 9218868437227405312 == some Ordering.eq) = true) (t2 : (FloatKind.f64.format.order d 18442240474082181120 == some Ordering.eq) = true) (w : World) : Calls Try.prog 13 #[.agg #[.float .f64 a, .float .f64 b]] w fun e w' => e = .returned (.agg #[.float .f32 2139095040, .float .f32 4286578688]) ∧ Kp w w' := by
  have e0 := Fq.eqIn6 c 9218868437227405312
  have e1 := Fq.eqIn6 d 18442240474082181120
  rw [t1] at e0
  rw [t2] at e1
  clear t1 t2
  have k0 := ((Kp.refl w).alloc (.cells #[.float .f64 a, .float .f64 b] 40)).alloc (.cells #[.float .f32 0, .float .f32 0] 28)
  have s0 := H48.new w (.float .f64 a) (.float .f64 b) (.float .f32 0) (.float .f32 0) 40 28
  go_enter Try.func13, Try.ntmps13
  go_upto_region 2 with (first | (go_at_call 37; refine (h _).mono ?_; rintro e w1 ⟨rfl, g1⟩; have k1 := Kp.trans k0 g1; have s1 := H48.keep s0 g1; clear g1; obtain ⟨⟨x0, x1, x2, x3⟩, y0, y1, y2, y3⟩ := id s1))
  have sw : H48 ((w1.setCell ⟨w.heap.size, 0, none⟩ (.float .f64 c)).setCell ⟨w.heap.size, 1, none⟩ (.float .f64 d)) w.heap.size (.float .f64 c) (.float .f64 d) (.float .f32 0) (.float .f32 0) := ⟨Fq.H2.put s1.1 _ _, Fq.H2.far s1.2 (by omega) _ _⟩
  have kw : Kp w ((w1.setCell ⟨w.heap.size, 0, none⟩ (.float .f64 c)).setCell ⟨w.heap.size, 1, none⟩ (.float .f64 d)) := (k1.setCell (Nat.le_refl _) _).setCell (Nat.le_refl _) _
  clear x0 x1 x2 x3 y0 y1 y2 y3 s1 k1 k0 s0
  generalize (w1.setCell ⟨w.heap.size, 0, none⟩ (.float .f64 c)).setCell ⟨w.heap.size, 1, none⟩ (.float .f64 d) = W at sw kw ⊢
  obtain ⟨⟨x0, x1, x2, x3⟩, y0, y1, y2, y3⟩ := id sw
  refine Fq.wp_region_grow (by kernel_rfl) (by kernel_rfl) (fun ι _ G hG hall => ?_)
  have cc0 : ∀ n, (G n).cell? ⟨w.heap.size, 0, none⟩ = some (.float .f64 c) := fun n => Fq.gkeep (hG n) x0
  have cc1 : ∀ n, (G n).cell? ⟨w.heap.size, 1, none⟩ = some (.float .f64 d) := fun n => Fq.gkeep (hG n) x1
  repeat (go_big_quiet_step (first | (go_at_call 38; exact (hem _).mono (fun e w' h => ⟨h.1, hall _ (Fq.gtrans (hG _) h.2)⟩))))
  refine wpQuiet_nil ?_
  rintro _ ⟨nq, rfl⟩
  have gq : Kp _ (G nq) := hG nq
  clear cc0 cc1 hall hG
  have kq := Kp.trans kw gq
  have sq := H48.keep sw gq
  clear x0 x1 x2 x3 y0 y1 y2 y3
  generalize G nq = W2 at kq sq ⊢
  go_wp2_with (first | (go_at_call 39; refine (hes _).mono ?_; rintro e w4 ⟨rfl, g4⟩; have k4 := Kp.trans kq g4; obtain ⟨⟨x0, x1, x2, x3⟩, y0, y1, y2, y3⟩ := H48.keep sq g4))
  exact bodyPost_ret (v := .agg #[.float .f32 2139095040, .float .f32 4286578688]) (by simp [results, Try.results13, go_sem, y0, y1]) rfl ⟨rfl, (k4.setCell (by simp <;> omega) _).setCell (by simp <;> omega) _⟩
set_option maxRecDepth 20000 in
set_option maxHeartbeats 1000000 in
theorem shNarrowN1_ (a b c d p q : Nat) (h : ∀ w : World, Calls Try.prog 37 #[.agg #[.float .f64 a, .float .f64 b]] w fun e w' => e = .returned (.agg #[.float .f64 c, .float .f64 d]) ∧ Kp w w') (hem : ∀ w : World, Calls Try.prog 38 #[] w fun e w' => e = .returned (.agg #[.float .f64 9218868437227405312, .float .f64 18442240474082181120]) ∧ Kp w w') (hdn : ∀ w : World, Calls Try.prog 40 #[.float .f64 c] w fun e w' => e = .returned (.float .f32 p) ∧ Kp w w') (hup : ∀ w : World, Calls Try.prog 41 #[.float .f64 d] w fun e w' => e = .returned (.float .f32 q) ∧ Kp w w') (t1 : (FloatKind.f64.format.order c 9218868437227405312 == some Ordering.eq) = false) (t2 : (FloatKind.f64.format.order d 18442240474082181120 == some Ordering.eq) = false) (w : World) : Calls Try.prog 13 #[.agg #[.float .f64 a, .float .f64 b]] w fun e w' => e = .returned (.agg #[.float .f32 p, .float .f32 q]) ∧ Kp w w' := by
  have e0 := Fq.eqIn6 c 9218868437227405312
  have e1 := Fq.eqIn6 d 18442240474082181120
  rw [t1] at e0
  rw [t2] at e1
  clear t1 t2
  have k0 := ((Kp.refl w).alloc (.cells #[.float .f64 a, .float .f64 b] 40)).alloc (.cells #[.float .f32 0, .float .f32 0] 28)
  have s0 := H48.new w (.float .f64 a) (.float .f64 b) (.float .f32 0) (.float .f32 0) 40 28
  go_enter Try.func13, Try.ntmps13
  go_upto_region 2 with (first | (go_at_call 37; refine (h _).mono ?_; rintro e w1 ⟨rfl, g1⟩; have k1 := Kp.trans k0 g1; have s1 := H48.keep s0 g1; clear g1; obtain ⟨⟨x0, x1, x2, x3⟩, y0, y1, y2, y3⟩ := id s1))
  have sw : H48 ((w1.setCell ⟨w.heap.size, 0, none⟩ (.float .f64 c)).setCell ⟨w.heap.size, 1, none⟩ (.float .f64 d)) w.heap.size (.float .f64 c) (.float .f64 d) (.float .f32 0) (.float .f32 0) := ⟨Fq.H2.put s1.1 _ _, Fq.H2.far s1.2 (by omega) _ _⟩
  have kw : Kp w ((w1.setCell ⟨w.heap.size, 0, none⟩ (.float .f64 c)).setCell ⟨w.heap.size, 1, none⟩ (.float .f64 d)) := (k1.setCell (Nat.le_refl _) _).setCell (Nat.le_refl _) _
  clear x0 x1 x2 x3 y0 y1 y2 y3 s1 k1 k0 s0
  generalize (w1.setCell ⟨w.heap.size, 0, none⟩ (.float .f64 c)).setCell ⟨w.heap.size, 1, none⟩ (.float .f64 d) = W at sw kw ⊢
  obtain ⟨⟨x0, x1, x2, x3⟩, y0, y1, y2, y3⟩ := id sw
  refine Fq.wp_region_grow (by kernel_rfl) (by kernel_rfl) (fun ι _ G hG hall => ?_)
  have cc0 : ∀ n, (G n).cell? ⟨w.heap.size, 0, none⟩ = some (.float .f64 c) := fun n => Fq.gkeep (hG n) x0
  have cc1 : ∀ n, (G n).cell? ⟨w.heap.size, 1, none⟩ = some (.float .f64 d) := fun n => Fq.gkeep (hG n) x1
  repeat (go_big_quiet_step (first | (go_at_call 38; exact (hem _).mono (fun e w' h => ⟨h.1, hall _ (Fq.gtrans (hG _) h.2)⟩))))
  refine wpQuiet_nil ?_
  rintro _ ⟨nq, rfl⟩
  have gq : Kp _ (G nq) := hG nq
  clear cc0 cc1 hall hG
  have kq := Kp.trans kw gq
  have sq := H48.keep sw gq
  clear x0 x1 x2 x3 y0 y1 y2 y3
  generalize G nq = W2 at kq sq ⊢
  obtain ⟨⟨x0, x1, x2, x3⟩, y0, y1, y2, y3⟩ := id sq
  go_upto_region 4 with fail
  have d0 : W2.drew.cell? ⟨w.heap.size, 0, none⟩ = some (.float .f64 c) := by simpa [go_sem] using x0
  have d1 : W2.drew.cell? ⟨w.heap.size, 1, none⟩ = some (.float .f64 d) := by simpa [go_sem] using x1
  go_region_held3 (fun w' => w'.cell? ⟨w.heap.size, 0, none⟩ = some (.float .f64 c) ∧ w'.cell? ⟨w.heap.size, 1, none⟩ = some (.float .f64 d)) (first | with_reducible exact ⟨x0, x1⟩ | with_reducible exact ⟨d0, d1⟩ | with_reducible exact ⟨z0, z1⟩ | with_reducible exact ⟨v0, v1⟩ | (simp [go_sem, v0, v1])) (first | (go_at_call 40; refine (hdn _).mono ?_; rintro e w5 ⟨rfl, g5⟩; have k5 := Kp.trans kq.drew g5; have s5 := H48.keep (H48.keep sq (Kp.refl _).drew) g5; obtain ⟨⟨z0, z1, z2, z3⟩, zz0, zz1, zz2, zz3⟩ := id s5) | (go_at_call 41; refine (hup _).mono ?_; rintro e w6 ⟨rfl, g6⟩; have k6 := Kp.trans k5 g6; have s6 := H48.keep s5 g6; obtain ⟨⟨v0, v1, v2, v3⟩, vv0, vv1, vv2, vv3⟩ := id s6))
  go_wp2
  exact bodyPost_ret (v := .agg #[.float .f32 p, .float .f32 q]) (by simp [results, Try.results13, go_sem, vv0, vv1]) rfl ⟨rfl, (k6.setCell (by simp <;> omega) _).setCell (by simp <;> omega) _⟩
theorem shNarrow_ (a b : Nat) (L H : Int) (r : Rd a b L H) (w : World) : Calls Try.prog 13 #[.agg #[.float .f64 a, .float .f64 b]] w fun e w' => e = .returned (.agg #[.float .f32 (Sg.pw (if L = 9218868437227405312 then 2139095040 else dnZ L)), .float .f32 (Sg.pw (if L = 9218868437227405312 then -2139095040 else upZ H))]) ∧ Kp w w' := by
  have h := Rd.call r
  have hv := r.vd
  have hem : ∀ w : World, Calls Try.prog 38 #[] w fun e w' => e = .returned (.agg #[.float .f64 9218868437227405312, .float .f64 18442240474082181120]) ∧ Kp w w' := fun w => (Fq.empty6_ w).mono (by rintro e w' ⟨rfl, rfl⟩; exact ⟨rfl, (Kp.refl w).alloc _⟩)
  have t1 := peq9 L 9218868437227405312 hv.lo (by unfold BdZ; omega)
  have t2 := peq9 H (-9218868437227405312) hv.hi (by unfold BdZ; omega)
  rw [pw_I] at t1
  rw [pw_MI] at t2
  by_cases c : L = 9218868437227405312
  · have cH : H = -9218868437227405312 := by unfold VdZ at hv; omega
    rw [decide_eq_true c] at t1
    rw [decide_eq_true cH] at t2
    rw [if_pos c, if_pos c, Sg.pw_I, Sg.pw_MI]
    exact shNarrowE_ a b _ _ h hem empty_s_ t1 t2 w
  · have cH : H ≠ -9218868437227405312 := by unfold VdZ at hv; omega
    rw [decide_eq_false c] at t1
    rw [decide_eq_false cH] at t2
    rw [if_neg c, if_neg c]
    exact shNarrowN1_ a b _ _ _ _ h hem (shDown_ L hv.lo c) (shUp_ H hv.hi cH) t1 t2 w
end Go.Proofs.Ytjkbapnndoldgaa
