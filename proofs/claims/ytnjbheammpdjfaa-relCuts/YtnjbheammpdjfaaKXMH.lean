import Derived.Test.YtnjbheammpdjfaaProg
import Derived.Test.YtnjbheammpdjfaaKXA0
import Derived.Test.YtnjbheammpdjfaaKXM
import Derived.Test.YtnjbheammpdjfaaKXY
import Derived.Test.YtnjbheammpdjfaaKXQF
import Derived.Test.YtnjbheammpdjfaaKQA
import Derived.Test.YtnjbheammpdjfaaKQP
import Derived.Test.YtnjbheammpdjfaaKXQU
import Derived.Test.YtnjbheammpdjfaaKXEA
import Derived.Test.YtnjbheammpdjfaaKXEE
import Derived.Test.YtnjbheammpdjfaaKMR7Q
import Derived.Test.YtnjbheammpdjfaaKXMR
import Derived.Test.YtnjbheammpdjfaaKXM3
import Derived.Test.YtnjbheammpdjfaaKXO
import Derived.Test.YtnjbheammpdjfaaKXO3
import Derived.Test.YtnjbheammpdjfaaKXT
import Derived.Test.YtnjbheammpdjfaaKXLB
import Derived.Test.YtnjbheammpdjfaaKRX
import Derived.Test.YtnjbheammpdjfaaKXRL
import Derived.Test.YtnjbheammpdjfaaKXCO
import Derived.Test.YtnjbheammpdjfaaKLN
import Derived.Test.YtnjbheammpdjfaaKXRN
import Derived.Test.YtnjbheammpdjfaaKW4
import Derived.Test.YtnjbheammpdjfaaKBY
import Derived.Test.YtnjbheammpdjfaaKBW
import Derived.Test.YtnjbheammpdjfaaKXTZ
import Derived.Test.YtnjbheammpdjfaaKXG1
import Derived.Test.YtnjbheammpdjfaaKNSm
import Derived.Test.YtnjbheammpdjfaaKXH2Q
import Derived.Test.YtnjbheammpdjfaaKXG4
import Derived.Test.YtnjbheammpdjfaaKXS6
import Derived.Test.YtnjbheammpdjfaaKEKF
import Derived.Test.YtnjbheammpdjfaaKXME
import Derived.Test.YtnjbheammpdjfaaKXET
import Derived.WalkKit
import Derived.ProofKit
import Derived.RowKit3
import Derived.WalkSpells
import Derived.StillTactics
import Derived.Deep.QuietTactic
import Derived.BigQuiet
import Derived.Below
import Derived.Deep.OwnRows
import Derived.OwnWalk
import Derived.Laws.BitsAllLaws
import Derived.Laws.Slices
import Derived.Laws.Bits64b
import Derived.Laws.FloatArith
import Derived.Deep.RegionHeld3
namespace Go.Proofs.Ytnjbheammpdjfaa
open Go.RowKit
set_option maxRecDepth 20000 in
set_option maxHeartbeats 400000 in
theorem isInfA_ (X R : Nat) (V : Bool) (h1 : ∀ w : World, Calls Try.prog 62 #[.float .f64 X] w fun e w' => e = .returned (.float .f64 R) ∧ w' = w) (t : (FloatKind.f64.format.order R 9218868437227405311 == some Ordering.gt) = V) (w : World) : Calls Try.prog 41 #[.float .f64 X, .int .i64 0] w fun e w' => e = .returned (.bool V) ∧ w' = w := by
  go_enter Try.func41, Try.ntmps41
  go_wp2_with (first | (go_at_call 62; refine (h1 _).mono ?_; rintro e w' ⟨rfl, hw'⟩; obtain rfl := hw'.symm; clear hw'))
  exact bodyPost_ret (v := .bool V) (by simp [results, Try.results41, go_sem] <;> simpa using t) rfl ⟨rfl, rfl⟩
theorem isInf8_ (n : Bool) (m : Nat) (hm : m ≤ 9218868437227405312) (w : World) : Calls Try.prog 41 #[.float .f64 (Fq.wD n m), .int .i64 0] w fun e w' => e = .returned (.bool (decide (m = 9218868437227405312))) ∧ w' = w := by
  have t := fgt8 false false m 9218868437227405311 (by omega) (by decide)
  rw [show Fq.wD false m = m from rfl, show Fq.wD false 9218868437227405311 = 9218868437227405311 from rfl, show decide (m ≤ 9218868437227405312 ∧ 9218868437227405311 ≤ 9218868437227405312 ∧ Fq.plz false 9218868437227405311 < Fq.plz false m) = decide (m = 9218868437227405312) from by congr 1; apply propext; unfold Fq.plz; simp; omega] at t
  exact isInfA_ _ m _ (abs_ n m (by omega)) t w
set_option maxRecDepth 20000 in
set_option maxHeartbeats 400000 in
theorem halfQ_ (X Y S H R : Nat) (h1 : ∀ w : World, (binOp .add 22 (.float .f64 X) (.float .f64 Y)).run Try.prog w = .ok (.float .f64 S) w) (h2 : ∀ w : World, Calls Try.prog 41 #[.float .f64 S, .int .i64 0] w fun e w' => e = .returned (.bool false) ∧ w' = w) (h3 : ∀ w : World, (binOp .quo 22 (.float .f64 S) (.float .f64 4611686018427387904)).run Try.prog w = .ok (.float .f64 H) w) (h4 : ∀ w : World, Calls Try.prog 99 #[.float .f64 H] w fun e w' => e = .returned (.float .f64 R) ∧ w' = w) (w : World) : Calls Try.prog 88 #[.float .f64 X, .float .f64 Y] w fun e w' => e = .returned (.float .f64 R) ∧ Kp w w' := by
  go_enter Try.func88, Try.ntmps88
  go_wp2_with (first | (go_at_call 41; refine (h2 _).mono ?_; rintro e w' ⟨rfl, hw'⟩; obtain rfl := hw'.symm; clear hw') | (go_at_call 99; refine (h4 _).mono ?_; rintro e w' ⟨rfl, hw'⟩; obtain rfl := hw'.symm; clear hw'))
  exact bodyPost_ret (v := .float .f64 R) (by simp [results, Try.results88, go_sem]) rfl ⟨rfl, (by repeat (with_reducible (first | assumption | exact Kp.refl _ | apply Kp.drew | apply Kp.alloc | apply Kp.drewN | (refine Kp.setCell ?_ (by first | omega | (simp <;> omega)) _) | (refine Kp.trans ?_ (by assumption)))))⟩
set_option maxRecDepth 20000 in
set_option maxHeartbeats 400000 in
theorem halfI_ (X Y S H J R : Nat) (h1 : ∀ w : World, (binOp .add 22 (.float .f64 X) (.float .f64 Y)).run Try.prog w = .ok (.float .f64 S) w) (h2 : ∀ w : World, Calls Try.prog 41 #[.float .f64 S, .int .i64 0] w fun e w' => e = .returned (.bool true) ∧ w' = w) (h3 : ∀ w : World, (binOp .quo 22 (.float .f64 X) (.float .f64 4611686018427387904)).run Try.prog w = .ok (.float .f64 H) w) (h4 : ∀ w : World, (binOp .quo 22 (.float .f64 Y) (.float .f64 4611686018427387904)).run Try.prog w = .ok (.float .f64 J) w) (h5 : ∀ w : World, (binOp .add 22 (.float .f64 H) (.float .f64 J)).run Try.prog w = .ok (.float .f64 R) w) (w : World) : Calls Try.prog 88 #[.float .f64 X, .float .f64 Y] w fun e w' => e = .returned (.float .f64 R) ∧ Kp w w' := by
  go_enter Try.func88, Try.ntmps88
  go_wp2_with (first | (go_at_call 41; refine (h2 _).mono ?_; rintro e w' ⟨rfl, hw'⟩; obtain rfl := hw'.symm; clear hw'))
  exact bodyPost_ret (v := .float .f64 R) (by simp [results, Try.results88, go_sem]) rfl ⟨rfl, (by repeat (with_reducible (first | assumption | exact Kp.refl _ | apply Kp.drew | apply Kp.alloc | apply Kp.drewN | (refine Kp.setCell ?_ (by first | omega | (simp <;> omega)) _) | (refine Kp.trans ?_ (by assumption)))))⟩
theorem half8_ (n n' : Bool) (m m' : Nat) (hm : m < 9218868437227405312) (hm' : m' < 9218868437227405312) (w : World) : Calls Try.prog 88 #[.float .f64 (Fq.wD n m), .float .f64 (Fq.wD n' m')] w fun e w' => e = .returned (.float .f64 (hfW (Iv n m + Iv n' m'))) ∧ Kp w w' := by
  obtain ⟨s, r, l1, ha, hq, hi⟩ := half_math n n' m m' hm hm' _ rfl
  have h1 : ∀ w : World, (binOp .add 22 (.float .f64 (Fq.wD n m)) (.float .f64 (Fq.wD n' m'))).run Try.prog w = .ok (.float .f64 (Fq.wD s r)) w := fun w => run_float_arith w .add 22 .f64 _ _ _ ha
  have h2 := isInf8_ s r l1
  by_cases c : r = 9218868437227405312
  · obtain ⟨x, y, e1, e2, e3⟩ := hi c
    rw [decide_eq_true c] at h2
    exact halfI_ _ _ _ x y _ h1 h2 (fun w => run_float_arith w .quo 22 .f64 _ _ _ e1) (fun w => run_float_arith w .quo 22 .f64 _ _ _ e2) (fun w => run_float_arith w .add 22 .f64 _ _ _ e3) w
  · obtain ⟨r2, l2, e1, e2⟩ := hq c
    rw [decide_eq_false c] at h2
    have hp := Fq.plain_d s r2 l2
    rw [e2] at hp
    exact halfQ_ _ _ _ _ _ h1 h2 (fun w => run_float_arith w .quo 22 .f64 _ _ _ e1) hp w
set_option maxRecDepth 20000 in
set_option maxHeartbeats 1000000 in
theorem midN_ (a b LO HI : Nat) (hr : ∀ w : World, Calls Try.prog 37 #[.agg #[.float .f64 a, .float .f64 b]] w fun e w' => e = .returned (.agg #[.float .f64 LO, .float .f64 HI]) ∧ Kp w w') (hv : ∀ w : World, Calls Try.prog 87 #[.agg #[.float .f64 LO, .float .f64 HI]] w fun e w' => e = .returned (.bool true) ∧ Kp w w') (w : World) : Calls Try.prog 67 #[.agg #[.float .f64 a, .float .f64 b]] w fun e w' => e = .returned (.float .f64 9221120237041090561) ∧ Kp w w' := by
  go_enter Try.func67, Try.ntmps67
  go_wp2_with (first | (go_at_call 37; refine (hr _).mono ?_; rintro e w1 ⟨rfl, g1⟩; have q0 := Fq.H2.keep (Fq.H2.new w (.float .f64 a) (.float .f64 b) 25) g1; have kw : Kp w w1 := Kp.trans ((Kp.refl w).alloc _) g1; obtain ⟨x0, x1, x2, x3⟩ := id q0) | (go_at_call 87; refine (hv _).mono ?_; rintro e w2 ⟨rfl, g2⟩; have qx := Fq.H2.keep (Fq.H2.put q0 (.float .f64 LO) (.float .f64 HI)) g2; have kv : Kp w w2 := Kp.trans ((kw.setCell (Nat.le_refl _) _).setCell (Nat.le_refl _) _) g2; obtain ⟨u0, u1, u2, u3⟩ := id qx) | (go_at_call 19; refine (nan8_ _).mono ?_; rintro e w3 ⟨rfl, g3⟩; have kn : Kp w w3 := Kp.trans kv g3))
  exact bodyPost_ret (v := .float .f64 9221120237041090561) (by simp [results, Try.results67, go_sem]) rfl ⟨rfl, kn⟩
set_option maxRecDepth 20000 in
set_option maxHeartbeats 1000000 in
theorem midE_ (a b LO HI : Nat) (hr : ∀ w : World, Calls Try.prog 37 #[.agg #[.float .f64 a, .float .f64 b]] w fun e w' => e = .returned (.agg #[.float .f64 LO, .float .f64 HI]) ∧ Kp w w') (hv : ∀ w : World, Calls Try.prog 87 #[.agg #[.float .f64 LO, .float .f64 HI]] w fun e w' => e = .returned (.bool false) ∧ Kp w w') (q1 : (FloatKind.f64.format.order LO 18442240474082181120 == some Ordering.eq) = true) (q2 : (FloatKind.f64.format.order HI 9218868437227405312 == some Ordering.eq) = true) (w : World) : Calls Try.prog 67 #[.agg #[.float .f64 a, .float .f64 b]] w fun e w' => e = .returned (.float .f64 0) ∧ Kp w w' := by
  have k0 := Fq.eqInM LO 18442240474082181120
  have k1 := Fq.eqInM HI 9218868437227405312
  rw [q1] at k0
  rw [q2] at k1
  go_enter Try.func67, Try.ntmps67
  go_wp2_with (first | (go_at_call 37; refine (hr _).mono ?_; rintro e w1 ⟨rfl, g1⟩; have q0 := Fq.H2.keep (Fq.H2.new w (.float .f64 a) (.float .f64 b) 25) g1; have kw : Kp w w1 := Kp.trans ((Kp.refl w).alloc _) g1; obtain ⟨x0, x1, x2, x3⟩ := id q0) | (go_at_call 87; refine (hv _).mono ?_; rintro e w2 ⟨rfl, g2⟩; have qx := Fq.H2.keep (Fq.H2.put q0 (.float .f64 LO) (.float .f64 HI)) g2; have kv : Kp w w2 := Kp.trans ((kw.setCell (Nat.le_refl _) _).setCell (Nat.le_refl _) _) g2; obtain ⟨u0, u1, u2, u3⟩ := id qx))
  have d0 : w2.drew.cell? ⟨w.heap.size, 0, none⟩ = some (.float .f64 LO) := u0
  have d1 : w2.drew.cell? ⟨w.heap.size, 1, none⟩ = some (.float .f64 HI) := u1
  refine Fq.wp_region_grow (by kernel_rfl) (by kernel_rfl) (fun ι _ G hG hall => ?_)
  have c0 : ∀ n, (G n).cell? ⟨w.heap.size, 0, none⟩ = some (.float .f64 LO) := fun n => Fq.gkeep (hG n) u0
  have c1 : ∀ n, (G n).cell? ⟨w.heap.size, 1, none⟩ = some (.float .f64 HI) := fun n => Fq.gkeep (hG n) u1
  have kG : ∀ n, Kp w (G n) := fun n => Kp.trans kv (hG n)
  repeat (go_big_quiet_step (first | (go_at_call 42; exact (Fq.entire6_ _).mono (fun e w' h => ⟨h.1, hall _ (by rw [h.2]; exact (hG _).alloc _ _)⟩))))
  refine wpQuiet_nil ?_
  rintro _ ⟨nq, rfl⟩
  have y0 := c0 nq
  have y1 := c1 nq
  have kW := kG nq
  clear c0 c1 kG hall
  generalize G nq = W at y0 y1 kW ⊢
  clear hG
  go_wp2_with (first | fail)
  exact bodyPost_ret (v := .float .f64 0) (by simp [results, Try.results67, go_sem]) rfl ⟨rfl, kW⟩
set_option maxRecDepth 20000 in
set_option maxHeartbeats 1000000 in
theorem midL_ (a b LO HI : Nat) (hr : ∀ w : World, Calls Try.prog 37 #[.agg #[.float .f64 a, .float .f64 b]] w fun e w' => e = .returned (.agg #[.float .f64 LO, .float .f64 HI]) ∧ Kp w w') (hv : ∀ w : World, Calls Try.prog 87 #[.agg #[.float .f64 LO, .float .f64 HI]] w fun e w' => e = .returned (.bool false) ∧ Kp w w') (q1 : (FloatKind.f64.format.order LO 18442240474082181120 == some Ordering.eq) = true) (q2 : (FloatKind.f64.format.order HI 9218868437227405312 == some Ordering.eq) = false) (t1 : (FloatKind.f64.format.order LO 18442240474082181119 == some Ordering.lt) = true) (w : World) : Calls Try.prog 67 #[.agg #[.float .f64 a, .float .f64 b]] w fun e w' => e = .returned (.float .f64 18442240474082181119) ∧ Kp w w' := by
  have k0 := Fq.eqInM LO 18442240474082181120
  have k1 := Fq.eqInM HI 9218868437227405312
  rw [q1] at k0
  rw [q2] at k1
  go_enter Try.func67, Try.ntmps67
  go_wp2_with (first | (go_at_call 37; refine (hr _).mono ?_; rintro e w1 ⟨rfl, g1⟩; have q0 := Fq.H2.keep (Fq.H2.new w (.float .f64 a) (.float .f64 b) 25) g1; have kw : Kp w w1 := Kp.trans ((Kp.refl w).alloc _) g1; obtain ⟨x0, x1, x2, x3⟩ := id q0) | (go_at_call 87; refine (hv _).mono ?_; rintro e w2 ⟨rfl, g2⟩; have qx := Fq.H2.keep (Fq.H2.put q0 (.float .f64 LO) (.float .f64 HI)) g2; have kv : Kp w w2 := Kp.trans ((kw.setCell (Nat.le_refl _) _).setCell (Nat.le_refl _) _) g2; obtain ⟨u0, u1, u2, u3⟩ := id qx))
  have d0 : w2.drew.cell? ⟨w.heap.size, 0, none⟩ = some (.float .f64 LO) := u0
  have d1 : w2.drew.cell? ⟨w.heap.size, 1, none⟩ = some (.float .f64 HI) := u1
  refine Fq.wp_region_grow (by kernel_rfl) (by kernel_rfl) (fun ι _ G hG hall => ?_)
  have c0 : ∀ n, (G n).cell? ⟨w.heap.size, 0, none⟩ = some (.float .f64 LO) := fun n => Fq.gkeep (hG n) u0
  have c1 : ∀ n, (G n).cell? ⟨w.heap.size, 1, none⟩ = some (.float .f64 HI) := fun n => Fq.gkeep (hG n) u1
  have kG : ∀ n, Kp w (G n) := fun n => Kp.trans kv (hG n)
  repeat (go_big_quiet_step (first | (go_at_call 42; exact (Fq.entire6_ _).mono (fun e w' h => ⟨h.1, hall _ (by rw [h.2]; exact (hG _).alloc _ _)⟩))))
  refine wpQuiet_nil ?_
  rintro _ ⟨nq, rfl⟩
  have y0 := c0 nq
  have y1 := c1 nq
  have kW := kG nq
  clear c0 c1 kG hall
  generalize G nq = W at y0 y1 kW ⊢
  clear hG
  go_wp2_with (first | fail)
  exact bodyPost_ret (v := .float .f64 18442240474082181119) (by simp [results, Try.results67, go_sem]) rfl ⟨rfl, kW⟩
set_option maxRecDepth 20000 in
set_option maxHeartbeats 1000000 in
theorem midH_ (a b LO HI : Nat) (hr : ∀ w : World, Calls Try.prog 37 #[.agg #[.float .f64 a, .float .f64 b]] w fun e w' => e = .returned (.agg #[.float .f64 LO, .float .f64 HI]) ∧ Kp w w') (hv : ∀ w : World, Calls Try.prog 87 #[.agg #[.float .f64 LO, .float .f64 HI]] w fun e w' => e = .returned (.bool false) ∧ Kp w w') (q1 : (FloatKind.f64.format.order LO 18442240474082181120 == some Ordering.eq) = false) (t1 : (FloatKind.f64.format.order LO 18442240474082181119 == some Ordering.lt) = false) (t2 : (FloatKind.f64.format.order HI 9218868437227405311 == some Ordering.gt) = true) (w : World) : Calls Try.prog 67 #[.agg #[.float .f64 a, .float .f64 b]] w fun e w' => e = .returned (.float .f64 9218868437227405311) ∧ Kp w w' := by
  have k0 := Fq.eqInM LO 18442240474082181120
  rw [q1] at k0
  go_enter Try.func67, Try.ntmps67
  go_wp2_with (first | (go_at_call 37; refine (hr _).mono ?_; rintro e w1 ⟨rfl, g1⟩; have q0 := Fq.H2.keep (Fq.H2.new w (.float .f64 a) (.float .f64 b) 25) g1; have kw : Kp w w1 := Kp.trans ((Kp.refl w).alloc _) g1; obtain ⟨x0, x1, x2, x3⟩ := id q0) | (go_at_call 87; refine (hv _).mono ?_; rintro e w2 ⟨rfl, g2⟩; have qx := Fq.H2.keep (Fq.H2.put q0 (.float .f64 LO) (.float .f64 HI)) g2; have kv : Kp w w2 := Kp.trans ((kw.setCell (Nat.le_refl _) _).setCell (Nat.le_refl _) _) g2; obtain ⟨u0, u1, u2, u3⟩ := id qx))
  have d0 : w2.drew.cell? ⟨w.heap.size, 0, none⟩ = some (.float .f64 LO) := u0
  have d1 : w2.drew.cell? ⟨w.heap.size, 1, none⟩ = some (.float .f64 HI) := u1
  refine Fq.wp_region_grow (by kernel_rfl) (by kernel_rfl) (fun ι _ G hG hall => ?_)
  have c0 : ∀ n, (G n).cell? ⟨w.heap.size, 0, none⟩ = some (.float .f64 LO) := fun n => Fq.gkeep (hG n) u0
  have c1 : ∀ n, (G n).cell? ⟨w.heap.size, 1, none⟩ = some (.float .f64 HI) := fun n => Fq.gkeep (hG n) u1
  have kG : ∀ n, Kp w (G n) := fun n => Kp.trans kv (hG n)
  repeat (go_big_quiet_step (first | (go_at_call 42; exact (Fq.entire6_ _).mono (fun e w' h => ⟨h.1, hall _ (by rw [h.2]; exact (hG _).alloc _ _)⟩))))
  refine wpQuiet_nil ?_
  rintro _ ⟨nq, rfl⟩
  have y0 := c0 nq
  have y1 := c1 nq
  have kW := kG nq
  clear c0 c1 kG hall
  generalize G nq = W at y0 y1 kW ⊢
  clear hG
  go_wp2_with (first | fail)
  exact bodyPost_ret (v := .float .f64 9218868437227405311) (by simp [results, Try.results67, go_sem]) rfl ⟨rfl, kW⟩
set_option maxRecDepth 20000 in
set_option maxHeartbeats 1000000 in
theorem midF_ (a b LO HI : Nat) (hr : ∀ w : World, Calls Try.prog 37 #[.agg #[.float .f64 a, .float .f64 b]] w fun e w' => e = .returned (.agg #[.float .f64 LO, .float .f64 HI]) ∧ Kp w w') (hv : ∀ w : World, Calls Try.prog 87 #[.agg #[.float .f64 LO, .float .f64 HI]] w fun e w' => e = .returned (.bool false) ∧ Kp w w') (q1 : (FloatKind.f64.format.order LO 18442240474082181120 == some Ordering.eq) = false) (t1 : (FloatKind.f64.format.order LO 18442240474082181119 == some Ordering.lt) = false) (t2 : (FloatKind.f64.format.order HI 9218868437227405311 == some Ordering.gt) = false) (G9 : Nat) (h1 : ∀ w : World, Calls Try.prog 88 #[.float .f64 LO, .float .f64 HI] w fun e w' => e = .returned (.float .f64 G9) ∧ Kp w w') (w : World) : Calls Try.prog 67 #[.agg #[.float .f64 a, .float .f64 b]] w fun e w' => e = .returned (.float .f64 G9) ∧ Kp w w' := by
  have k0 := Fq.eqInM LO 18442240474082181120
  rw [q1] at k0
  go_enter Try.func67, Try.ntmps67
  go_wp2_with (first | (go_at_call 37; refine (hr _).mono ?_; rintro e w1 ⟨rfl, g1⟩; have q0 := Fq.H2.keep (Fq.H2.new w (.float .f64 a) (.float .f64 b) 25) g1; have kw : Kp w w1 := Kp.trans ((Kp.refl w).alloc _) g1; obtain ⟨x0, x1, x2, x3⟩ := id q0) | (go_at_call 87; refine (hv _).mono ?_; rintro e w2 ⟨rfl, g2⟩; have qx := Fq.H2.keep (Fq.H2.put q0 (.float .f64 LO) (.float .f64 HI)) g2; have kv : Kp w w2 := Kp.trans ((kw.setCell (Nat.le_refl _) _).setCell (Nat.le_refl _) _) g2; obtain ⟨u0, u1, u2, u3⟩ := id qx))
  have d0 : w2.drew.cell? ⟨w.heap.size, 0, none⟩ = some (.float .f64 LO) := u0
  have d1 : w2.drew.cell? ⟨w.heap.size, 1, none⟩ = some (.float .f64 HI) := u1
  refine Fq.wp_region_grow (by kernel_rfl) (by kernel_rfl) (fun ι _ G hG hall => ?_)
  have c0 : ∀ n, (G n).cell? ⟨w.heap.size, 0, none⟩ = some (.float .f64 LO) := fun n => Fq.gkeep (hG n) u0
  have c1 : ∀ n, (G n).cell? ⟨w.heap.size, 1, none⟩ = some (.float .f64 HI) := fun n => Fq.gkeep (hG n) u1
  have kG : ∀ n, Kp w (G n) := fun n => Kp.trans kv (hG n)
  repeat (go_big_quiet_step (first | (go_at_call 42; exact (Fq.entire6_ _).mono (fun e w' h => ⟨h.1, hall _ (by rw [h.2]; exact (hG _).alloc _ _)⟩))))
  refine wpQuiet_nil ?_
  rintro _ ⟨nq, rfl⟩
  have y0 := c0 nq
  have y1 := c1 nq
  have kW := kG nq
  clear c0 c1 kG hall
  generalize G nq = W at y0 y1 kW ⊢
  clear hG
  go_wp2_with (first | (go_at_call 88; refine (h1 _).mono ?_; rintro e w7 ⟨rfl, g7⟩))
  exact bodyPost_ret (v := .float .f64 G9) (by simp [results, Try.results67, go_sem]) rfl ⟨rfl, Kp.trans kW g7⟩
end Go.Proofs.Ytnjbheammpdjfaa
