import Derived.Test.YtjkbapnndoldgaaKSHi
import Derived.Test.YtjkbapnndoldgaaKSHv
import Derived.Test.YtjkbapnndoldgaaKSHx
namespace Go.Proofs.Ytjkbapnndoldgaa
open Go.RowKit

set_option linter.unusedVariables false
set_option maxRecDepth 20000 in
set_option maxHeartbeats 1000000 in
theorem rread14A_ (X Y P Q U V R S : Int) (h1 : ∀ w : World, Calls Try.prog 35 #[.agg #[.int .u32 X, .int .u32 Y]] w fun e w' => e = .returned (.agg #[.int .u64 P, .int .u64 Q]) ∧ Kp w w') (h2 : ∀ w : World, Calls Try.prog 34 #[.agg #[.int .u64 P, .int .u64 Q]] w fun e w' => e = .returned (.agg #[.int .u64 U, .int .u64 V]) ∧ Kp w w') (h3 : ∀ w : World, Calls Try.prog 33 #[.agg #[.int .u64 U, .int .u64 V]] w fun e w' => e = .returned (.agg #[.int .u32 R, .int .u32 S]) ∧ Kp w w') (w : World) : Calls Try.prog 10 #[.agg #[.int .u32 X, .int .u32 Y]] w fun e w' => e = .returned (.agg #[.int .u32 R, .int .u32 S]) ∧ Kp w w' := by
  have k0 := ((Kp.refl w).alloc (.cells #[.int .u32 X, .int .u32 Y] 24)).alloc (.cells #[.int .u32 0, .int .u32 0] 24)
  have s0 := H48.new w (.int .u32 X) (.int .u32 Y) (.int .u32 0) (.int .u32 0) 24 24
  go_enter Try.func10, Try.ntmps10
  go_wp2_with (first | (go_at_call 35; refine (h1 _).mono ?_; rintro e w1 ⟨rfl, g1⟩; have k1 := Kp.trans k0 g1; have s1 := H48.keep s0 g1; clear g1) | (go_at_call 34; refine (h2 _).mono ?_; rintro e w2 ⟨rfl, g2⟩; have k2 := Kp.trans k1 g2; have s2 := H48.keep s1 g2; clear g2) | (go_at_call 33; refine (h3 _).mono ?_; rintro e w3 ⟨rfl, g3⟩; have k3 := Kp.trans k2 g3; have s3 := H48.keep s2 g3; clear g3; obtain ⟨⟨x0, x1, x2, x3⟩, y0, y1, y2, y3⟩ := id s3))
  exact bodyPost_ret (v := .agg #[.int .u32 R, .int .u32 S]) (by simp [results, Try.results10, go_sem, y0, y1]) rfl ⟨rfl, ((k3.setCell (by simp <;> omega) _).setCell (by simp <;> omega) _)⟩
theorem rread14_ (a b : Nat) (L H : Int) (r : Sg.Rd a b L H) (w : World) : Calls Try.prog 10 #[.agg #[.int .u32 ((a : Nat) : Int), .int .u32 ((b : Nat) : Int)]] w fun e w' => e = .returned (.agg #[.int .u32 ((Sg.pw L : Nat) : Int), .int .u32 ((Sg.pw H : Nat) : Int)]) ∧ Kp w w' := rread14A_ _ _ _ _ _ _ _ _ (wideAll_ a b r.1 r.2.1) (rread9_ _ _ _ _ (rdW a b L H r)) (thin14_ L H r.vd.lo r.vd.hi) w
set_option maxRecDepth 20000 in
set_option maxHeartbeats 1000000 in
theorem rvalid14t_ (X Y : Int) (h1 : ∀ w : World, Calls Try.prog 10 #[.agg #[.int .u32 X, .int .u32 Y]] w fun e w' => e = .returned (.agg #[.int .u32 X, .int .u32 Y]) ∧ Kp w w') (w : World) : Calls Try.prog 12 #[.agg #[.int .u32 X, .int .u32 Y]] w fun e w' => e = .returned (.bool true) ∧ Kp w w' := by
  go_enter Try.func12, Try.ntmps12
  go_wp2
  refine Fq.wp_region_grow (by kernel_rfl) (by kernel_rfl) (fun ι _ G hG hall => ?_)
  have cc0 : ∀ n, (G n).cell? ⟨w.heap.size, 0, none⟩ = some (.int .u32 X) := fun n => Fq.gkeep (hG n) (by simp [go_sem])
  have cc1 : ∀ n, (G n).cell? ⟨w.heap.size, 1, none⟩ = some (.int .u32 Y) := fun n => Fq.gkeep (hG n) (by simp [go_sem])
  repeat (go_big_quiet_step (first | (go_at_call 10; exact (h1 _).mono (fun e w' h => ⟨h.1, hall _ (Fq.gtrans (hG _) h.2)⟩))))
  refine wpQuiet_nil ?_
  rintro _ ⟨nq, rfl⟩
  have gq : Kp _ (G nq) := hG nq
  clear cc0 cc1 hall hG
  have gq2 := Kp.trans ((Kp.refl w).alloc _) gq
  go_wp2
  exact bodyPost_ret (v := .bool true) (by simp [results, Try.results12, go_sem]) rfl ⟨rfl, gq2⟩
set_option maxRecDepth 20000 in
set_option maxHeartbeats 1000000 in
theorem rvalid14f_ (X Y R S : Int) (h1 : ∀ w : World, Calls Try.prog 10 #[.agg #[.int .u32 X, .int .u32 Y]] w fun e w' => e = .returned (.agg #[.int .u32 R, .int .u32 S]) ∧ Kp w w') (e1 : (X == R) = false) (e2 : ¬ X = R) (w : World) : Calls Try.prog 12 #[.agg #[.int .u32 X, .int .u32 Y]] w fun e w' => e = .returned (.bool false) ∧ Kp w w' := by
  go_enter Try.func12, Try.ntmps12
  go_wp2
  refine Fq.wp_region_grow (by kernel_rfl) (by kernel_rfl) (fun ι _ G hG hall => ?_)
  have cc0 : ∀ n, (G n).cell? ⟨w.heap.size, 0, none⟩ = some (.int .u32 X) := fun n => Fq.gkeep (hG n) (by simp [go_sem])
  have cc1 : ∀ n, (G n).cell? ⟨w.heap.size, 1, none⟩ = some (.int .u32 Y) := fun n => Fq.gkeep (hG n) (by simp [go_sem])
  repeat (go_big_quiet_step (first | (go_at_call 10; exact (h1 _).mono (fun e w' h => ⟨h.1, hall _ (Fq.gtrans (hG _) h.2)⟩))))
  refine wpQuiet_nil ?_
  rintro _ ⟨nq, rfl⟩
  have gq : Kp _ (G nq) := hG nq
  clear cc0 cc1 hall hG
  have gq2 := Kp.trans ((Kp.refl w).alloc _) gq
  go_wp2
  exact bodyPost_ret (v := .bool false) (by simp [results, Try.results12, go_sem]) rfl ⟨rfl, gq2⟩
set_option maxRecDepth 20000 in
set_option maxHeartbeats 1000000 in
theorem rvalid14g_ (X Y S : Int) (h1 : ∀ w : World, Calls Try.prog 10 #[.agg #[.int .u32 X, .int .u32 Y]] w fun e w' => e = .returned (.agg #[.int .u32 X, .int .u32 S]) ∧ Kp w w') (e1 : (Y == S) = false) (e2 : ¬ Y = S) (w : World) : Calls Try.prog 12 #[.agg #[.int .u32 X, .int .u32 Y]] w fun e w' => e = .returned (.bool false) ∧ Kp w w' := by
  go_enter Try.func12, Try.ntmps12
  go_wp2
  refine Fq.wp_region_grow (by kernel_rfl) (by kernel_rfl) (fun ι _ G hG hall => ?_)
  have cc0 : ∀ n, (G n).cell? ⟨w.heap.size, 0, none⟩ = some (.int .u32 X) := fun n => Fq.gkeep (hG n) (by simp [go_sem])
  have cc1 : ∀ n, (G n).cell? ⟨w.heap.size, 1, none⟩ = some (.int .u32 Y) := fun n => Fq.gkeep (hG n) (by simp [go_sem])
  repeat (go_big_quiet_step (first | (go_at_call 10; exact (h1 _).mono (fun e w' h => ⟨h.1, hall _ (Fq.gtrans (hG _) h.2)⟩))))
  refine wpQuiet_nil ?_
  rintro _ ⟨nq, rfl⟩
  have gq : Kp _ (G nq) := hG nq
  clear cc0 cc1 hall hG
  have gq2 := Kp.trans ((Kp.refl w).alloc _) gq
  go_wp2
  exact bodyPost_ret (v := .bool false) (by simp [results, Try.results12, go_sem]) rfl ⟨rfl, gq2⟩
theorem rvalid14_ (a b : Nat) (L H : Int) (r : Sg.Rd a b L H) (w : World) : Calls Try.prog 12 #[.agg #[.int .u32 ((a : Nat) : Int), .int .u32 ((b : Nat) : Int)]] w fun e w' => e = .returned (.bool (decide (a = Sg.pw L ∧ b = Sg.pw H))) ∧ Kp w w' := by
  have h := rread14_ a b L H r
  by_cases c1 : a = Sg.pw L
  · by_cases c2 : b = Sg.pw H
    · rw [decide_eq_true ⟨c1, c2⟩]
      rw [← c1, ← c2] at h
      exact rvalid14t_ _ _ h w
    · rw [decide_eq_false (fun x => c2 x.2)]
      rw [← c1] at h
      exact rvalid14g_ _ _ _ h (by simp; omega) (by omega) w
  · rw [decide_eq_false (fun x => c1 x.1)]
    exact rvalid14f_ _ _ _ _ h (by simp; omega) (by omega) w
end Go.Proofs.Ytjkbapnndoldgaa
