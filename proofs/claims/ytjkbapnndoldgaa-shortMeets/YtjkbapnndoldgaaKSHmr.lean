import Derived.Test.YtjkbapnndoldgaaKNHb
import Derived.Test.YtjkbapnndoldgaaKNSc
import Derived.Test.YtjkbapnndoldgaaKSHx
namespace Go.Proofs.Ytjkbapnndoldgaa
open Go.RowKit
set_option linter.unusedVariables false
set_option maxRecDepth 20000 in
set_option maxHeartbeats 2000000 in
theorem rMeetA_ (X1 X2 Y1 Y2 P1 P2 Q1 Q2 R1 R2 Z1 Z2 : Int) (h1 : ∀ w : World, Calls Try.prog 35 #[.agg #[.int .u32 X1, .int .u32 X2]] w fun e w' => e = .returned (.agg #[.int .u64 P1, .int .u64 P2]) ∧ Kp w w') (h2 : ∀ w : World, Calls Try.prog 35 #[.agg #[.int .u32 Y1, .int .u32 Y2]] w fun e w' => e = .returned (.agg #[.int .u64 Q1, .int .u64 Q2]) ∧ Kp w w') (h3 : ∀ w : World, Calls Try.prog 28 #[.agg #[.int .u64 P1, .int .u64 P2], .agg #[.int .u64 Q1, .int .u64 Q2]] w fun e w' => e = .returned (.agg #[.int .u64 R1, .int .u64 R2]) ∧ Kp w w') (h4 : ∀ w : World, Calls Try.prog 33 #[.agg #[.int .u64 R1, .int .u64 R2]] w fun e w' => e = .returned (.agg #[.int .u32 Z1, .int .u32 Z2]) ∧ Kp w w') (w : World) : Calls Try.prog 20 #[.agg #[.int .u32 X1, .int .u32 X2], .agg #[.int .u32 Y1, .int .u32 Y2]] w fun e w' => e = .returned (.agg #[.int .u32 Z1, .int .u32 Z2]) ∧ Kp w w' := by
  have k0 := (((Kp.refl w).alloc (.cells #[.int .u32 X1, .int .u32 X2] 24)).alloc (.cells #[.int .u32 Y1, .int .u32 Y2] 24)).alloc (.cells #[.int .u32 0, .int .u32 0] 24)
  have s0 := H6.new w (.int .u32 X1) (.int .u32 X2) (.int .u32 Y1) (.int .u32 Y2) (.int .u32 0) (.int .u32 0) 24 24 24
  go_enter Try.func20, Try.ntmps20
  go_upto_region 1 with fail
  generalize ((w.alloc (.cells #[.int .u32 X1, .int .u32 X2] 24)).alloc (.cells #[.int .u32 Y1, .int .u32 Y2] 24)).alloc (.cells #[.int .u32 0, .int .u32 0] 24) = W at k0 s0 ⊢
  obtain ⟨⟨z0, z1, _, _⟩, ⟨z2, z3, _, _⟩, ⟨z4, z5, _, _⟩⟩ := id s0
  obtain ⟨⟨dz0, dz1, _, _⟩, ⟨dz2, dz3, _, _⟩, _⟩ := H6.keep s0 (Kp.refl W).drew
  go_region_held3 (fun w' => w'.cell? ⟨w.heap.size, 0, none⟩ = some (.int .u32 X1) ∧ w'.cell? ⟨w.heap.size, 1, none⟩ = some (.int .u32 X2) ∧ w'.cell? ⟨w.heap.size + 1, 0, none⟩ = some (.int .u32 Y1) ∧ w'.cell? ⟨w.heap.size + 1, 1, none⟩ = some (.int .u32 Y2)) (first | with_reducible exact ⟨z0, z1, z2, z3⟩ | with_reducible exact ⟨dz0, dz1, dz2, dz3⟩ | with_reducible exact ⟨a1, b1, c1, d1⟩ | with_reducible exact ⟨a2, b2, c2, d2⟩ | with_reducible exact ⟨a3, b3, c3, d3⟩ | with_reducible exact ⟨a4, b4, c4, d4⟩ | (simp [go_sem, a4, b4, c4, d4])) (first | (go_at_call_of 35 (Value.int .u32 X1); refine (h1 _).mono ?_; rintro e w1 ⟨rfl, g1⟩; have k1 := Kp.trans k0.drew g1; have s1 := H6.keep (H6.keep s0 (Kp.refl _).drew) g1; obtain ⟨⟨a1, b1, _, _⟩, ⟨c1, d1, _, _⟩, ⟨e1, f1, _, _⟩⟩ := id s1) | (go_at_call_of 35 (Value.int .u32 Y1); refine (h2 _).mono ?_; rintro e w2 ⟨rfl, g2⟩; have k2 := Kp.trans k1 g2; have s2 := H6.keep s1 g2; obtain ⟨⟨a2, b2, _, _⟩, ⟨c2, d2, _, _⟩, ⟨e2, f2, _, _⟩⟩ := id s2) | (go_at_call 28; refine (h3 _).mono ?_; rintro e w3 ⟨rfl, g3⟩; have k3 := Kp.trans k2 g3; have s3 := H6.keep s2 g3; obtain ⟨⟨a3, b3, _, _⟩, ⟨c3, d3, _, _⟩, ⟨e3, f3, _, _⟩⟩ := id s3) | (go_at_call 33; refine (h4 _).mono ?_; rintro e w4 ⟨rfl, g4⟩; have k4 := Kp.trans k3 g4; have s4 := H6.keep s3 g4; obtain ⟨⟨a4, b4, _, _⟩, ⟨c4, d4, _, _⟩, ⟨e4, f4, _, _⟩⟩ := id s4))
  go_wp2
  exact bodyPost_ret (v := .agg #[.int .u32 Z1, .int .u32 Z2]) (by simp [results, Try.results20, go_sem, e4, f4]) rfl ⟨rfl, (k4.setCell (by simp <;> omega) _).setCell (by simp <;> omega) _⟩
theorem wz_max (x y : Int) (hx : Sg.BdZ x) (hy : Sg.BdZ y) : max (wz x) (wz y) = wz (max x y) := by
  have := wz_le x y hx hy
  rcases Int.le_total x y with h | h
  · rw [show max x y = y from by omega]; omega
  · rw [show max x y = x from by omega]; have := wz_le y x hy hx; omega
theorem wz_min (x y : Int) (hx : Sg.BdZ x) (hy : Sg.BdZ y) : min (wz x) (wz y) = wz (min x y) := by
  have := wz_le x y hx hy
  rcases Int.le_total x y with h | h
  · rw [show min x y = x from by omega]; omega
  · rw [show min x y = y from by omega]; have := wz_le y x hy hx; omega
theorem wz_iL (L1 H1 L2 H2 : Int) (h1 : Sg.VdZ L1 H1) (h2 : Sg.VdZ L2 H2) : iL (wz L1) (wz H1) (wz L2) (wz H2) = wz (Sg.iL L1 H1 L2 H2) := by
  unfold iL Sg.iL
  rw [wz_max _ _ h1.lo h2.lo, wz_min _ _ h1.hi h2.hi]
  have e := wz_le (max L1 L2) (min H1 H2) (Sg.bd_max _ _ h1.lo h2.lo) (Sg.bd_min _ _ h1.hi h2.hi)
  by_cases c : max L1 L2 ≤ min H1 H2
  · rw [if_pos c, if_pos (e.2 c)]
  · rw [if_neg c, if_neg (fun h => c (e.1 h)), wz_I]
theorem wz_iH (L1 H1 L2 H2 : Int) (h1 : Sg.VdZ L1 H1) (h2 : Sg.VdZ L2 H2) : iH (wz L1) (wz H1) (wz L2) (wz H2) = wz (Sg.iH L1 H1 L2 H2) := by
  unfold iH Sg.iH
  rw [wz_max _ _ h1.lo h2.lo, wz_min _ _ h1.hi h2.hi]
  have e := wz_le (max L1 L2) (min H1 H2) (Sg.bd_max _ _ h1.lo h2.lo) (Sg.bd_min _ _ h1.hi h2.hi)
  by_cases c : max L1 L2 ≤ min H1 H2
  · rw [if_pos c, if_pos (e.2 c)]
  · rw [if_neg c, if_neg (fun h => c (e.1 h)), wz_MI]
theorem rMeet14_ (a b c d : Nat) (L1 H1 L2 H2 : Int) (hx : Sg.Rd a b L1 H1) (hy : Sg.Rd c d L2 H2) (w : World) : Calls Try.prog 20 #[.agg #[.int .u32 ((a : Nat) : Int), .int .u32 ((b : Nat) : Int)], .agg #[.int .u32 ((c : Nat) : Int), .int .u32 ((d : Nat) : Int)]] w fun e w' => e = .returned (.agg #[.int .u32 ((Sg.pw (Sg.iL L1 H1 L2 H2) : Nat) : Int), .int .u32 ((Sg.pw (Sg.iH L1 H1 L2 H2) : Nat) : Int)]) ∧ Kp w w' := by
  have m := rmeet9_ _ _ _ _ (wz L1) (wz H1) (wz L2) (wz H2) (vdW hx.vd) (vdW hy.vd) (rread9_ _ _ _ _ (rdW a b L1 H1 hx)) (rread9_ _ _ _ _ (rdW c d L2 H2 hy))
  rw [wz_iL L1 H1 L2 H2 hx.vd hy.vd, wz_iH L1 H1 L2 H2 hx.vd hy.vd] at m
  have v := Sg.vd_meet L1 H1 L2 H2 hx.vd hy.vd
  exact rMeetA_ _ _ _ _ _ _ _ _ _ _ _ _ (wideAll_ a b hx.1 hx.2.1) (wideAll_ c d hy.1 hy.2.1) m (thin14_ _ _ v.lo v.hi) w
set_option maxRecDepth 20000 in
set_option maxHeartbeats 2000000 in
theorem rJoinA_ (X1 X2 Y1 Y2 P1 P2 Q1 Q2 R1 R2 Z1 Z2 : Int) (h1 : ∀ w : World, Calls Try.prog 35 #[.agg #[.int .u32 X1, .int .u32 X2]] w fun e w' => e = .returned (.agg #[.int .u64 P1, .int .u64 P2]) ∧ Kp w w') (h2 : ∀ w : World, Calls Try.prog 35 #[.agg #[.int .u32 Y1, .int .u32 Y2]] w fun e w' => e = .returned (.agg #[.int .u64 Q1, .int .u64 Q2]) ∧ Kp w w') (h3 : ∀ w : World, Calls Try.prog 29 #[.agg #[.int .u64 P1, .int .u64 P2], .agg #[.int .u64 Q1, .int .u64 Q2]] w fun e w' => e = .returned (.agg #[.int .u64 R1, .int .u64 R2]) ∧ Kp w w') (h4 : ∀ w : World, Calls Try.prog 33 #[.agg #[.int .u64 R1, .int .u64 R2]] w fun e w' => e = .returned (.agg #[.int .u32 Z1, .int .u32 Z2]) ∧ Kp w w') (w : World) : Calls Try.prog 22 #[.agg #[.int .u32 X1, .int .u32 X2], .agg #[.int .u32 Y1, .int .u32 Y2]] w fun e w' => e = .returned (.agg #[.int .u32 Z1, .int .u32 Z2]) ∧ Kp w w' := by
  have k0 := (((Kp.refl w).alloc (.cells #[.int .u32 X1, .int .u32 X2] 24)).alloc (.cells #[.int .u32 Y1, .int .u32 Y2] 24)).alloc (.cells #[.int .u32 0, .int .u32 0] 24)
  have s0 := H6.new w (.int .u32 X1) (.int .u32 X2) (.int .u32 Y1) (.int .u32 Y2) (.int .u32 0) (.int .u32 0) 24 24 24
  go_enter Try.func22, Try.ntmps22
  go_upto_region 1 with fail
  generalize ((w.alloc (.cells #[.int .u32 X1, .int .u32 X2] 24)).alloc (.cells #[.int .u32 Y1, .int .u32 Y2] 24)).alloc (.cells #[.int .u32 0, .int .u32 0] 24) = W at k0 s0 ⊢
  obtain ⟨⟨z0, z1, _, _⟩, ⟨z2, z3, _, _⟩, ⟨z4, z5, _, _⟩⟩ := id s0
  obtain ⟨⟨dz0, dz1, _, _⟩, ⟨dz2, dz3, _, _⟩, _⟩ := H6.keep s0 (Kp.refl W).drew
  go_region_held3 (fun w' => w'.cell? ⟨w.heap.size, 0, none⟩ = some (.int .u32 X1) ∧ w'.cell? ⟨w.heap.size, 1, none⟩ = some (.int .u32 X2) ∧ w'.cell? ⟨w.heap.size + 1, 0, none⟩ = some (.int .u32 Y1) ∧ w'.cell? ⟨w.heap.size + 1, 1, none⟩ = some (.int .u32 Y2)) (first | with_reducible exact ⟨z0, z1, z2, z3⟩ | with_reducible exact ⟨dz0, dz1, dz2, dz3⟩ | with_reducible exact ⟨a1, b1, c1, d1⟩ | with_reducible exact ⟨a2, b2, c2, d2⟩ | with_reducible exact ⟨a3, b3, c3, d3⟩ | with_reducible exact ⟨a4, b4, c4, d4⟩ | (simp [go_sem, a4, b4, c4, d4])) (first | (go_at_call_of 35 (Value.int .u32 X1); refine (h1 _).mono ?_; rintro e w1 ⟨rfl, g1⟩; have k1 := Kp.trans k0.drew g1; have s1 := H6.keep (H6.keep s0 (Kp.refl _).drew) g1; obtain ⟨⟨a1, b1, _, _⟩, ⟨c1, d1, _, _⟩, ⟨e1, f1, _, _⟩⟩ := id s1) | (go_at_call_of 35 (Value.int .u32 Y1); refine (h2 _).mono ?_; rintro e w2 ⟨rfl, g2⟩; have k2 := Kp.trans k1 g2; have s2 := H6.keep s1 g2; obtain ⟨⟨a2, b2, _, _⟩, ⟨c2, d2, _, _⟩, ⟨e2, f2, _, _⟩⟩ := id s2) | (go_at_call 29; refine (h3 _).mono ?_; rintro e w3 ⟨rfl, g3⟩; have k3 := Kp.trans k2 g3; have s3 := H6.keep s2 g3; obtain ⟨⟨a3, b3, _, _⟩, ⟨c3, d3, _, _⟩, ⟨e3, f3, _, _⟩⟩ := id s3) | (go_at_call 33; refine (h4 _).mono ?_; rintro e w4 ⟨rfl, g4⟩; have k4 := Kp.trans k3 g4; have s4 := H6.keep s3 g4; obtain ⟨⟨a4, b4, _, _⟩, ⟨c4, d4, _, _⟩, ⟨e4, f4, _, _⟩⟩ := id s4))
  go_wp2
  exact bodyPost_ret (v := .agg #[.int .u32 Z1, .int .u32 Z2]) (by simp [results, Try.results22, go_sem, e4, f4]) rfl ⟨rfl, (k4.setCell (by simp <;> omega) _).setCell (by simp <;> omega) _⟩
theorem rJoin14_ (a b c d : Nat) (L1 H1 L2 H2 : Int) (hx : Sg.Rd a b L1 H1) (hy : Sg.Rd c d L2 H2) (w : World) : Calls Try.prog 22 #[.agg #[.int .u32 ((a : Nat) : Int), .int .u32 ((b : Nat) : Int)], .agg #[.int .u32 ((c : Nat) : Int), .int .u32 ((d : Nat) : Int)]] w fun e w' => e = .returned (.agg #[.int .u32 ((Sg.pw (min L1 L2) : Nat) : Int), .int .u32 ((Sg.pw (max H1 H2) : Nat) : Int)]) ∧ Kp w w' := by
  have m := rhull9_ _ _ _ _ (wz L1) (wz H1) (wz L2) (wz H2) (rdW a b L1 H1 hx) (rdW c d L2 H2 hy)
  rw [wz_min _ _ hx.vd.lo hy.vd.lo, wz_max _ _ hx.vd.hi hy.vd.hi] at m
  have v := Sg.vd_hull L1 H1 L2 H2 hx.vd hy.vd
  exact rJoinA_ _ _ _ _ _ _ _ _ _ _ _ _ (wideAll_ a b hx.1 hx.2.1) (wideAll_ c d hy.1 hy.2.1) m (thin14_ _ _ v.lo v.hi) w
end Go.Proofs.Ytjkbapnndoldgaa
