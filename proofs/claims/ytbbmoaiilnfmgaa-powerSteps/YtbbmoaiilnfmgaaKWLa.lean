import Derived.Test.YtbbmoaiilnfmgaaKWTb
import Derived.Deep.CutRange
namespace Go.Proofs.Ytbbmoaiilnfmgaa
open Go.RowKit
set_option maxRecDepth 20000 in
set_option maxHeartbeats 1000000 in
theorem in9_ (a b : Nat) (w : World) : Calls Try.prog 6 #[.agg #[.int .u64 ((a : Nat) : Int), .int .u64 ((b : Nat) : Int)]] w fun e w' => e = .returned (.agg #[.float .f64 a, .float .f64 b]) ∧ Kp w w' := by
  have h1 := Fq.ff64 a
  have h2 := Fq.ff64 b
  generalize (a : Int) = X at h1 ⊢
  generalize (b : Int) = Y at h2 ⊢
  go_enter Try.func6, Try.ntmps6
  go_wp2
  go_region_held3 (fun w' => w'.cell? ⟨w.heap.size, 0, none⟩ = some (.int .u64 X) ∧ w'.cell? ⟨w.heap.size, 1, none⟩ = some (.int .u64 Y)) (simp [go_sem]) (fail)
  go_wp2
  exact bodyPost_ret (v := .agg #[.float .f64 a, .float .f64 b]) (by simp [results, Try.results6, go_sem]) rfl ⟨rfl, (by repeat (with_reducible (first | assumption | exact Kp.refl _ | apply Kp.drew | apply Kp.alloc | apply Kp.drewN | (refine Kp.setCell ?_ (by first | omega | (simp <;> omega)) _) | (refine Kp.trans ?_ (by assumption)))))⟩
set_option maxRecDepth 20000 in
set_option maxHeartbeats 1000000 in
theorem out9_ (a b : Nat) (w : World) : Calls Try.prog 4 #[.agg #[.float .f64 a, .float .f64 b]] w fun e w' => e = .returned (.agg #[.int .u64 ((a : Nat) : Int), .int .u64 ((b : Nat) : Int)]) ∧ Kp w w' := by
  have h1 := Fq.fb64 a
  have h2 := Fq.fb64 b
  generalize (a : Int) = X at h1 ⊢
  generalize (b : Int) = Y at h2 ⊢
  go_enter Try.func4, Try.ntmps4
  go_wp2
  go_region_held3 (fun w' => w'.cell? ⟨w.heap.size, 0, none⟩ = some (.float .f64 a) ∧ w'.cell? ⟨w.heap.size, 1, none⟩ = some (.float .f64 b)) (simp [go_sem, World.cell?_alloc_past]) (fail)
  go_wp2
  exact bodyPost_ret (v := .agg #[.int .u64 X, .int .u64 Y]) (by simp [results, Try.results4, go_sem]) rfl ⟨rfl, (by repeat (with_reducible (first | assumption | exact Kp.refl _ | apply Kp.drew | apply Kp.alloc | apply Kp.drewN | (refine Kp.setCell ?_ (by first | omega | (simp <;> omega)) _) | (refine Kp.trans ?_ (by assumption)))))⟩
theorem rempty9_ (w : World) : Calls Try.prog 17 #[] w fun e w' => e = .returned (.agg #[.int .u64 9218868437227405312, .int .u64 18442240474082181120]) ∧ Kp w w' := by
  refine (Fq.rempty_ w).mono ?_
  rintro e w' ⟨rfl, rfl⟩
  exact ⟨rfl, (Kp.refl w).alloc _⟩
set_option linter.unusedVariables false
set_option maxRecDepth 20000 in
set_option maxHeartbeats 400000 in
theorem stepC0_ (a b X Y : Nat) (w : World) (h : ∀ W : World, Kp w W → Calls Try.prog 9 #[.agg #[.float .f64 a, .float .f64 b]] W fun e w' => e = .returned (.agg #[.float .f64 X, .float .f64 Y]) ∧ Kp W w') : Calls Try.prog 5 #[.int .i64 0, .agg #[.float .f64 a, .float .f64 b]] w fun e w' => e = .returned (.agg #[.float .f64 X, .float .f64 Y]) ∧ Kp w w' := by
  have kv : Kp w ((w.alloc (.cells #[.float .f64 a, .float .f64 b] 28)).alloc (.cells #[.float .f64 0, .float .f64 0] 28)) := ((Kp.refl w).alloc _).alloc _
  have qy := Fq.H2.two0 w (.float .f64 a) (.float .f64 b) (.float .f64 0) (.float .f64 0) 28 28
  go_enter Try.func5, Try.ntmps5
  go_wp2_with (first | (go_at_call 9; refine (h _ kv).mono ?_; rintro e w3 ⟨rfl, g3⟩; have k3 : Kp w w3 := Kp.trans kv g3; obtain ⟨z0, z1, z2, z3⟩ := Fq.H2.keep qy g3))
  exact bodyPost_ret (v := .agg #[.float .f64 X, .float .f64 Y]) (by simp [results, Try.results5, go_sem, z0, z1]) rfl ⟨rfl, (k3.setCell (by simp) _).setCell (by simp) _⟩
set_option maxRecDepth 20000 in
set_option maxHeartbeats 400000 in
theorem stepC1_ (a b X Y : Nat) (w : World) (h : ∀ W : World, Kp w W → Calls Try.prog 10 #[.agg #[.float .f64 a, .float .f64 b]] W fun e w' => e = .returned (.agg #[.float .f64 X, .float .f64 Y]) ∧ Kp W w') : Calls Try.prog 5 #[.int .i64 1, .agg #[.float .f64 a, .float .f64 b]] w fun e w' => e = .returned (.agg #[.float .f64 X, .float .f64 Y]) ∧ Kp w w' := by
  have kv : Kp w ((w.alloc (.cells #[.float .f64 a, .float .f64 b] 28)).alloc (.cells #[.float .f64 0, .float .f64 0] 28)) := ((Kp.refl w).alloc _).alloc _
  have qy := Fq.H2.two0 w (.float .f64 a) (.float .f64 b) (.float .f64 0) (.float .f64 0) 28 28
  go_enter Try.func5, Try.ntmps5
  go_wp2_with (first | (go_at_call 10; refine (h _ kv).mono ?_; rintro e w3 ⟨rfl, g3⟩; have k3 : Kp w w3 := Kp.trans kv g3; obtain ⟨z0, z1, z2, z3⟩ := Fq.H2.keep qy g3))
  exact bodyPost_ret (v := .agg #[.float .f64 X, .float .f64 Y]) (by simp [results, Try.results5, go_sem, z0, z1]) rfl ⟨rfl, (k3.setCell (by simp) _).setCell (by simp) _⟩
set_option maxRecDepth 20000 in
set_option maxHeartbeats 400000 in
theorem stepC2_ (a b X Y : Nat) (w : World) (h : ∀ W : World, Kp w W → Calls Try.prog 11 #[.agg #[.float .f64 a, .float .f64 b]] W fun e w' => e = .returned (.agg #[.float .f64 X, .float .f64 Y]) ∧ Kp W w') : Calls Try.prog 5 #[.int .i64 2, .agg #[.float .f64 a, .float .f64 b]] w fun e w' => e = .returned (.agg #[.float .f64 X, .float .f64 Y]) ∧ Kp w w' := by
  have kv : Kp w ((w.alloc (.cells #[.float .f64 a, .float .f64 b] 28)).alloc (.cells #[.float .f64 0, .float .f64 0] 28)) := ((Kp.refl w).alloc _).alloc _
  have qy := Fq.H2.two0 w (.float .f64 a) (.float .f64 b) (.float .f64 0) (.float .f64 0) 28 28
  go_enter Try.func5, Try.ntmps5
  go_wp2_with (first | (go_at_call 11; refine (h _ kv).mono ?_; rintro e w3 ⟨rfl, g3⟩; have k3 : Kp w w3 := Kp.trans kv g3; obtain ⟨z0, z1, z2, z3⟩ := Fq.H2.keep qy g3))
  exact bodyPost_ret (v := .agg #[.float .f64 X, .float .f64 Y]) (by simp [results, Try.results5, go_sem, z0, z1]) rfl ⟨rfl, (k3.setCell (by simp) _).setCell (by simp) _⟩
set_option maxRecDepth 20000 in
set_option maxHeartbeats 400000 in
theorem stepC3_ (a b X Y : Nat) (w : World) (h : ∀ W : World, Kp w W → Calls Try.prog 12 #[.agg #[.float .f64 a, .float .f64 b]] W fun e w' => e = .returned (.agg #[.float .f64 X, .float .f64 Y]) ∧ Kp W w') : Calls Try.prog 5 #[.int .i64 3, .agg #[.float .f64 a, .float .f64 b]] w fun e w' => e = .returned (.agg #[.float .f64 X, .float .f64 Y]) ∧ Kp w w' := by
  have kv : Kp w ((w.alloc (.cells #[.float .f64 a, .float .f64 b] 28)).alloc (.cells #[.float .f64 0, .float .f64 0] 28)) := ((Kp.refl w).alloc _).alloc _
  have qy := Fq.H2.two0 w (.float .f64 a) (.float .f64 b) (.float .f64 0) (.float .f64 0) 28 28
  go_enter Try.func5, Try.ntmps5
  go_wp2_with (first | (go_at_call 12; refine (h _ kv).mono ?_; rintro e w3 ⟨rfl, g3⟩; have k3 : Kp w w3 := Kp.trans kv g3; obtain ⟨z0, z1, z2, z3⟩ := Fq.H2.keep qy g3))
  exact bodyPost_ret (v := .agg #[.float .f64 X, .float .f64 Y]) (by simp [results, Try.results5, go_sem, z0, z1]) rfl ⟨rfl, (k3.setCell (by simp) _).setCell (by simp) _⟩
set_option maxRecDepth 20000 in
set_option maxHeartbeats 400000 in
theorem stepC4_ (a b X Y : Nat) (w : World) (h : ∀ W : World, Kp w W → Calls Try.prog 13 #[.agg #[.float .f64 a, .float .f64 b]] W fun e w' => e = .returned (.agg #[.float .f64 X, .float .f64 Y]) ∧ Kp W w') : Calls Try.prog 5 #[.int .i64 4, .agg #[.float .f64 a, .float .f64 b]] w fun e w' => e = .returned (.agg #[.float .f64 X, .float .f64 Y]) ∧ Kp w w' := by
  have kv : Kp w ((w.alloc (.cells #[.float .f64 a, .float .f64 b] 28)).alloc (.cells #[.float .f64 0, .float .f64 0] 28)) := ((Kp.refl w).alloc _).alloc _
  have qy := Fq.H2.two0 w (.float .f64 a) (.float .f64 b) (.float .f64 0) (.float .f64 0) 28 28
  go_enter Try.func5, Try.ntmps5
  go_wp2_with (first | (go_at_call 13; refine (h _ kv).mono ?_; rintro e w3 ⟨rfl, g3⟩; have k3 : Kp w w3 := Kp.trans kv g3; obtain ⟨z0, z1, z2, z3⟩ := Fq.H2.keep qy g3))
  exact bodyPost_ret (v := .agg #[.float .f64 X, .float .f64 Y]) (by simp [results, Try.results5, go_sem, z0, z1]) rfl ⟨rfl, (k3.setCell (by simp) _).setCell (by simp) _⟩
set_option maxRecDepth 20000 in
set_option maxHeartbeats 400000 in
theorem stepC5_ (a b X Y : Nat) (w : World) (h : ∀ W : World, Kp w W → Calls Try.prog 14 #[.agg #[.float .f64 a, .float .f64 b]] W fun e w' => e = .returned (.agg #[.float .f64 X, .float .f64 Y]) ∧ Kp W w') : Calls Try.prog 5 #[.int .i64 5, .agg #[.float .f64 a, .float .f64 b]] w fun e w' => e = .returned (.agg #[.float .f64 X, .float .f64 Y]) ∧ Kp w w' := by
  have kv : Kp w ((w.alloc (.cells #[.float .f64 a, .float .f64 b] 28)).alloc (.cells #[.float .f64 0, .float .f64 0] 28)) := ((Kp.refl w).alloc _).alloc _
  have qy := Fq.H2.two0 w (.float .f64 a) (.float .f64 b) (.float .f64 0) (.float .f64 0) 28 28
  go_enter Try.func5, Try.ntmps5
  go_wp2_with (first | (go_at_call 14; refine (h _ kv).mono ?_; rintro e w3 ⟨rfl, g3⟩; have k3 : Kp w w3 := Kp.trans kv g3; obtain ⟨z0, z1, z2, z3⟩ := Fq.H2.keep qy g3))
  exact bodyPost_ret (v := .agg #[.float .f64 X, .float .f64 Y]) (by simp [results, Try.results5, go_sem, z0, z1]) rfl ⟨rfl, (k3.setCell (by simp) _).setCell (by simp) _⟩
theorem step9_ (K : Nat) (hK : K = 1074) (k : Nat) (hk : k < 6) (a b : Nat) (L H : Int) (hx : Rd a b L H) (w : World) : Calls Try.prog 5 #[.int .i64 (k : Int), .agg #[.float .f64 a, .float .f64 b]] w fun e w' => e = .returned (.agg #[.float .f64 (pw (gLo K k L H)), .float .f64 (pw (gHi K k L H))]) ∧ Kp w w' := by
  by_cases c0 : k = 0
  · subst c0; exact stepC0_ a b _ _ w (fun W _ => stepB0_ K hK a b L H hx W)
  by_cases c1 : k = 1
  · subst c1; exact stepC1_ a b _ _ w (fun W _ => stepB1_ K hK a b L H hx W)
  by_cases c2 : k = 2
  · subst c2; exact stepC2_ a b _ _ w (fun W _ => stepB2_ K hK a b L H hx W)
  by_cases c3 : k = 3
  · subst c3; exact stepC3_ a b _ _ w (fun W _ => stepB3_ K hK a b L H hx W)
  by_cases c4 : k = 4
  · subst c4; exact stepC4_ a b _ _ w (fun W _ => stepB4_ K hK a b L H hx W)
  by_cases c5 : k = 5
  · subst c5; exact stepC5_ a b _ _ w (fun W _ => stepB5_ K hK a b L H hx W)
  omega
set_option linter.unusedVariables false
set_option maxRecDepth 20000 in
set_option maxHeartbeats 1000000 in
theorem intMX_ (w : World) : Calls Try.prog 43 #[.int .i64 (-1)] w fun e w' => ∃ (s : Bool) (p : Option Addr) (l c : Nat) (q : Option Addr) (k d : Nat), e = .returned (.agg #[.bool s, .slice p l c, .slice q k d]) ∧ XP w.heap.size w' s p l c q k d (-1) 1 1500 ∧ Kp w w' := by
  obtain ⟨B, hB⟩ : ∃ B, B = w.heap.size := ⟨_, rfl⟩
  obtain ⟨w0, hw0⟩ : ∃ w0, w0 = w.alloc (.cells #[.bool false, .slice none 0 0, .slice none 0 0] 38) := ⟨_, rfl⟩
  have kw : Kp w w0 := by rw [hw0]; exact (Kp.refl w).alloc _
  have r0 : w0.cell? ⟨B, 0, none⟩ = some (.bool false) := by rw [hw0, hB]; simp [go_sem]
  have r1 : w0.cell? ⟨B, 1, none⟩ = some (.slice none 0 0) := by rw [hw0, hB]; simp [go_sem]
  have r2 : w0.cell? ⟨B, 2, none⟩ = some (.slice none 0 0) := by rw [hw0, hB]; simp [go_sem]
  have f0 : w0.frozen? ⟨B, 0, none⟩ = false := by rw [hw0, hB]; simp [go_sem]
  have f1 : w0.frozen? ⟨B, 1, none⟩ = false := by rw [hw0, hB]; simp [go_sem]
  have f2 : w0.frozen? ⟨B, 2, none⟩ = false := by rw [hw0, hB]; simp [go_sem]
  have hlt := cell_lt r0
  have hs := rsmall_ 1 (by decide) w0
  have HW : Hid (w0 = w.alloc (.cells #[.bool false, .slice none 0 0, .slice none 0 0] 38) ∧ B = w.heap.size ∧ Kp w w0) := ⟨hw0, hB, kw⟩
  clear hw0 hB kw
  go_enter Try.func43, Try.ntmps43
  go_wp2_with fail
  rw [← HW.out.2.1]
  try rw [← HW.out.1]
  refine hs.mono ?_; rintro e w1 ⟨v, rfl, ho, k1⟩
  obtain ⟨pv, cv, rfl, hav, hcv⟩ := ho.arr
  obtain ⟨L, hL⟩ : ∃ L, L = (dig 1).length := ⟨_, rfl⟩
  rw [← hL]
  obtain ⟨g4, hg4⟩ : ∃ g4, g4 = w1.heap.size := ⟨_, rfl⟩
  obtain ⟨w4, hw4⟩ : ∃ w4, w4 = w1.alloc (.cells #[.int .u32 1] 67) := ⟨_, rfl⟩
  have k4 : Kp w1 w4 := by rw [hw4]; exact (Kp.refl _).alloc _
  have ar4 : Arr w4 (some ⟨g4, 0, none⟩) (dig 1) := by
    have h := (row1 w1 1).all rfl
    rw [← hw4, ← hg4] at h
    rw [dig_one6]
    exact h
  have h := frac_ true (.slice pv (dig 1).length cv) (.slice (some ⟨g4, 0, none⟩) (dig 1).length 1) (dig 1) (dig 1) 0 w4 ⟨pv, cv, rfl, hav.grown k4, hcv⟩ ⟨some ⟨g4, 0, none⟩, 1, rfl, ar4, by rw [dig_one6]; decide⟩ (Wd_dig _) (Wd_dig _) (by rw [dig_one6]; decide) (by rw [dig_one6]; decide) (by rw [val_dig]; decide) (by decide)
  simp only [val_dig] at h
  rw [show (dig 1).length = 1 from by rw [dig_one6]; rfl] at h
  have hL1 : L = 1 := by rw [hL, dig_one6]; rfl
  subst hL1
  have k04 := k1.trans k4
  have HG : Hid (g4 = w1.heap.size ∧ w4 = w1.alloc (.cells #[.int .u32 1] 67)) := ⟨hg4, hw4⟩
  replace r0 := kkeep k04 r0
  replace r1 := kkeep k04 r1
  replace r2 := kkeep k04 r2
  replace f0 := (kfro k04 hlt).trans f0
  replace f1 := (kfro k04 hlt).trans f1
  replace f2 := (kfro k04 hlt).trans f2
  have HK : Hid (Kp w0 w4 ∧ B < w0.heap.size) := ⟨k04, hlt⟩
  have hlt4 := cell_lt r0
  clear hs ho hav hcv hL hg4 hw4 k4 ar4 k1 k04 hlt
  go_wp2_with fail
  rw [← HG.out.1, ← HG.out.2]
  refine h.mono ?_; rintro e w5 ⟨vn, vd, a', b', ng, rfl, o1, o2, ff, k5⟩
  obtain ⟨pn, cn, rfl, an, ln⟩ := o1.arr
  obtain ⟨pd, cd, rfl, ad, ld⟩ := o2.arr
  replace r0 := kkeep k5 r0
  replace r1 := kkeep k5 r1
  replace r2 := kkeep k5 r2
  replace f0 := (kfro k5 hlt4).trans f0
  replace f1 := (kfro k5 hlt4).trans f1
  replace f2 := (kfro k5 hlt4).trans f2
  have hp : XP w4.heap.size w5 ng pn (dig a').length cn pd (dig b').length cd (-1) 1 1500 := by
    have e := frac_x 1 1 a' b' ng true (by decide) ff.1 (fun h => ff.2 h)
    have b1 := ff.1.2.2.2.1
    have b2 := ff.1.2.2.2.2
    have h2 : blen 1 = 1 := blen_uniq 1 0 (by decide) (by decide)
    refine ⟨a', b', o1, o2, ff.1.1, by decide, ?_, by simp at b1; omega, by simp at b2; omega⟩
    simpa [rvI] using e
  have hq := (((hp.set (x := ⟨B, 0, none⟩) hlt4 (.bool ng)).set (x := ⟨B, 1, none⟩) hlt4 (.slice pn (dig a').length cn)).set (x := ⟨B, 2, none⟩) hlt4 (.slice pd (dig b').length cd)).mono (base' := w.heap.size) (by have h1 := Below.size HW.out.2.2; have h2 := Below.size HK.out.1; omega)
  have hkw : Kp w (((w5.setCell ⟨B, 0, none⟩ (.bool ng)).setCell ⟨B, 1, none⟩ (.slice pn (dig a').length cn)).setCell ⟨B, 2, none⟩ (.slice pd (dig b').length cd)) := by
    have hB := HW.out.2.1
    exact ((((HW.out.2.2.trans HK.out.1).trans k5).setCell (by rw [hB]; exact Nat.le_refl _) _).setCell (by rw [hB]; exact Nat.le_refl _) _).setCell (by rw [hB]; exact Nat.le_refl _) _
  generalize (dig a').length = La at hq hkw ⊢
  generalize (dig b').length = Lb at hq hkw ⊢
  have HO : Hid (_ ∧ _) := ⟨hq, hkw⟩
  clear h hp hq hkw o1 o2 ff k5 an ln ad ld hlt4 HG
  go_wp2
  exact bodyPost_ret (v := .agg #[.bool ng, .slice pn La cn, .slice pd Lb cd]) (by simp [results, Try.results43, go_sem, r0, r1, r2]) rfl ⟨ng, pn, La, cn, pd, Lb, cd, rfl, HO.out.1, HO.out.2⟩
set_option linter.unusedVariables false

theorem iv_ff : Iv false 0 = 0 := by unfold Iv; rw [Fq.vV_zero]; rfl
theorem RP.x0 {base : Nat} {w : World} {s : Bool} {p : Option Addr} {l c : Nat} {q : Option Addr} {k d : Nat} (h : RP base w s p l c q k d false 0) : XP base w s p l c q k d 0 1 1500 :=
  (h.xp 1074 rfl).as 0 1 1500 (by decide) (by rw [iv_ff, Int.zero_mul, Int.zero_mul]) (Nat.le_refl _)

theorem intX_ (z : Int) (hz : z = -1 ∨ z = 0 ∨ z = 1) (w : World) : Calls Try.prog 43 #[.int .i64 z] w fun e w' => ∃ (s : Bool) (p : Option Addr) (l c : Nat) (q : Option Addr) (k d : Nat), e = .returned (.agg #[.bool s, .slice p l c, .slice q k d]) ∧ XP w.heap.size w' s p l c q k d z 1 1500 ∧ Kp w w' := by
  rcases hz with rfl | rfl | rfl
  · exact intMX_ w
  · refine (int0_ w).mono ?_
    rintro e w' ⟨s, p, l, c, q, k, d, rfl, h, g⟩
    exact ⟨s, p, l, c, q, k, d, rfl, h.x0, g⟩
  · exact int1X_ w
set_option linter.unusedVariables false

theorem sgV_st (C : Nat) (V : Int) : stV 0 C V = sgV V * (C : Int) := by
  unfold stV sgV
  rw [if_pos rfl]
  by_cases a : V < 0
  · rw [if_pos a, if_pos a]; simp
  · rw [if_neg a, if_neg a]
    by_cases b : V = 0
    · rw [if_pos b, if_pos b]; simp
    · rw [if_neg b, if_neg b]; simp
theorem sgV_3 (V : Int) : sgV V = -1 ∨ sgV V = 0 ∨ sgV V = 1 := by
  unfold sgV; split
  · exact Or.inl rfl
  · split
    · exact Or.inr (Or.inl rfl)
    · exact Or.inr (Or.inr rfl)
theorem stX0_ (V : Int) (C N : Nat) (hN : N ≤ 15000) (s : Bool) (p : Option Addr) (l c : Nat) (q : Option Addr) (k d : Nat) (B1 : Nat) (w : World) (h : XP B1 w s p l c q k d V C N) : Calls Try.prog 32 #[.int .i64 0, .agg #[.bool s, .slice p l c, .slice q k d]] w fun e w' => ∃ (s3 : Bool) (p3 : Option Addr) (l3 c3 : Nat) (q3 : Option Addr) (k3 d3 : Nat), e = .returned (.agg #[.bool s3, .slice p3 l3 c3, .slice q3 k3 d3]) ∧ XP w.heap.size w' s3 p3 l3 c3 q3 k3 d3 (stV 0 C V) C (5 * N + 4000) ∧ Kp w w' := by
  have hc : C ≠ 0 := by obtain ⟨a, b, -, -, hx⟩ := h; exact hx.2.1
  refine (stA0_ (sgV V) s p l c q k d (fun W w' s3 p3 l3 c3 q3 k3 d3 => XP W.heap.size w' s3 p3 l3 c3 q3 k3 d3 (stV 0 C V) C (5 * N + 4000)) w (fun W g => xsign_ V C N (by omega) s p l c q k d B1 W (h.kp g)) (fun W g => ?_)).mono ?_
  · refine (intX_ (sgV V) (sgV_3 V) W).mono ?_
    rintro e w' ⟨s3, p3, l3, c3, q3, k3, d3, rfl, hp, g1⟩
    exact ⟨s3, p3, l3, c3, q3, k3, d3, rfl, hp.as _ C _ hc (by rw [sgV_st]; simp) (by omega), g1⟩
  · rintro e w' ⟨W, wh, s3, p3, l3, c3, q3, k3, d3, rfl, hq, rfl, hlt, g⟩
    exact ⟨s3, p3, l3, c3, q3, k3, d3, rfl, XP.mono ((((hq).set (x := ⟨w.heap.size + 1, 0, none⟩) hlt (.bool s3)).set (x := ⟨w.heap.size + 1, 1, none⟩) hlt (.slice p3 l3 c3)).set (x := ⟨w.heap.size + 1, 2, none⟩) hlt (.slice q3 k3 d3)) (by omega), (((g).setCell (by simp) _).setCell (by simp) _).setCell (by simp) _⟩
theorem stXk_ (kd : Nat) (hk : kd < 6) (V : Int) (C N : Nat) (hN : N ≤ 15000) (s : Bool) (p : Option Addr) (l c : Nat) (q : Option Addr) (k d : Nat) (B1 : Nat) (w : World) (h : XP B1 w s p l c q k d V C N) : Calls Try.prog 32 #[.int .i64 (kd : Int), .agg #[.bool s, .slice p l c, .slice q k d]] w fun e w' => ∃ (s3 : Bool) (p3 : Option Addr) (l3 c3 : Nat) (q3 : Option Addr) (k3 d3 : Nat), e = .returned (.agg #[.bool s3, .slice p3 l3 c3, .slice q3 k3 d3]) ∧ XP w.heap.size w' s3 p3 l3 c3 q3 k3 d3 (stV kd C V) C (5 * N + 4000) ∧ Kp w w' := by
  have hc : C ≠ 0 := by obtain ⟨a, b, -, -, hx⟩ := h; exact hx.2.1
  by_cases c0 : kd = 0
  · subst c0; exact stX0_ V C N hN s p l c q k d B1 w h
  by_cases c1 : kd = 1
  · subst c1
    refine (stX1_ V C N (by omega) s p l c q k d B1 w h).mono ?_
    rintro e w' ⟨s3, p3, l3, c3, q3, k3, d3, rfl, hp, g1⟩
    exact ⟨s3, p3, l3, c3, q3, k3, d3, rfl, hp.as _ C _ hc rfl (by omega), g1⟩
  by_cases c2 : kd = 2
  · subst c2
    refine (stX2_ V C N (by omega) s p l c q k d B1 w h).mono ?_
    rintro e w' ⟨s3, p3, l3, c3, q3, k3, d3, rfl, hp, g1⟩
    exact ⟨s3, p3, l3, c3, q3, k3, d3, rfl, hp.as _ C _ hc rfl (by omega), g1⟩
  by_cases c3 : kd = 3
  · subst c3
    refine (stX3_ V C N (by omega) s p l c q k d B1 w h).mono ?_
    rintro e w' ⟨s3, p3, l3, c3, q3, k3, d3, rfl, hp, g1⟩
    exact ⟨s3, p3, l3, c3, q3, k3, d3, rfl, hp.as _ C _ hc rfl (by omega), g1⟩
  by_cases c4 : kd = 4
  · subst c4; exact stX4_ V C N hN s p l c q k d B1 w h
  by_cases c5 : kd = 5
  · subst c5; exact stX5_ V C N hN s p l c q k d B1 w h
  omega
end Go.Proofs.Ytbbmoaiilnfmgaa
