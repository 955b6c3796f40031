import Derived.Test.YtbbmoaiilnfmgaaKIMa
import Derived.Test.YtbbmoaiilnfmgaaKTQx
namespace Go.Proofs.Ytbbmoaiilnfmgaa
open Go.RowKit
set_option linter.unusedVariables false
set_option maxRecDepth 20000 in
set_option maxHeartbeats 1000000 in
theorem flA_ (s : Bool) (p : Option Addr) (l c : Nat) (q : Option Addr) (k d : Nat) (QP : World → Bool → Option Addr → Nat → Nat → Prop) (QS : World → World → Bool → Option Addr → Nat → Nat → Option Addr → Nat → Nat → Prop) (w : World) (hfl : ∀ W : World, Kp w W → Calls Try.prog 74 #[.agg #[.bool s, .slice p l c, .slice q k d]] W fun e w' => ∃ (ng : Bool) (p1 : Option Addr) (l1 c1 : Nat), e = .returned (.tuple #[.bool ng, .slice p1 l1 c1]) ∧ QP w' ng p1 l1 c1 ∧ Kp W w') (hfr : ∀ (W : World) (ng : Bool) (p1 : Option Addr) (l1 c1 : Nat), QP W ng p1 l1 c1 → Calls Try.prog 51 #[.bool ng, .slice p1 l1 c1, .slice (some ⟨W.heap.size, 0, none⟩) 1 1, .int .i64 0] (W.alloc (.cells #[.int .u32 1] 67)) fun e w' => ∃ (s3 : Bool) (p3 : Option Addr) (l3 c3 : Nat) (q3 : Option Addr) (k3 d3 : Nat), e = .returned (.agg #[.bool s3, .slice p3 l3 c3, .slice q3 k3 d3]) ∧ QS W w' s3 p3 l3 c3 q3 k3 d3 ∧ Kp W w') : Calls Try.prog 47 #[.agg #[.bool s, .slice p l c, .slice q k d]] w fun e w' => ∃ (W wh : World) (s3 : Bool) (p3 : Option Addr) (l3 c3 : Nat) (q3 : Option Addr) (k3 d3 : Nat), e = .returned (.agg #[.bool s3, .slice p3 l3 c3, .slice q3 k3 d3]) ∧ QS W wh s3 p3 l3 c3 q3 k3 d3 ∧ w' = (((wh.setCell ⟨w.heap.size + 1, 0, none⟩ (.bool s3)).setCell ⟨w.heap.size + 1, 1, none⟩ (.slice p3 l3 c3)).setCell ⟨w.heap.size + 1, 2, none⟩ (.slice q3 k3 d3)) ∧ w.heap.size + 1 < W.heap.size ∧ Kp w wh := by
  have q00 := H3c.new w (.bool s) (.slice p l c) (.slice q k d) 38
  have q0 := H3c.keep q00 ((Kp.refl _).alloc (.cells #[.bool false, .slice none 0 0, .slice none 0 0] 38))
  have t0 := H3c.new (w.alloc (.cells #[.bool s, .slice p l c, .slice q k d] 38)) (.bool false) (.slice none 0 0) (.slice none 0 0) 38
  rw [show (w.alloc (.cells #[.bool s, .slice p l c, .slice q k d] 38)).heap.size = w.heap.size + 1 by simp] at t0
  have kw : Kp w ((w.alloc (.cells #[.bool s, .slice p l c, .slice q k d] 38)).alloc (.cells #[.bool false, .slice none 0 0, .slice none 0 0] 38)) := ((Kp.refl w).alloc _).alloc _
  obtain ⟨x0, x1, x2, x3, x4, x5⟩ := id q0
  obtain ⟨y0, y1, y2, y3, y4, y5⟩ := id t0
  have hB := H3c.lt t0
  go_enter Try.func47, Try.ntmps47
  go_wp2_with (first | (go_at_call 74; refine (hfl _ kw).mono ?_; rintro e w1 ⟨ng, p1, l1, c1, rfl, h1, g1⟩; have k1 := Kp.trans kw g1; have q1 := H3c.keep q0 g1; have t1 := H3c.keep t0 g1; clear x0 x1 x2 x3 x4 x5 y0 y1 y2 y3 y4 y5; obtain ⟨x0, x1, x2, x3, x4, x5⟩ := id q1; obtain ⟨y0, y1, y2, y3, y4, y5⟩ := id t1) | (go_at_call 51; refine (hfr _ ng p1 l1 c1 h1).mono ?_; rintro e w2 ⟨s3, p3, l3, c3, q3, k3, d3, rfl, h3, g2⟩; have k2 := Kp.trans k1 g2; have q2 := H3c.keep q1 g2; have t2 := H3c.keep t1 g2; clear x0 x1 x2 x3 x4 x5 y0 y1 y2 y3 y4 y5; obtain ⟨x0, x1, x2, x3, x4, x5⟩ := id q2; obtain ⟨y0, y1, y2, y3, y4, y5⟩ := id t2))
  have z1 : w.heap.size + 1 < w1.heap.size := H3c.lt t1
  exact bodyPost_ret (v := .agg #[.bool s3, .slice p3 l3 c3, .slice q3 k3 d3]) (by simp [results, Try.results47, go_sem, y0, y1, y2]) rfl ⟨w1, w2, s3, p3, l3, c3, q3, k3, d3, rfl, h3, rfl, z1, k2⟩

def FP (base : Nat) (w : World) (s : Bool) (p : Option Addr) (l c : Nat) (q : Option Addr) (k d : Nat) (V : Int) (N : Nat) : Prop := ∃ a, Own w base (.slice p l c) (dig a) ∧ Own w base (.slice q k d) (dig 1) ∧ rvI s a = V ∧ blen a ≤ N
theorem FP.kp {base : Nat} {w : World} {s : Bool} {p : Option Addr} {l c : Nat} {q : Option Addr} {k d : Nat} {V : Int} {N : Nat} {w' : World} (h : FP base w s p l c q k d V N) (g : Kp w w') : FP base w' s p l c q k d V N := by
  obtain ⟨a, h1, h2, h3⟩ := h
  exact ⟨a, h1.kp g, h2.kp g, h3⟩
theorem FP.mono {base : Nat} {w : World} {s : Bool} {p : Option Addr} {l c : Nat} {q : Option Addr} {k d : Nat} {V : Int} {N : Nat} {base' : Nat} (h : FP base w s p l c q k d V N) (g : base' ≤ base) : FP base' w s p l c q k d V N := by
  obtain ⟨a, h1, h2, h3⟩ := h
  exact ⟨a, h1.mono g, h2.mono g, h3⟩
theorem FP.set {base : Nat} {w : World} {s : Bool} {p : Option Addr} {l c : Nat} {q : Option Addr} {k d : Nat} {V : Int} {N : Nat} (h : FP base w s p l c q k d V N) {x : Addr} (hx : x.block < base) (u : Value) : FP base (w.setCell x u) s p l c q k d V N := by
  obtain ⟨a, h1, h2, h3⟩ := h
  exact ⟨a, h1.setOther hx u, h2.setOther hx u, h3⟩
theorem FP.xp {base : Nat} {w : World} {s : Bool} {p : Option Addr} {l c : Nat} {q : Option Addr} {k d : Nat} {V : Int} {N : Nat} (h : FP base w s p l c q k d V N) : XP base w s p l c q k d V 1 (N + 1) := by
  obtain ⟨a, h1, h2, h3, h4⟩ := h
  have h5 : blen 1 = 1 := blen_uniq 1 0 (by decide) (by decide)
  exact ⟨a, 1, h1, h2, by decide, by decide, by rw [h3], by omega, by omega⟩
theorem fracX_whole (a a' b' : Nat) (h : FracX a 1 0 a' b') : a' = a ∧ b' = 1 := by
  obtain ⟨h1, h2, h3⟩ := h
  by_cases z : a = 0
  · exact ⟨by rw [(h2 z).1, z], (h2 z).2⟩
  · obtain ⟨a1, b1, ka, kb, x, y, o1, o2, e1, e2, e3, e4, e5, e6⟩ := h3 z
    have p1 := Nat.eq_one_of_mul_eq_one_left e2.symm
    have p2 := Nat.eq_one_of_mul_eq_one_right e2.symm
    have kb0 : kb = 0 := by
      rcases Nat.eq_zero_or_pos kb with c | c
      · exact c
      · have : 2 ^ 1 ≤ 2 ^ kb := Nat.pow_le_pow_right (by decide) c
        omega
    have y0 : y = 0 := by omega
    have x0 : x = ka := by omega
    have b10 : b1 = 1 := by rw [kb0] at e2; simp at e2; omega
    exact ⟨by rw [e3, x0, ← e1], by rw [e4, y0, b10]⟩
theorem floorX_ (V : Int) (C N : Nat) (hN : N ≤ 200000) (s : Bool) (p : Option Addr) (l c : Nat) (q : Option Addr) (k d : Nat) (B1 : Nat) (w : World) (h : XP B1 w s p l c q k d V C N) : Calls Try.prog 47 #[.agg #[.bool s, .slice p l c, .slice q k d]] w fun e w' => ∃ (s3 : Bool) (p3 : Option Addr) (l3 c3 : Nat) (q3 : Option Addr) (k3 d3 : Nat), e = .returned (.agg #[.bool s3, .slice p3 l3 c3, .slice q3 k3 d3]) ∧ FP w.heap.size w' s3 p3 l3 c3 q3 k3 d3 (V / (C : Int)) (N + 1) ∧ Kp w w' := by
  obtain ⟨a, b, o1, o2, hx⟩ := h
  have hx' := hx
  obtain ⟨zb, zc, i1, j1, j2⟩ := hx
  obtain ⟨M, hM⟩ : ∃ M, M = flN s a b := ⟨_, rfl⟩
  have bM : blen M ≤ N + 1 := by rw [hM]; exact flN_blen s a b N j1
  have eM : rvI s M = V / (C : Int) := by rw [hM]; exact flN_x s a b V C N hx'
  have lM := dlen M 32768 (by omega)
  have L1 : (dig 1).length = 1 := by rw [dig_one6]; rfl
  refine (flA_ s p l c q k d (fun w' ng p1 l1 c1 => Ls w' (.slice p1 l1 c1) (dig M) ∧ (M ≠ 0 → ng = s)) (fun W w' s3 p3 l3 c3 q3 k3 d3 => FP W.heap.size w' s3 p3 l3 c3 q3 k3 d3 (V / (C : Int)) (N + 1)) w (fun W g => ?_) (fun W ng p1 l1 c1 hq => ?_)).mono ?_
  · refine (rfloorX_ s p l c q k d a b B1 B1 N W (o1.kp g) (o2.kp g) zb j1 j2 hN).mono ?_
    rintro e w' ⟨ng, v, rfl, z1, z2, g1⟩
    rw [← hM] at z1 z2
    obtain ⟨p1, c1, rfl, z3, z4⟩ := z1
    exact ⟨ng, p1, _, c1, rfl, ⟨⟨p1, c1, rfl, z3, z4⟩, z2⟩, g1⟩
  · obtain ⟨z1, z2⟩ := hq
    have kW : Kp W (W.alloc (.cells #[.int .u32 1] 67)) := (Kp.refl W).alloc _
    have ar : Ls (W.alloc (.cells #[.int .u32 1] 67)) (.slice (some ⟨W.heap.size, 0, none⟩) 1 1) (dig 1) := by
      rw [dig_one6]; exact ⟨_, 1, rfl, (row1 W 1).all rfl, by decide⟩
    have h := fracX_ ng (.slice p1 l1 c1) (.slice (some ⟨W.heap.size, 0, none⟩) 1 1) (dig M) (dig 1) 0 _ (z1.kp kW) ar (Wd_dig _) (Wd_dig _) lM (by rw [L1]; decide) (by rw [val_dig]; decide) (by decide)
    rw [val_dig, val_dig] at h
    refine h.mono ?_
    rintro e w5 ⟨vn, vd, a', b', ng', rfl, u1, u2, ff, k5⟩
    obtain ⟨rfl, rfl⟩ := fracX_whole _ _ _ ff.1
    obtain ⟨pn, cn, rfl, an, ln⟩ := u1.arr
    obtain ⟨pd, cd, rfl, ad, ld⟩ := u2.arr
    refine ⟨ng', pn, _, cn, pd, _, cd, rfl, ?_, Kp.trans kW k5⟩
    have hs := Below.size kW
    refine ⟨a', u1.mono hs, u2.mono hs, ?_, bM⟩
    rw [← eM]
    by_cases z : a' = 0
    · rw [z]; unfold rvI; simp
    · rw [ff.2 z, z2 z]
  · rintro e w' ⟨W, wh, s3, p3, l3, c3, q3, k3, d3, rfl, hq, rfl, hlt, g⟩
    exact ⟨s3, p3, l3, c3, q3, k3, d3, rfl, FP.mono ((((hq).set (x := ⟨w.heap.size + 1, 0, none⟩) hlt (.bool s3)).set (x := ⟨w.heap.size + 1, 1, none⟩) hlt (.slice p3 l3 c3)).set (x := ⟨w.heap.size + 1, 2, none⟩) hlt (.slice q3 k3 d3)) (by omega), (((g).setCell (by simp) _).setCell (by simp) _).setCell (by simp) _⟩
set_option linter.unusedVariables false
set_option maxRecDepth 20000 in
set_option maxHeartbeats 1000000 in
theorem stA0_ (sg : Int) (s : Bool) (p : Option Addr) (l c : Nat) (q : Option Addr) (k d : Nat) (QS : World → World → Bool → Option Addr → Nat → Nat → Option Addr → Nat → Nat → Prop) (w : World) (hs : ∀ W : World, Kp w W → Calls Try.prog 46 #[.agg #[.bool s, .slice p l c, .slice q k d]] W fun e w' => e = .returned (.int .i64 sg) ∧ Kp W w') (hi : ∀ W : World, Kp w W → Calls Try.prog 43 #[.int .i64 sg] W fun e w' => ∃ (s3 : Bool) (p3 : Option Addr) (l3 c3 : Nat) (q3 : Option Addr) (k3 d3 : Nat), e = .returned (.agg #[.bool s3, .slice p3 l3 c3, .slice q3 k3 d3]) ∧ QS W w' s3 p3 l3 c3 q3 k3 d3 ∧ Kp W w') : Calls Try.prog 32 #[.int .i64 0, .agg #[.bool s, .slice p l c, .slice q k d]] w fun e w' => ∃ (W wh : World) (s3 : Bool) (p3 : Option Addr) (l3 c3 : Nat) (q3 : Option Addr) (k3 d3 : Nat), e = .returned (.agg #[.bool s3, .slice p3 l3 c3, .slice q3 k3 d3]) ∧ QS W wh s3 p3 l3 c3 q3 k3 d3 ∧ w' = (((wh.setCell ⟨w.heap.size + 1, 0, none⟩ (.bool s3)).setCell ⟨w.heap.size + 1, 1, none⟩ (.slice p3 l3 c3)).setCell ⟨w.heap.size + 1, 2, none⟩ (.slice q3 k3 d3)) ∧ w.heap.size + 1 < W.heap.size ∧ Kp w wh := by
  have q00 := H3c.new w (.bool s) (.slice p l c) (.slice q k d) 38
  have q0 := H3c.keep q00 ((Kp.refl _).alloc (.cells #[.bool false, .slice none 0 0, .slice none 0 0] 38))
  have t0 := H3c.new (w.alloc (.cells #[.bool s, .slice p l c, .slice q k d] 38)) (.bool false) (.slice none 0 0) (.slice none 0 0) 38
  rw [show (w.alloc (.cells #[.bool s, .slice p l c, .slice q k d] 38)).heap.size = w.heap.size + 1 by simp] at t0
  have k0 : Kp w ((w.alloc (.cells #[.bool s, .slice p l c, .slice q k d] 38)).alloc (.cells #[.bool false, .slice none 0 0, .slice none 0 0] 38)) := ((Kp.refl w).alloc _).alloc _
  obtain ⟨x0, x1, x2, x3, x4, x5⟩ := id q0
  obtain ⟨y0, y1, y2, y3, y4, y5⟩ := id t0
  go_enter Try.func32, Try.ntmps32
  go_wp2_with (first | (go_at_call 46; refine (hs _ k0).mono ?_; rintro e w1 ⟨rfl, g1⟩; have k1 := Kp.trans k0 g1; have q1 := H3c.keep q0 g1; have t1 := H3c.keep t0 g1; clear x0 x1 x2 x3 x4 x5 y0 y1 y2 y3 y4 y5; obtain ⟨x0, x1, x2, x3, x4, x5⟩ := id q1; obtain ⟨y0, y1, y2, y3, y4, y5⟩ := id t1) | (go_at_call 43; refine (hi _ k1).mono ?_; rintro e w3 ⟨s3, p3, l3, c3, q3, k3, d3, rfl, h3, g3⟩; have kk := Kp.trans k1 g3; have tt := H3c.keep t1 g3; clear x0 x1 x2 x3 x4 x5 y0 y1 y2 y3 y4 y5; obtain ⟨y0, y1, y2, y3, y4, y5⟩ := id tt))
  exact bodyPost_ret (v := .agg #[.bool s3, .slice p3 l3 c3, .slice q3 k3 d3]) (by simp [results, Try.results32, go_sem, y0, y1, y2]) rfl ⟨w1, w3, s3, p3, l3, c3, q3, k3, d3, rfl, h3, rfl, H3c.lt t1, kk⟩
set_option maxRecDepth 20000 in
set_option maxHeartbeats 1000000 in
theorem stA1_ (s : Bool) (p : Option Addr) (l c : Nat) (q : Option Addr) (k d : Nat) (QS : World → World → Bool → Option Addr → Nat → Nat → Option Addr → Nat → Nat → Prop) (w : World) (hi : ∀ W : World, Kp w W → Calls Try.prog 47 #[.agg #[.bool s, .slice p l c, .slice q k d]] W fun e w' => ∃ (s3 : Bool) (p3 : Option Addr) (l3 c3 : Nat) (q3 : Option Addr) (k3 d3 : Nat), e = .returned (.agg #[.bool s3, .slice p3 l3 c3, .slice q3 k3 d3]) ∧ QS W w' s3 p3 l3 c3 q3 k3 d3 ∧ Kp W w') : Calls Try.prog 32 #[.int .i64 1, .agg #[.bool s, .slice p l c, .slice q k d]] w fun e w' => ∃ (W wh : World) (s3 : Bool) (p3 : Option Addr) (l3 c3 : Nat) (q3 : Option Addr) (k3 d3 : Nat), e = .returned (.agg #[.bool s3, .slice p3 l3 c3, .slice q3 k3 d3]) ∧ QS W wh s3 p3 l3 c3 q3 k3 d3 ∧ w' = (((wh.setCell ⟨w.heap.size + 1, 0, none⟩ (.bool s3)).setCell ⟨w.heap.size + 1, 1, none⟩ (.slice p3 l3 c3)).setCell ⟨w.heap.size + 1, 2, none⟩ (.slice q3 k3 d3)) ∧ w.heap.size + 1 < W.heap.size ∧ Kp w wh := by
  have q00 := H3c.new w (.bool s) (.slice p l c) (.slice q k d) 38
  have q0 := H3c.keep q00 ((Kp.refl _).alloc (.cells #[.bool false, .slice none 0 0, .slice none 0 0] 38))
  have t0 := H3c.new (w.alloc (.cells #[.bool s, .slice p l c, .slice q k d] 38)) (.bool false) (.slice none 0 0) (.slice none 0 0) 38
  rw [show (w.alloc (.cells #[.bool s, .slice p l c, .slice q k d] 38)).heap.size = w.heap.size + 1 by simp] at t0
  have k0 : Kp w ((w.alloc (.cells #[.bool s, .slice p l c, .slice q k d] 38)).alloc (.cells #[.bool false, .slice none 0 0, .slice none 0 0] 38)) := ((Kp.refl w).alloc _).alloc _
  obtain ⟨x0, x1, x2, x3, x4, x5⟩ := id q0
  obtain ⟨y0, y1, y2, y3, y4, y5⟩ := id t0
  go_enter Try.func32, Try.ntmps32
  go_wp2_with (first | (go_at_call 47; refine (hi _ k0).mono ?_; rintro e w3 ⟨s3, p3, l3, c3, q3, k3, d3, rfl, h3, g3⟩; have kk := Kp.trans k0 g3; have tt := H3c.keep t0 g3; clear x0 x1 x2 x3 x4 x5 y0 y1 y2 y3 y4 y5; obtain ⟨y0, y1, y2, y3, y4, y5⟩ := id tt))
  exact bodyPost_ret (v := .agg #[.bool s3, .slice p3 l3 c3, .slice q3 k3 d3]) (by simp [results, Try.results32, go_sem, y0, y1, y2]) rfl ⟨_, w3, s3, p3, l3, c3, q3, k3, d3, rfl, h3, rfl, H3c.lt t0, kk⟩
set_option maxRecDepth 20000 in
set_option maxHeartbeats 1000000 in
theorem stA2_ (s : Bool) (p : Option Addr) (l c : Nat) (q : Option Addr) (k d : Nat) (P5 P6 : World → Bool → Option Addr → Nat → Nat → Option Addr → Nat → Nat → Prop) (QS : World → World → Bool → Option Addr → Nat → Nat → Option Addr → Nat → Nat → Prop) (w : World) (hn : ∀ W : World, Kp w W → Calls Try.prog 48 #[.agg #[.bool s, .slice p l c, .slice q k d]] W fun e w' => ∃ (s5 : Bool) (p5 : Option Addr) (l5 c5 : Nat) (q5 : Option Addr) (k5 d5 : Nat), e = .returned (.agg #[.bool s5, .slice p5 l5 c5, .slice q5 k5 d5]) ∧ P5 w' s5 p5 l5 c5 q5 k5 d5 ∧ Kp W w') (hf : ∀ (W : World) (s5 : Bool) (p5 : Option Addr) (l5 c5 : Nat) (q5 : Option Addr) (k5 d5 : Nat), Kp w W → P5 W s5 p5 l5 c5 q5 k5 d5 → Calls Try.prog 47 #[.agg #[.bool s5, .slice p5 l5 c5, .slice q5 k5 d5]] W fun e w' => ∃ (s6 : Bool) (p6 : Option Addr) (l6 c6 : Nat) (q6 : Option Addr) (k6 d6 : Nat), e = .returned (.agg #[.bool s6, .slice p6 l6 c6, .slice q6 k6 d6]) ∧ P6 w' s6 p6 l6 c6 q6 k6 d6 ∧ Kp W w') (hm : ∀ (W : World) (s6 : Bool) (p6 : Option Addr) (l6 c6 : Nat) (q6 : Option Addr) (k6 d6 : Nat), Kp w W → P6 W s6 p6 l6 c6 q6 k6 d6 → Calls Try.prog 48 #[.agg #[.bool s6, .slice p6 l6 c6, .slice q6 k6 d6]] W fun e w' => ∃ (s3 : Bool) (p3 : Option Addr) (l3 c3 : Nat) (q3 : Option Addr) (k3 d3 : Nat), e = .returned (.agg #[.bool s3, .slice p3 l3 c3, .slice q3 k3 d3]) ∧ QS W w' s3 p3 l3 c3 q3 k3 d3 ∧ Kp W w') : Calls Try.prog 32 #[.int .i64 2, .agg #[.bool s, .slice p l c, .slice q k d]] w fun e w' => ∃ (W wh : World) (s3 : Bool) (p3 : Option Addr) (l3 c3 : Nat) (q3 : Option Addr) (k3 d3 : Nat), e = .returned (.agg #[.bool s3, .slice p3 l3 c3, .slice q3 k3 d3]) ∧ QS W wh s3 p3 l3 c3 q3 k3 d3 ∧ w' = (((wh.setCell ⟨w.heap.size + 1, 0, none⟩ (.bool s3)).setCell ⟨w.heap.size + 1, 1, none⟩ (.slice p3 l3 c3)).setCell ⟨w.heap.size + 1, 2, none⟩ (.slice q3 k3 d3)) ∧ w.heap.size + 1 < W.heap.size ∧ Kp w wh := by
  have q00 := H3c.new w (.bool s) (.slice p l c) (.slice q k d) 38
  have q0 := H3c.keep q00 ((Kp.refl _).alloc (.cells #[.bool false, .slice none 0 0, .slice none 0 0] 38))
  have t0 := H3c.new (w.alloc (.cells #[.bool s, .slice p l c, .slice q k d] 38)) (.bool false) (.slice none 0 0) (.slice none 0 0) 38
  rw [show (w.alloc (.cells #[.bool s, .slice p l c, .slice q k d] 38)).heap.size = w.heap.size + 1 by simp] at t0
  have k0 : Kp w ((w.alloc (.cells #[.bool s, .slice p l c, .slice q k d] 38)).alloc (.cells #[.bool false, .slice none 0 0, .slice none 0 0] 38)) := ((Kp.refl w).alloc _).alloc _
  obtain ⟨x0, x1, x2, x3, x4, x5⟩ := id q0
  obtain ⟨y0, y1, y2, y3, y4, y5⟩ := id t0
  go_enter Try.func32, Try.ntmps32
  go_wp2_with (first | (go_at_call 48; refine (hm _ s6 p6 l6 c6 q6 k6 d6 k2 h6).mono ?_; rintro e w3 ⟨s3, p3, l3, c3, q3, k3, d3, rfl, h3, g3⟩; have kk := Kp.trans k2 g3; have tt := H3c.keep t2 g3; clear x0 x1 x2 x3 x4 x5 y0 y1 y2 y3 y4 y5; obtain ⟨y0, y1, y2, y3, y4, y5⟩ := id tt) | (go_at_call 47; refine (hf _ s5 p5 l5 c5 q5 k5 d5 k1 h5).mono ?_; rintro e w2 ⟨s6, p6, l6, c6, q6, k6, d6, rfl, h6, g2⟩; have k2 := Kp.trans k1 g2; have q2 := H3c.keep q1 g2; have t2 := H3c.keep t1 g2; clear x0 x1 x2 x3 x4 x5 y0 y1 y2 y3 y4 y5; obtain ⟨x0, x1, x2, x3, x4, x5⟩ := id q2; obtain ⟨y0, y1, y2, y3, y4, y5⟩ := id t2) | (go_at_call 48; refine (hn _ k0).mono ?_; rintro e w1 ⟨s5, p5, l5, c5, q5, k5, d5, rfl, h5, g1⟩; have k1 := Kp.trans k0 g1; have q1 := H3c.keep q0 g1; have t1 := H3c.keep t0 g1; clear x0 x1 x2 x3 x4 x5 y0 y1 y2 y3 y4 y5; obtain ⟨x0, x1, x2, x3, x4, x5⟩ := id q1; obtain ⟨y0, y1, y2, y3, y4, y5⟩ := id t1))
  exact bodyPost_ret (v := .agg #[.bool s3, .slice p3 l3 c3, .slice q3 k3 d3]) (by simp [results, Try.results32, go_sem, y0, y1, y2]) rfl ⟨w2, w3, s3, p3, l3, c3, q3, k3, d3, rfl, h3, rfl, H3c.lt t2, kk⟩
set_option linter.unusedVariables false
set_option maxRecDepth 20000 in
set_option maxHeartbeats 1000000 in
theorem stA3_ (sg : Int) (hsg : ¬ sg < 0) (s : Bool) (p : Option Addr) (l c : Nat) (q : Option Addr) (k d : Nat) (QS : World → World → Bool → Option Addr → Nat → Nat → Option Addr → Nat → Nat → Prop) (w : World) (hs : ∀ W : World, Kp w W → Calls Try.prog 46 #[.agg #[.bool s, .slice p l c, .slice q k d]] W fun e w' => e = .returned (.int .i64 sg) ∧ Kp W w') (hf : ∀ W : World, Kp w W → Calls Try.prog 47 #[.agg #[.bool s, .slice p l c, .slice q k d]] W fun e w' => ∃ (s3 : Bool) (p3 : Option Addr) (l3 c3 : Nat) (q3 : Option Addr) (k3 d3 : Nat), e = .returned (.agg #[.bool s3, .slice p3 l3 c3, .slice q3 k3 d3]) ∧ QS W w' s3 p3 l3 c3 q3 k3 d3 ∧ Kp W w') : Calls Try.prog 32 #[.int .i64 3, .agg #[.bool s, .slice p l c, .slice q k d]] w fun e w' => ∃ (W W2 wh : World) (s3 : Bool) (p3 : Option Addr) (l3 c3 : Nat) (q3 : Option Addr) (k3 d3 : Nat), e = .returned (.agg #[.bool s3, .slice p3 l3 c3, .slice q3 k3 d3]) ∧ QS W W2 s3 p3 l3 c3 q3 k3 d3 ∧ Kp W2 wh ∧ w' = (((wh.setCell ⟨w.heap.size + 1, 0, none⟩ (.bool s3)).setCell ⟨w.heap.size + 1, 1, none⟩ (.slice p3 l3 c3)).setCell ⟨w.heap.size + 1, 2, none⟩ (.slice q3 k3 d3)) ∧ w.heap.size + 1 < W.heap.size ∧ Kp w wh := by
  have q00 := H3c.new w (.bool s) (.slice p l c) (.slice q k d) 38
  have q0 := H3c.keep q00 ((Kp.refl _).alloc (.cells #[.bool false, .slice none 0 0, .slice none 0 0] 38))
  have t0 := H3c.new (w.alloc (.cells #[.bool s, .slice p l c, .slice q k d] 38)) (.bool false) (.slice none 0 0) (.slice none 0 0) 38
  rw [show (w.alloc (.cells #[.bool s, .slice p l c, .slice q k d] 38)).heap.size = w.heap.size + 1 by simp] at t0
  have k0 : Kp w ((w.alloc (.cells #[.bool s, .slice p l c, .slice q k d] 38)).alloc (.cells #[.bool false, .slice none 0 0, .slice none 0 0] 38)) := ((Kp.refl w).alloc _).alloc _
  obtain ⟨x0, x1, x2, x3, x4, x5⟩ := id q0
  obtain ⟨y0, y1, y2, y3, y4, y5⟩ := id t0
  go_enter Try.func32, Try.ntmps32
  go_wp2_with (first | (go_at_call 47; refine (hf _ (Kp.trans k1 ((Kp.refl _).alloc _))).mono ?_; rintro e w2 ⟨s3, p3, l3, c3, q3, k3, d3, rfl, h3, g2⟩; have ga := Kp.trans ((Kp.refl w1).alloc (.cells #[.bool s, .slice p l c, .slice q k d] 38)) g2; have k2 := Kp.trans k1 ga; have q2 := H3c.keep q1 ga; have t2 := H3c.keep t1 ga; clear x0 x1 x2 x3 x4 x5 y0 y1 y2 y3 y4 y5; obtain ⟨x0, x1, x2, x3, x4, x5⟩ := id q2; obtain ⟨y0, y1, y2, y3, y4, y5⟩ := id t2; have t2a := H3c.keep t2 ((Kp.refl w2).alloc (.cells #[.bool s3, .slice p3 l3 c3, .slice q3 k3 d3] 38)); obtain ⟨z0, z1, z2, z3, z4, z5⟩ := id t2a) | (go_at_call 46; refine (hs _ k0).mono ?_; rintro e w1 ⟨rfl, g1⟩; have k1 := Kp.trans k0 g1; have q1 := H3c.keep q0 g1; have t1 := H3c.keep t0 g1; clear x0 x1 x2 x3 x4 x5 y0 y1 y2 y3 y4 y5; obtain ⟨x0, x1, x2, x3, x4, x5⟩ := id q1; obtain ⟨y0, y1, y2, y3, y4, y5⟩ := id t1))
  have lt := H3c.lt t1
  exact bodyPost_ret (v := .agg #[.bool s3, .slice p3 l3 c3, .slice q3 k3 d3]) (by simp [results, Try.results32, go_sem, z0, z1, z2]) rfl ⟨_, w2, _, s3, p3, l3, c3, q3, k3, d3, rfl, h3, (Kp.refl _).alloc _, rfl, by simp; omega, Kp.trans k2 ((Kp.refl _).alloc _)⟩
set_option maxRecDepth 20000 in
set_option maxHeartbeats 1000000 in
theorem stA3n_ (sg : Int) (hsg : sg < 0) (s : Bool) (p : Option Addr) (l c : Nat) (q : Option Addr) (k d : Nat) (P5 : World → World → Bool → Option Addr → Nat → Nat → Option Addr → Nat → Nat → Prop) (P6 : World → Bool → Option Addr → Nat → Nat → Option Addr → Nat → Nat → Prop) (QS : World → World → Bool → Option Addr → Nat → Nat → Option Addr → Nat → Nat → Prop) (w : World) (hs : ∀ W : World, Kp w W → Calls Try.prog 46 #[.agg #[.bool s, .slice p l c, .slice q k d]] W fun e w' => e = .returned (.int .i64 sg) ∧ Kp W w') (hn : ∀ W : World, Kp w W → Calls Try.prog 48 #[.agg #[.bool s, .slice p l c, .slice q k d]] W fun e w' => ∃ (s5 : Bool) (p5 : Option Addr) (l5 c5 : Nat) (q5 : Option Addr) (k5 d5 : Nat), e = .returned (.agg #[.bool s5, .slice p5 l5 c5, .slice q5 k5 d5]) ∧ P5 W w' s5 p5 l5 c5 q5 k5 d5 ∧ Kp W w') (hf : ∀ (W W' : World) (b : Nat) (s5 : Bool) (p5 : Option Addr) (l5 c5 : Nat) (q5 : Option Addr) (k5 d5 : Nat), Kp w (((W'.setCell ⟨b, 0, none⟩ (.bool s5)).setCell ⟨b, 1, none⟩ (.slice p5 l5 c5)).setCell ⟨b, 2, none⟩ (.slice q5 k5 d5)) → P5 W W' s5 p5 l5 c5 q5 k5 d5 → b < W.heap.size → Calls Try.prog 47 #[.agg #[.bool s5, .slice p5 l5 c5, .slice q5 k5 d5]] (((W'.setCell ⟨b, 0, none⟩ (.bool s5)).setCell ⟨b, 1, none⟩ (.slice p5 l5 c5)).setCell ⟨b, 2, none⟩ (.slice q5 k5 d5)) fun e z' => ∃ (s6 : Bool) (p6 : Option Addr) (l6 c6 : Nat) (q6 : Option Addr) (k6 d6 : Nat), e = .returned (.agg #[.bool s6, .slice p6 l6 c6, .slice q6 k6 d6]) ∧ P6 z' s6 p6 l6 c6 q6 k6 d6 ∧ Kp (((W'.setCell ⟨b, 0, none⟩ (.bool s5)).setCell ⟨b, 1, none⟩ (.slice p5 l5 c5)).setCell ⟨b, 2, none⟩ (.slice q5 k5 d5)) z') (hm : ∀ (U W : World) (s6 : Bool) (p6 : Option Addr) (l6 c6 : Nat) (q6 : Option Addr) (k6 d6 : Nat), Kp w W → P6 U s6 p6 l6 c6 q6 k6 d6 → Kp U W → Calls Try.prog 48 #[.agg #[.bool s6, .slice p6 l6 c6, .slice q6 k6 d6]] W fun e w' => ∃ (s3 : Bool) (p3 : Option Addr) (l3 c3 : Nat) (q3 : Option Addr) (k3 d3 : Nat), e = .returned (.agg #[.bool s3, .slice p3 l3 c3, .slice q3 k3 d3]) ∧ QS W w' s3 p3 l3 c3 q3 k3 d3 ∧ Kp W w') : Calls Try.prog 32 #[.int .i64 3, .agg #[.bool s, .slice p l c, .slice q k d]] w fun e w' => ∃ (W W2 wh : World) (s3 : Bool) (p3 : Option Addr) (l3 c3 : Nat) (q3 : Option Addr) (k3 d3 : Nat), e = .returned (.agg #[.bool s3, .slice p3 l3 c3, .slice q3 k3 d3]) ∧ QS W W2 s3 p3 l3 c3 q3 k3 d3 ∧ Kp W2 wh ∧ w' = (((wh.setCell ⟨w.heap.size + 1, 0, none⟩ (.bool s3)).setCell ⟨w.heap.size + 1, 1, none⟩ (.slice p3 l3 c3)).setCell ⟨w.heap.size + 1, 2, none⟩ (.slice q3 k3 d3)) ∧ w.heap.size + 1 < W.heap.size ∧ Kp w wh := by
  have q00 := H3c.new w (.bool s) (.slice p l c) (.slice q k d) 38
  have q0 := H3c.keep q00 ((Kp.refl _).alloc (.cells #[.bool false, .slice none 0 0, .slice none 0 0] 38))
  have t0 := H3c.new (w.alloc (.cells #[.bool s, .slice p l c, .slice q k d] 38)) (.bool false) (.slice none 0 0) (.slice none 0 0) 38
  rw [show (w.alloc (.cells #[.bool s, .slice p l c, .slice q k d] 38)).heap.size = w.heap.size + 1 by simp] at t0
  have k0 : Kp w ((w.alloc (.cells #[.bool s, .slice p l c, .slice q k d] 38)).alloc (.cells #[.bool false, .slice none 0 0, .slice none 0 0] 38)) := ((Kp.refl w).alloc _).alloc _
  obtain ⟨x0, x1, x2, x3, x4, x5⟩ := id q0
  obtain ⟨y0, y1, y2, y3, y4, y5⟩ := id t0
  go_enter Try.func32, Try.ntmps32
  go_wp2_with (first | (go_at_call 48; refine (hm w3 _ s6 p6 l6 c6 q6 k6 d6 k3' h6 kb).mono ?_; rintro e w4 ⟨s3, p3, l3, c3, q3, k3, d3, rfl, h3, g4⟩; have k4' := Kp.trans k3' g4; have t4 := H3c.keep t3 g4; clear y0 y1 y2 y3 y4 y5; obtain ⟨y0, y1, y2, y3, y4, y5⟩ := id t4) | (go_at_call 47; refine (hf _ w2 w1.heap.size s5 p5 l5 c5 q5 k5 d5 kp h5 (H3c.lt sa)).mono ?_; rintro e w3 ⟨s6, p6, l6, c6, q6, k6, d6, rfl, h6, g3⟩; have kb : Kp w3 (w3.alloc (.cells #[.bool s6, .slice p6 l6 c6, .slice q6 k6 d6] 38)) := (Kp.refl w3).alloc _; have k3' := Kp.trans (Kp.trans kp g3) kb; have t3 := H3c.keep (H3c.keep tp g3) kb; clear x0 x1 x2 x3 x4 x5 y0 y1 y2 y3 y4 y5; clear u0 u1 u2 u3 u4 u5; obtain ⟨y0, y1, y2, y3, y4, y5⟩ := id t3) | (go_at_call 48; refine (hn _ k1a).mono ?_; rintro e w2 ⟨s5, p5, l5, c5, q5, k5, d5, rfl, h5, g2⟩; have k2 := Kp.trans k1a g2; have s2 := H3c.keep sa g2; have t2 := H3c.keep t1 g2; have hne : w1.heap.size ≠ w.heap.size + 1 := (by omega); have sp := H3c.put s2 (.bool s5) (.slice p5 l5 c5) (.slice q5 k5 d5); have tp := (H3c.far1 (H3c.far1 (H3c.far1 t2 ⟨w1.heap.size, 0, none⟩ hne (.bool s5)) ⟨w1.heap.size, 1, none⟩ hne (.slice p5 l5 c5)) ⟨w1.heap.size, 2, none⟩ hne (.slice q5 k5 d5)); have kp : Kp w (((w2.setCell ⟨w1.heap.size, 0, none⟩ (.bool s5)).setCell ⟨w1.heap.size, 1, none⟩ (.slice p5 l5 c5)).setCell ⟨w1.heap.size, 2, none⟩ (.slice q5 k5 d5)) := (((k2).setCell (by simp <;> omega) _).setCell (by simp <;> omega) _).setCell (by simp <;> omega) _; clear x0 x1 x2 x3 x4 x5 y0 y1 y2 y3 y4 y5; obtain ⟨x0, x1, x2, x3, x4, x5⟩ := id s2; obtain ⟨y0, y1, y2, y3, y4, y5⟩ := id tp; obtain ⟨u0, u1, u2, u3, u4, u5⟩ := id sp) | (go_at_call 46; refine (hs _ k0).mono ?_; rintro e w1 ⟨rfl, g1⟩; have k1 := Kp.trans k0 g1; have ka : Kp w1 (w1.alloc (.cells #[.bool s, .slice p l c, .slice q k d] 38)) := (Kp.refl w1).alloc _; have k1a := Kp.trans k1 ka; have q1 := H3c.keep (H3c.keep q0 g1) ka; have t1 := H3c.keep (H3c.keep t0 g1) ka; have lt1 := H3c.lt (H3c.keep t0 g1); have q1w := H3c.keep q0 g1; obtain ⟨m0, m1, m2, m3, m4, m5⟩ := id q1w; have sa := H3c.new w1 (.bool s) (.slice p l c) (.slice q k d) 38; clear x0 x1 x2 x3 x4 x5 y0 y1 y2 y3 y4 y5; obtain ⟨x0, x1, x2, x3, x4, x5⟩ := id q1; obtain ⟨y0, y1, y2, y3, y4, y5⟩ := id t1))
  exact bodyPost_ret (v := .agg #[.bool s3, .slice p3 l3 c3, .slice q3 k3 d3]) (by simp [results, Try.results32, go_sem, y0, y1, y2]) rfl ⟨_, w4, w4, s3, p3, l3, c3, q3, k3, d3, rfl, h3, Kp.refl _, rfl, H3c.lt t3, k4'⟩
end Go.Proofs.Ytbbmoaiilnfmgaa
