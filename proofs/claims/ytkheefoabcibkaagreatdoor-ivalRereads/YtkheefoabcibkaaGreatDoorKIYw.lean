import Derived.Test.YtkheefoabcibkaaGreatDoorKIYa
import Derived.Test.YtkheefoabcibkaaGreatDoorKIYu
import Derived.Test.YtkheefoabcibkaaGreatDoorKIYv
namespace Go.Proofs.YtkheefoabcibkaaGreatDoor
open Go.RowKit

theorem lsQ9_ (g : Int → Int → Int) (L1 H1 L2 H2 : Int) (b1 : BdZ L1) (b2 : BdZ H1) (b3 : BdZ L2) (b4 : BdZ H2) (w : World) (h1 : 0 < H1 → L2 < 0 → ∀ W : World, Kp w W → Calls Tryz.prog 35 #[.float .f64 (pw H1), .float .f64 (pw L2)] W fun e w' => e = .returned (.float .f64 (pw (g H1 L2))) ∧ Kp W w') (h2 : L1 < 0 → 0 < H2 → ∀ W : World, Kp w W → Calls Tryz.prog 35 #[.float .f64 (pw L1), .float .f64 (pw H2)] W fun e w' => e = .returned (.float .f64 (pw (g L1 H2))) ∧ Kp W w') (h3 : H1 ≤ 0 → H2 ≤ 0 → ¬ (L1 < 0 ∧ 0 < H2) → ∀ W : World, Kp w W → Calls Tryz.prog 35 #[.float .f64 (pw H1), .float .f64 (pw H2)] W fun e w' => e = .returned (.float .f64 (pw (g H1 H2))) ∧ Kp W w') (h4 : ¬ (L1 < 0 ∧ 0 < H2) → ¬ (0 < H1 ∧ L2 < 0) → ¬ (H1 ≤ 0 ∧ H2 ≤ 0) → ∀ W : World, Kp w W → Calls Tryz.prog 35 #[.float .f64 (pw L1), .float .f64 (pw L2)] W fun e w' => e = .returned (.float .f64 (pw (g L1 L2))) ∧ Kp W w') (hg1 : BdZ (g H1 L2)) (hg2 : BdZ (g L1 H2)) : Calls Tryz.prog 54 #[.agg #[.float .f64 (pw L1), .float .f64 (pw H1)], .agg #[.float .f64 (pw L2), .float .f64 (pw H2)], .func (.func 35) #[] #[]] w fun e w' => e = .returned (.float .f64 (pw (lst g L1 H1 L2 H2))) ∧ Kp w w' := by
  unfold lst
  by_cases c1 : L1 < 0 ∧ 0 < H1 ∧ L2 < 0 ∧ 0 < H2
  · rw [if_pos c1]
    exact lsQ1_ _ _ _ _ _ _ _ _ _ _ _ (lt0_pw L1 b1) (gt0_pw H1 b2) (lt0_pw L2 b3) (gt0_pw H2 b4) (by simp [c1]) w (fun x y z => ∀ W : World, Kp w W → Calls Tryz.prog 35 #[.float .f64 x, .float .f64 y] W fun e w' => e = .returned (.float .f64 z) ∧ Kp W w') (fun _ _ _ h => h) (h1 c1.2.1 c1.2.2.1) (h2 c1.1 c1.2.2.2) (min9_ _ _ hg1 hg2)
  rw [if_neg c1]
  have q1 : (decide (L1 < 0) && decide (0 < H1) && decide (L2 < 0) && decide (0 < H2)) = false := by
    by_cases e1 : L1 < 0 <;> by_cases e2 : 0 < H1 <;> by_cases e3 : L2 < 0 <;> by_cases e4 : 0 < H2 <;> simp [e1, e2, e3, e4] <;> omega
  by_cases c2 : L1 < 0 ∧ 0 < H2
  · rw [if_pos c2]
    have hm := min9_ 9218868437227405312 (g L1 H2) (by unfold BdZ; omega) hg2
    rw [pw_I, show min 9218868437227405312 (g L1 H2) = g L1 H2 from by unfold BdZ at hg2; omega] at hm
    exact lsQ2_ _ _ _ _ _ _ _ _ _ _ (lt0_pw L1 b1) (gt0_pw H1 b2) (lt0_pw L2 b3) (gt0_pw H2 b4) q1 (by simp [c2]) w (fun x y z => ∀ W : World, Kp w W → Calls Tryz.prog 35 #[.float .f64 x, .float .f64 y] W fun e w' => e = .returned (.float .f64 z) ∧ Kp W w') (fun _ _ _ h => h) (h2 c2.1 c2.2) trivial hm
  rw [if_neg c2]
  have q2 : (decide (L1 < 0) && decide (0 < H2)) = false := by
    by_cases e1 : L1 < 0 <;> by_cases e4 : 0 < H2 <;> simp [e1, e4] <;> omega
  by_cases c3 : 0 < H1 ∧ L2 < 0
  · rw [if_pos c3]
    exact lsQ3_ _ _ _ _ _ _ _ _ _ (lt0_pw L1 b1) (gt0_pw H1 b2) (lt0_pw L2 b3) (gt0_pw H2 b4) q1 q2 (by simp [c3]) w (fun x y z => ∀ W : World, Kp w W → Calls Tryz.prog 35 #[.float .f64 x, .float .f64 y] W fun e w' => e = .returned (.float .f64 z) ∧ Kp W w') (fun _ _ _ h => h) (h1 c3.1 c3.2) trivial
  rw [if_neg c3]
  have q3 : (decide (0 < H1) && decide (L2 < 0)) = false := by
    by_cases e1 : 0 < H1 <;> by_cases e4 : L2 < 0 <;> simp [e1, e4] <;> omega
  by_cases c4 : H1 ≤ 0 ∧ H2 ≤ 0
  · rw [if_pos c4]
    exact lsQ4_ _ _ _ _ _ _ _ _ _ _ _ (lt0_pw L1 b1) (gt0_pw H1 b2) (lt0_pw L2 b3) (gt0_pw H2 b4) (le0_pw H1 b2) (le0_pw H2 b4) q1 q2 q3 (by simp [c4]) w (fun x y z => ∀ W : World, Kp w W → Calls Tryz.prog 35 #[.float .f64 x, .float .f64 y] W fun e w' => e = .returned (.float .f64 z) ∧ Kp W w') (fun _ _ _ h => h) (h3 c4.1 c4.2 c2) trivial
  rw [if_neg c4]
  have q4 : (decide (H1 ≤ 0) && decide (H2 ≤ 0)) = false := by
    by_cases e1 : H1 ≤ 0 <;> by_cases e4 : H2 ≤ 0 <;> simp [e1, e4] <;> omega
  exact lsQ5_ _ _ _ _ _ _ _ _ _ _ _ (lt0_pw L1 b1) (gt0_pw H1 b2) (lt0_pw L2 b3) (gt0_pw H2 b4) (le0_pw H1 b2) (le0_pw H2 b4) q1 q2 q3 q4 w (fun x y z => ∀ W : World, Kp w W → Calls Tryz.prog 35 #[.float .f64 x, .float .f64 y] W fun e w' => e = .returned (.float .f64 z) ∧ Kp W w') (fun _ _ _ h => h) (h4 c2 c3 c4) trivial

theorem lsF9_ (g : Int → Int → Int) (L1 H1 L2 H2 : Int) (bp : Nat) (b1 : BdZ L1) (b2 : BdZ H1) (b3 : BdZ L2) (b4 : BdZ H2) (w : World) (h1 : 0 < H1 → L2 < 0 → ∀ W : World, Kp w W → Calls Tryz.prog 66 #[.float .f64 (pw H1), .float .f64 (pw L2), .pointer (some ⟨bp, 0, none⟩)] W fun e w' => e = .returned (.float .f64 (pw (g H1 L2))) ∧ Kp W w') (h2 : L1 < 0 → 0 < H2 → ∀ W : World, Kp w W → Calls Tryz.prog 66 #[.float .f64 (pw L1), .float .f64 (pw H2), .pointer (some ⟨bp, 0, none⟩)] W fun e w' => e = .returned (.float .f64 (pw (g L1 H2))) ∧ Kp W w') (h3 : H1 ≤ 0 → H2 ≤ 0 → ¬ (L1 < 0 ∧ 0 < H2) → ∀ W : World, Kp w W → Calls Tryz.prog 66 #[.float .f64 (pw H1), .float .f64 (pw H2), .pointer (some ⟨bp, 0, none⟩)] W fun e w' => e = .returned (.float .f64 (pw (g H1 H2))) ∧ Kp W w') (h4 : ¬ (L1 < 0 ∧ 0 < H2) → ¬ (0 < H1 ∧ L2 < 0) → ¬ (H1 ≤ 0 ∧ H2 ≤ 0) → ∀ W : World, Kp w W → Calls Tryz.prog 66 #[.float .f64 (pw L1), .float .f64 (pw L2), .pointer (some ⟨bp, 0, none⟩)] W fun e w' => e = .returned (.float .f64 (pw (g L1 L2))) ∧ Kp W w') (hg1 : BdZ (g H1 L2)) (hg2 : BdZ (g L1 H2)) : Calls Tryz.prog 54 #[.agg #[.float .f64 (pw L1), .float .f64 (pw H1)], .agg #[.float .f64 (pw L2), .float .f64 (pw H2)], .func (.func 66) #[] #[.pointer (some ⟨bp, 0, none⟩)]] w fun e w' => e = .returned (.float .f64 (pw (lst g L1 H1 L2 H2))) ∧ Kp w w' := by
  unfold lst
  by_cases c1 : L1 < 0 ∧ 0 < H1 ∧ L2 < 0 ∧ 0 < H2
  · rw [if_pos c1]
    exact lsF1_ _ _ _ _ _ _ _ bp _ _ _ _ (lt0_pw L1 b1) (gt0_pw H1 b2) (lt0_pw L2 b3) (gt0_pw H2 b4) (by simp [c1]) w (fun x y z => ∀ W : World, Kp w W → Calls Tryz.prog 66 #[.float .f64 x, .float .f64 y, .pointer (some ⟨bp, 0, none⟩)] W fun e w' => e = .returned (.float .f64 z) ∧ Kp W w') (fun _ _ _ h => h) (h1 c1.2.1 c1.2.2.1) (h2 c1.1 c1.2.2.2) (min9_ _ _ hg1 hg2)
  rw [if_neg c1]
  have q1 : (decide (L1 < 0) && decide (0 < H1) && decide (L2 < 0) && decide (0 < H2)) = false := by
    by_cases e1 : L1 < 0 <;> by_cases e2 : 0 < H1 <;> by_cases e3 : L2 < 0 <;> by_cases e4 : 0 < H2 <;> simp [e1, e2, e3, e4] <;> omega
  by_cases c2 : L1 < 0 ∧ 0 < H2
  · rw [if_pos c2]
    have hm := min9_ 9218868437227405312 (g L1 H2) (by unfold BdZ; omega) hg2
    rw [pw_I, show min 9218868437227405312 (g L1 H2) = g L1 H2 from by unfold BdZ at hg2; omega] at hm
    exact lsF2_ _ _ _ _ _ _ bp _ _ _ _ (lt0_pw L1 b1) (gt0_pw H1 b2) (lt0_pw L2 b3) (gt0_pw H2 b4) q1 (by simp [c2]) w (fun x y z => ∀ W : World, Kp w W → Calls Tryz.prog 66 #[.float .f64 x, .float .f64 y, .pointer (some ⟨bp, 0, none⟩)] W fun e w' => e = .returned (.float .f64 z) ∧ Kp W w') (fun _ _ _ h => h) (h2 c2.1 c2.2) trivial hm
  rw [if_neg c2]
  have q2 : (decide (L1 < 0) && decide (0 < H2)) = false := by
    by_cases e1 : L1 < 0 <;> by_cases e4 : 0 < H2 <;> simp [e1, e4] <;> omega
  by_cases c3 : 0 < H1 ∧ L2 < 0
  · rw [if_pos c3]
    exact lsF3_ _ _ _ _ _ bp _ _ _ _ (lt0_pw L1 b1) (gt0_pw H1 b2) (lt0_pw L2 b3) (gt0_pw H2 b4) q1 q2 (by simp [c3]) w (fun x y z => ∀ W : World, Kp w W → Calls Tryz.prog 66 #[.float .f64 x, .float .f64 y, .pointer (some ⟨bp, 0, none⟩)] W fun e w' => e = .returned (.float .f64 z) ∧ Kp W w') (fun _ _ _ h => h) (h1 c3.1 c3.2) trivial
  rw [if_neg c3]
  have q3 : (decide (0 < H1) && decide (L2 < 0)) = false := by
    by_cases e1 : 0 < H1 <;> by_cases e4 : L2 < 0 <;> simp [e1, e4] <;> omega
  by_cases c4 : H1 ≤ 0 ∧ H2 ≤ 0
  · rw [if_pos c4]
    exact lsF4_ _ _ _ _ _ bp _ _ _ _ _ _ (lt0_pw L1 b1) (gt0_pw H1 b2) (lt0_pw L2 b3) (gt0_pw H2 b4) (le0_pw H1 b2) (le0_pw H2 b4) q1 q2 q3 (by simp [c4]) w (fun x y z => ∀ W : World, Kp w W → Calls Tryz.prog 66 #[.float .f64 x, .float .f64 y, .pointer (some ⟨bp, 0, none⟩)] W fun e w' => e = .returned (.float .f64 z) ∧ Kp W w') (fun _ _ _ h => h) (h3 c4.1 c4.2 c2) trivial
  rw [if_neg c4]
  have q4 : (decide (H1 ≤ 0) && decide (H2 ≤ 0)) = false := by
    by_cases e1 : H1 ≤ 0 <;> by_cases e4 : H2 ≤ 0 <;> simp [e1, e4] <;> omega
  exact lsF5_ _ _ _ _ _ bp _ _ _ _ _ _ (lt0_pw L1 b1) (gt0_pw H1 b2) (lt0_pw L2 b3) (gt0_pw H2 b4) (le0_pw H1 b2) (le0_pw H2 b4) q1 q2 q3 q4 w (fun x y z => ∀ W : World, Kp w W → Calls Tryz.prog 66 #[.float .f64 x, .float .f64 y, .pointer (some ⟨bp, 0, none⟩)] W fun e w' => e = .returned (.float .f64 z) ∧ Kp W w') (fun _ _ _ h => h) (h4 c2 c3 c4) trivial
set_option maxRecDepth 20000 in
set_option maxHeartbeats 4000000 in
theorem add6n_ (a b c d L1 H1 L2 H2 NL NH : Nat) (hx : ∀ w : World, Calls Tryz.prog 28 #[.agg #[.float .f64 a, .float .f64 b]] w fun e w' => e = .returned (.agg #[.float .f64 L1, .float .f64 H1]) ∧ Kp w w') (hy : ∀ w : World, Calls Tryz.prog 28 #[.agg #[.float .f64 c, .float .f64 d]] w fun e w' => e = .returned (.agg #[.float .f64 L2, .float .f64 H2]) ∧ Kp w w') (hv1 : ∀ w : World, Calls Tryz.prog 29 #[.agg #[.float .f64 L1, .float .f64 H1]] w fun e w' => e = .returned (.bool false) ∧ Kp w w') (hv2 : ∀ w : World, Calls Tryz.prog 29 #[.agg #[.float .f64 L2, .float .f64 H2]] w fun e w' => e = .returned (.bool false) ∧ Kp w w') (w : World) (hA1 : ∀ W : World, Kp w W → Calls Tryz.prog 30 #[.int .i64 (-1), .float .f64 L1, .float .f64 L2] W fun e w' => e = .returned (.float .f64 NL) ∧ Kp W w') (hA2 : ∀ W : World, Kp w W → Calls Tryz.prog 30 #[.int .i64 1, .float .f64 H1, .float .f64 H2] W fun e w' => e = .returned (.float .f64 NH) ∧ Kp W w') : Calls Tryz.prog 12 #[.agg #[.float .f64 a, .float .f64 b], .agg #[.float .f64 c, .float .f64 d]] w fun e w' => e = .returned (.agg #[.float .f64 NL, .float .f64 NH]) ∧ Kp w w' := by
    go_enter Tryz.func12, Tryz.ntmps12
    go_wp2
    go_region_with (first | (go_at_call_of 28 (Value.agg #[.float .f64 a, .float .f64 b]); refine (hx _).mono ?_; rintro e wx ⟨rfl, gx⟩; first | (have kx := Kp.trans ky gx; have sx := H6.keep sy gx; obtain ⟨⟨p0, p1, p2, p3⟩, ⟨p4, p5, p6, p7⟩, ⟨p8, p9, pa, pb⟩⟩ := id sx) | (have kx : Kp w wx := Kp.trans (((((Kp.refl w).alloc _).alloc _).alloc _).drew) gx; have sx := H6.keep (H6.new w (.float .f64 a) (.float .f64 b) (.float .f64 c) (.float .f64 d) (.float .f64 0) (.float .f64 0) 25 25 25) (Kp.trans (Kp.drew (Kp.refl _)) gx); obtain ⟨⟨p0, p1, p2, p3⟩, ⟨p4, p5, p6, p7⟩, ⟨p8, p9, pa, pb⟩⟩ := id sx)) | (go_at_call_of 28 (Value.agg #[.float .f64 c, .float .f64 d]); refine (hy _).mono ?_; rintro e wy ⟨rfl, gy⟩; first | (have ky := Kp.trans kx gy; have sy := H6.keep sx gy; obtain ⟨⟨p0, p1, p2, p3⟩, ⟨p4, p5, p6, p7⟩, ⟨p8, p9, pa, pb⟩⟩ := id sy) | (have ky : Kp w wy := Kp.trans (((((Kp.refl w).alloc _).alloc _).alloc _).drew) gy; have sy := H6.keep (H6.new w (.float .f64 a) (.float .f64 b) (.float .f64 c) (.float .f64 d) (.float .f64 0) (.float .f64 0) 25 25 25) (Kp.trans (Kp.drew (Kp.refl _)) gy); obtain ⟨⟨p0, p1, p2, p3⟩, ⟨p4, p5, p6, p7⟩, ⟨p8, p9, pa, pb⟩⟩ := id sy)))
    all_goals (first
      | skip
        have sw := H6.put (id sy : H6 wy w.heap.size (.float .f64 a) (.float .f64 b) (.float .f64 c) (.float .f64 d) (.float .f64 0) (.float .f64 0)) (.float .f64 L1) (.float .f64 H1) (.float .f64 L2) (.float .f64 H2)
        have kw : Kp w ((((wy.setCell ⟨w.heap.size, 0, none⟩ (.float .f64 L1)).setCell ⟨w.heap.size, 1, none⟩ (.float .f64 H1)).setCell ⟨w.heap.size + 1, 0, none⟩ (.float .f64 L2)).setCell ⟨w.heap.size + 1, 1, none⟩ (.float .f64 H2)) := (((ky.setCell (Nat.le_refl _) _).setCell (Nat.le_refl _) _).setCell (Nat.le_succ _) _).setCell (Nat.le_succ _) _
        generalize hW : ((((wy.setCell ⟨w.heap.size, 0, none⟩ (.float .f64 L1)).setCell ⟨w.heap.size, 1, none⟩ (.float .f64 H1)).setCell ⟨w.heap.size + 1, 0, none⟩ (.float .f64 L2)).setCell ⟨w.heap.size + 1, 1, none⟩ (.float .f64 H2)) = W at sw kw ⊢
        clear hW
      | skip
        have sw := H6.put (id sx : H6 wx w.heap.size (.float .f64 a) (.float .f64 b) (.float .f64 c) (.float .f64 d) (.float .f64 0) (.float .f64 0)) (.float .f64 L1) (.float .f64 H1) (.float .f64 L2) (.float .f64 H2)
        have kw : Kp w ((((wx.setCell ⟨w.heap.size, 0, none⟩ (.float .f64 L1)).setCell ⟨w.heap.size, 1, none⟩ (.float .f64 H1)).setCell ⟨w.heap.size + 1, 0, none⟩ (.float .f64 L2)).setCell ⟨w.heap.size + 1, 1, none⟩ (.float .f64 H2)) := (((kx.setCell (Nat.le_refl _) _).setCell (Nat.le_refl _) _).setCell (Nat.le_succ _) _).setCell (Nat.le_succ _) _
        generalize hW : ((((wx.setCell ⟨w.heap.size, 0, none⟩ (.float .f64 L1)).setCell ⟨w.heap.size, 1, none⟩ (.float .f64 H1)).setCell ⟨w.heap.size + 1, 0, none⟩ (.float .f64 L2)).setCell ⟨w.heap.size + 1, 1, none⟩ (.float .f64 H2)) = W at sw kw ⊢
        clear hW)
    all_goals (
      obtain ⟨⟨p0, p1, p2, p3⟩, ⟨p4, p5, p6, p7⟩, ⟨p8, p9, pa, pb⟩⟩ := id sw
      go_wp2_with (first | (go_at_call_of 29 (Value.agg #[.float .f64 L1, .float .f64 H1]); refine (hv1 _).mono ?_; rintro e wv ⟨rfl, gv⟩; have kv := Kp.trans kw gv; have sv := H6.keep sw gv; obtain ⟨⟨u0, u1, u2, u3⟩, ⟨u4, u5, u6, u7⟩, ⟨u8, u9, ua, ub⟩⟩ := id sv) | (go_at_call_of 29 (Value.agg #[.float .f64 L2, .float .f64 H2]); refine (hv2 _).mono ?_; rintro e wz ⟨rfl, gz⟩; have kz := Kp.trans kv gz; have sz := H6.keep sv gz; obtain ⟨⟨t0, t1, t2, t3⟩, ⟨t4, t5, t6, t7⟩, ⟨t8, t9, ta, tb⟩⟩ := id sz))
      go_region_held3 (fun w' => w'.cell? ⟨w.heap.size, 0, none⟩ = some (.float .f64 L1) ∧ w'.cell? ⟨w.heap.size, 1, none⟩ = some (.float .f64 H1) ∧ w'.cell? ⟨w.heap.size + 1, 0, none⟩ = some (.float .f64 L2) ∧ w'.cell? ⟨w.heap.size + 1, 1, none⟩ = some (.float .f64 H2)) (first | (exact ⟨sz.1.1, sz.1.2.1, sz.2.1.1, sz.2.1.2.1⟩) | (exact ⟨sA.1.1, sA.1.2.1, sA.2.1.1, sA.2.1.2.1⟩) | (exact ⟨sC.1.1, sC.1.2.1, sC.2.1.1, sC.2.1.2.1⟩) | (exact ⟨(World.cell?_setCell_far _ _ _ _ (by simp <;> omega)).trans ((World.cell?_setCell_far _ _ _ _ (by simp <;> omega)).trans sA.1.1), (World.cell?_setCell_far _ _ _ _ (by simp <;> omega)).trans ((World.cell?_setCell_far _ _ _ _ (by simp <;> omega)).trans sA.1.2.1), (World.cell?_setCell_far _ _ _ _ (by simp <;> omega)).trans ((World.cell?_setCell_far _ _ _ _ (by simp <;> omega)).trans sA.2.1.1), (World.cell?_setCell_far _ _ _ _ (by simp <;> omega)).trans ((World.cell?_setCell_far _ _ _ _ (by simp <;> omega)).trans sA.2.1.2.1)⟩) | (exact ⟨(World.cell?_setCell_far _ _ _ _ (by simp <;> omega)).trans ((World.cell?_setCell_far _ _ _ _ (by simp <;> omega)).trans sC.1.1), (World.cell?_setCell_far _ _ _ _ (by simp <;> omega)).trans ((World.cell?_setCell_far _ _ _ _ (by simp <;> omega)).trans sC.1.2.1), (World.cell?_setCell_far _ _ _ _ (by simp <;> omega)).trans ((World.cell?_setCell_far _ _ _ _ (by simp <;> omega)).trans sC.2.1.1), (World.cell?_setCell_far _ _ _ _ (by simp <;> omega)).trans ((World.cell?_setCell_far _ _ _ _ (by simp <;> omega)).trans sC.2.1.2.1)⟩)) (first | (go_at_call_of 30 (Value.float .f64 L1); first | (refine (hA1 _ (Kp.trans kC (Kp.refl _))).mono ?_; rintro e wA ⟨rfl, gA⟩; have kA := Kp.trans kC gA; have sA := H6.keep sC gA; obtain ⟨⟨r0, r1, r2, r3⟩, ⟨r4, r5, r6, r7⟩, ⟨r8, r9, ra, rb⟩⟩ := id sA) | (refine (hA1 _ (Kp.drew kz)).mono ?_; rintro e wA ⟨rfl, gA⟩; have kA := Kp.trans (Kp.drew kz) gA; have sA := H6.keep sz (Kp.trans (Kp.drew (Kp.refl _)) gA); obtain ⟨⟨r0, r1, r2, r3⟩, ⟨r4, r5, r6, r7⟩, ⟨r8, r9, ra, rb⟩⟩ := id sA)) | (go_at_call_of 30 (Value.float .f64 H1); first | (refine (hA2 _ (Kp.trans kA (Kp.refl _))).mono ?_; rintro e wC ⟨rfl, gC⟩; have kC := Kp.trans kA gC; have sC := H6.keep sA gC; obtain ⟨⟨r0, r1, r2, r3⟩, ⟨r4, r5, r6, r7⟩, ⟨r8, r9, ra, rb⟩⟩ := id sC) | (refine (hA2 _ (Kp.drew kz)).mono ?_; rintro e wC ⟨rfl, gC⟩; have kC := Kp.trans (Kp.drew kz) gC; have sC := H6.keep sz (Kp.trans (Kp.drew (Kp.refl _)) gC); obtain ⟨⟨r0, r1, r2, r3⟩, ⟨r4, r5, r6, r7⟩, ⟨r8, r9, ra, rb⟩⟩ := id sC)))
      all_goals go_wp2
      all_goals first
        | exact bodyPost_ret (v := .agg #[.float .f64 NL, .float .f64 NH]) (by simp [results, Tryz.results12, go_sem, r8, r9]) rfl ⟨rfl, (kA.setCell (by simp; omega) _).setCell (by simp; omega) _⟩
        | exact bodyPost_ret (v := .agg #[.float .f64 NL, .float .f64 NH]) (by simp [results, Tryz.results12, go_sem, r8, r9]) rfl ⟨rfl, (kC.setCell (by simp; omega) _).setCell (by simp; omega) _⟩)
set_option linter.unusedVariables false
set_option maxRecDepth 20000 in
set_option maxHeartbeats 1000000 in
theorem sub6c_ (a b c d NL NH RL RH : Nat) (w : World) (hN : ∀ w : World, Calls Tryz.prog 24 #[.agg #[.float .f64 c, .float .f64 d]] w fun e w' => e = .returned (.agg #[.float .f64 NL, .float .f64 NH]) ∧ Kp w w') (hA : ∀ W : World, Kp w W → Calls Tryz.prog 12 #[.agg #[.float .f64 a, .float .f64 b], .agg #[.float .f64 NL, .float .f64 NH]] W fun e w' => e = .returned (.agg #[.float .f64 RL, .float .f64 RH]) ∧ Kp W w') : Calls Tryz.prog 25 #[.agg #[.float .f64 a, .float .f64 b], .agg #[.float .f64 c, .float .f64 d]] w fun e w' => e = .returned (.agg #[.float .f64 RL, .float .f64 RH]) ∧ Kp w w' := by
  go_enter Tryz.func25, Tryz.ntmps25
  go_wp2
  generalize hW : (((w.alloc (.cells #[.float .f64 a, .float .f64 b] 25)).alloc (.cells #[.float .f64 c, .float .f64 d] 25)).alloc (.cells #[.float .f64 0, .float .f64 0] 25)) = W
  have kw : Kp w W := by rw [← hW]; exact (((Kp.refl w).alloc _).alloc _).alloc _
  have xw0 : W.cell? ⟨w.heap.size, 0, none⟩ = some (.float .f64 a) := by rw [← hW]; simp [go_sem]
  have dw0 : W.drew.cell? ⟨w.heap.size, 0, none⟩ = some (.float .f64 a) := xw0
  have xw1 : W.cell? ⟨w.heap.size, 1, none⟩ = some (.float .f64 b) := by rw [← hW]; simp [go_sem]
  have dw1 : W.drew.cell? ⟨w.heap.size, 1, none⟩ = some (.float .f64 b) := xw1
  have xw2 : W.cell? ⟨w.heap.size + 1, 0, none⟩ = some (.float .f64 c) := by rw [← hW]; simp [go_sem]
  have dw2 : W.drew.cell? ⟨w.heap.size + 1, 0, none⟩ = some (.float .f64 c) := xw2
  have xw3 : W.cell? ⟨w.heap.size + 1, 1, none⟩ = some (.float .f64 d) := by rw [← hW]; simp [go_sem]
  have dw3 : W.drew.cell? ⟨w.heap.size + 1, 1, none⟩ = some (.float .f64 d) := xw3
  have r0 : W.cell? ⟨w.heap.size + 2, 0, none⟩ = some (.float .f64 0) := by rw [← hW]; simp [go_sem]
  have rz0 : W.frozen? ⟨w.heap.size + 2, 0, none⟩ = false := by rw [← hW]; simp [go_sem]
  have r1 : W.cell? ⟨w.heap.size + 2, 1, none⟩ = some (.float .f64 0) := by rw [← hW]; simp [go_sem]
  have rz1 : W.frozen? ⟨w.heap.size + 2, 1, none⟩ = false := by rw [← hW]; simp [go_sem]
  have hn1 : w.heap.size + 2 ≠ w.heap.size := by omega
  have hn2 : w.heap.size + 2 ≠ w.heap.size + 1 := by omega
  clear hW
  go_region_held3 (fun w' => w'.cell? ⟨w.heap.size, 0, none⟩ = some (.float .f64 a) ∧ w'.cell? ⟨w.heap.size, 1, none⟩ = some (.float .f64 b) ∧ w'.cell? ⟨w.heap.size + 1, 0, none⟩ = some (.float .f64 c) ∧ w'.cell? ⟨w.heap.size + 1, 1, none⟩ = some (.float .f64 d)) (first | (with_reducible exact ⟨xw0, xw1, xw2, xw3⟩) | (with_reducible exact ⟨dw0, dw1, dw2, dw3⟩) | (with_reducible exact ⟨aw0, aw1, aw2, aw3⟩) | (with_reducible exact ⟨bw0, bw1, bw2, bw3⟩) | (exact ⟨((World.cell?_setCell_far _ _ _ _ hn1).trans ((World.cell?_setCell_far _ _ _ _ hn1).trans bw0)), ((World.cell?_setCell_far _ _ _ _ hn1).trans ((World.cell?_setCell_far _ _ _ _ hn1).trans bw1)), ((World.cell?_setCell_far _ _ _ _ hn2).trans ((World.cell?_setCell_far _ _ _ _ hn2).trans bw2)), ((World.cell?_setCell_far _ _ _ _ hn2).trans ((World.cell?_setCell_far _ _ _ _ hn2).trans bw3))⟩)) (first | (go_at_call 24; refine (hN _).mono ?_; rintro e wl ⟨rfl, gl⟩; have kl : Kp W wl := Kp.trans (Kp.drew (Kp.refl _)) gl; have aw0 := kkeep kl xw0; have aw1 := kkeep kl xw1; have aw2 := kkeep kl xw2; have aw3 := kkeep kl xw3) | (go_at_call 12; refine (hA _ ?q0).mono ?_; (case q0 => exact kw.trans kl); rintro e wh ⟨rfl, gh⟩; have kh : Kp W wh := Kp.trans kl gh; have bw0 := kkeep kh xw0; have bw1 := kkeep kh xw1; have bw2 := kkeep kh xw2; have bw3 := kkeep kh xw3; have R0 := kkeep kh r0; have Rz0 : wh.frozen? ⟨w.heap.size + 2, 0, none⟩ = false := (kfro kh (cell_lt r0)).trans rz0; have R1 := kkeep kh r1; have Rz1 : wh.frozen? ⟨w.heap.size + 2, 1, none⟩ = false := (kfro kh (cell_lt r1)).trans rz1))
  go_wp2
  exact bodyPost_ret (v := .agg #[.float .f64 RL, .float .f64 RH]) (by simp [results, Tryz.results25, go_sem, R0, R1]) rfl ⟨rfl, (((Kp.trans kw kh)).setCell (by simp <;> omega) _).setCell (by simp <;> omega) _⟩

def aLo (L1 H1 L2 H2 : Int) : Int := if L1 = 9218868437227405312 ∨ L2 = 9218868437227405312 then 9218868437227405312 else adZ (-1) L1 L2
def aHi (L1 H1 L2 H2 : Int) : Int := if L1 = 9218868437227405312 ∨ L2 = 9218868437227405312 then -9218868437227405312 else adZ 1 H1 H2
theorem add9_ (a b c d : Nat) (L1 H1 L2 H2 : Int) (hx : Rd a b L1 H1) (hy : Rd c d L2 H2) (w : World) (hT : TT w) : Calls Tryz.prog 12 #[.agg #[.float .f64 a, .float .f64 b], .agg #[.float .f64 c, .float .f64 d]] w fun e w' => e = .returned (.agg #[.float .f64 (pw (aLo L1 H1 L2 H2)), .float .f64 (pw (aHi L1 H1 L2 H2))]) ∧ Kp w w' := by
  have v1 := void9_ L1 H1 hx.vd
  have v2 := void9_ L2 H2 hy.vd
  unfold aLo aHi
  by_cases c1 : L1 = 9218868437227405312
  · rw [if_pos (Or.inl c1), if_pos (Or.inl c1), pw_I, pw_MI]
    rw [decide_eq_true c1] at v1
    exact add6v1_ a b c d _ _ _ _ hx.call hy.call v1 empty9_ w
  rw [decide_eq_false c1] at v1
  by_cases c2 : L2 = 9218868437227405312
  · rw [if_pos (Or.inr c2), if_pos (Or.inr c2), pw_I, pw_MI]
    rw [decide_eq_true c2] at v2
    exact add6v2_ a b c d _ _ _ _ hx.call hy.call v1 v2 empty9_ w
  rw [decide_eq_false c2] at v2
  rw [if_neg (by omega), if_neg (by omega)]
  have d1 := hx.vd
  have d2 := hy.vd
  have b1 := d1.lo; have b2 := d1.hi; have b3 := d2.lo; have b4 := d2.hi
  unfold VdZ at d1 d2
  exact add6n_ a b c d _ _ _ _ _ _ hx.call hy.call v1 v2 w (fun W k => addP_ (-1) L1 L2 (by omega) (by omega) b1 b3 (by omega) W (hT.kp k)) (fun W k => addP_ 1 H1 H2 (by omega) (by omega) b2 b4 (by omega) W (hT.kp k))
theorem sub9_ (a b c d : Nat) (L1 H1 L2 H2 : Int) (hx : Rd a b L1 H1) (hy : Rd c d L2 H2) (w : World) (hT : TT w) : Calls Tryz.prog 25 #[.agg #[.float .f64 a, .float .f64 b], .agg #[.float .f64 c, .float .f64 d]] w fun e w' => e = .returned (.agg #[.float .f64 (pw (aLo L1 H1 (-H2) (-L2))), .float .f64 (pw (aHi L1 H1 (-H2) (-L2)))]) ∧ Kp w w' :=
  sub6c_ a b c d _ _ _ _ w (neg9_ c d L2 H2 hy) (fun W k => add9_ a b _ _ L1 H1 (-H2) (-L2) hx (Rd.of (vd_neg _ _ hy.vd)) W (hT.kp k))
end Go.Proofs.YtkheefoabcibkaaGreatDoor
