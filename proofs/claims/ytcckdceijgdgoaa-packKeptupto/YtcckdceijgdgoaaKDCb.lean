import Derived.Test.YtcckdceijgdgoaaKDCa
namespace Go.Proofs.Ytcckdceijgdgoaa
open Go.RowKit

def H3c (w : World) (b : Nat) (v0 v1 v2 : Value) : Prop := w.cell? ⟨b, 0, none⟩ = some v0 ∧ w.cell? ⟨b, 1, none⟩ = some v1 ∧ w.cell? ⟨b, 2, none⟩ = some v2 ∧ w.frozen? ⟨b, 0, none⟩ = false ∧ w.frozen? ⟨b, 1, none⟩ = false ∧ w.frozen? ⟨b, 2, none⟩ = false
theorem H3c.keep {W w : World} {b : Nat} {v0 v1 v2 : Value} (h : H3c W b v0 v1 v2) (g : Kp W w) : H3c w b v0 v1 v2 := by
  obtain ⟨h0, h1, h2, h3, h4, h5⟩ := h
  exact ⟨kkeep g h0, kkeep g h1, kkeep g h2, (kfro g (cell_lt h0)).trans h3, (kfro g (cell_lt h0)).trans h4, (kfro g (cell_lt h0)).trans h5⟩
theorem H3c.new (w : World) (v0 v1 v2 : Value) (t : TypeId) : H3c (w.alloc (.cells #[v0, v1, v2] t)) w.heap.size v0 v1 v2 := by
  unfold H3c; simp [go_sem]
theorem H3c.lt {w : World} {b : Nat} {v0 v1 v2 : Value} (h : H3c w b v0 v1 v2) : b < w.heap.size := cell_lt h.1
set_option maxRecDepth 20000 in
set_option maxHeartbeats 1000000 in
theorem H3c.put {w : World} {b : Nat} {v0 v1 v2 : Value} (h : H3c w b v0 v1 v2) (u0 u1 u2 : Value) : H3c ((((w.setCell ⟨b, 0, none⟩ u0).setCell ⟨b, 1, none⟩ u1).setCell ⟨b, 2, none⟩ u2)) b u0 u1 u2 := by
  obtain ⟨h0, h1, h2, h3, h4, h5⟩ := h
  unfold H3c; simp [go_sem, h0, h1, h2, h3, h4, h5]
theorem H3c.two (w : World) (c : Array Value) (v0 v1 v2 : Value) (s t : TypeId) : H3c ((w.alloc (.cells c s)).alloc (.cells #[v0, v1, v2] t)) (w.heap.size + 1) v0 v1 v2 := by
  unfold H3c; simp [go_sem]
set_option maxRecDepth 20000 in
set_option maxHeartbeats 2000000 in
theorem dreadC_ (a b L H : Nat) (D : Int) (hx : ∀ w : World, Calls Try.prog 31 #[.agg #[.float .f64 a, .float .f64 b]] w fun e w' => e = .returned (.agg #[.float .f64 L, .float .f64 H]) ∧ Kp w w') (hv : ∀ w : World, Calls Try.prog 53 #[.agg #[.float .f64 L, .float .f64 H]] w fun e w' => e = .returned (.bool true) ∧ Kp w w') (E1 E2 : Bool) (u1 : (FloatKind.f64.format.order a L == some Ordering.eq) = E1) (u2 : (FloatKind.f64.format.order b H == some Ordering.eq) = E2) (u : (E1 && E2) = false) (w : World) : Calls Try.prog 38 #[.agg #[.float .f64 a, .float .f64 b, .int .i64 D]] w fun e w' => e = .returned (.agg #[.float .f64 9218868437227405312, .float .f64 18442240474082181120, .int .i64 0]) ∧ Kp w w' := by
  have q1 := Fq.eqInR a L
  have q2 := Fq.eqInR b H
  rw [u1] at q1
  rw [u2] at q2
  clear u1 u2
  cases E1 <;> cases E2
  case true.true => cases u
  all_goals (
    clear u
    go_enter Try.func38, Try.ntmps38
    go_wp2_with (first | (go_at_call 31; refine (hx _).mono ?_; rintro e w1 ⟨rfl, g1⟩; have k1 : Kp w w1 := Kp.trans (((Kp.refl w).alloc _).alloc _) g1; have sx := H3c.keep (H3c.keep (H3c.new w (.float .f64 a) (.float .f64 b) (.int .i64 D) 41) ((Kp.refl _).alloc (.cells #[.float .f64 0, .float .f64 0, .int .i64 0] 41))) g1; have sr := H3c.keep (H3c.two w #[.float .f64 a, .float .f64 b, .int .i64 D] (.float .f64 0) (.float .f64 0) (.int .i64 0) 41 41) g1) | (go_at_call 53; refine (hv _).mono ?_; rintro e w2 ⟨rfl, g2⟩; have k2 := Kp.trans (k1.alloc _) g2; have qy := Fq.H2.keep (Fq.H2.new w1 (.float .f64 L) (.float .f64 H) 31) g2; replace sx := H3c.keep (H3c.keep sx ((Kp.refl w1).alloc _)) g2; replace sr := H3c.keep (H3c.keep sr ((Kp.refl w1).alloc _)) g2; obtain ⟨x0, x1, x2, x3, x4, x5⟩ := id sx; obtain ⟨r0, r1, r2, r3, r4, r5⟩ := id sr; obtain ⟨y0, y1, y2, y3⟩ := id qy) | (go_at_call 54; refine (nai_ _).mono ?_; rintro e w5 ⟨rfl, g5⟩; have k5 := Kp.trans k2 g5; obtain ⟨r0, r1, r2, r3, r4, r5⟩ := H3c.keep sr g5))
    exact bodyPost_ret (v := .agg #[.float .f64 9218868437227405312, .float .f64 18442240474082181120, .int .i64 0]) (by simp [results, Try.results38, go_sem, r0, r1, r2]) rfl ⟨rfl, (((k5.setCell (by simp) _).setCell (by simp) _).setCell (by simp) _)⟩)
end Go.Proofs.Ytcckdceijgdgoaa
