import Derived.Test.YtipedmnipolmeaaKXPb
import Derived.Deep.Cut
import Derived.Deep.RegionHeld
import Derived.LoopTactic
namespace Go.Proofs.Ytipedmnipolmeaa
open Go.RowKit
set_option linter.unusedVariables false

def opOk (M used : Int) (k : Int) (x : Int) : Bool := if k < used then decide (0 ≤ x ∧ x ≤ M) else decide (x = 0)
def lnE (M c x0 x1 x2 x3 x4 : Int) : Int := if ¬ (1 ≤ x0 ∧ x0 ≤ 21) then 163 else if !(opOk M (opN x0) 0 x1 && opOk M (opN x0) 1 x2 && opOk M (opN x0) 2 x3) then 164 else if nbLo x0 ≤ x4 ∧ x4 ≤ nbHi x0 c then 0 else if x0 = 12 then 165 else 164

theorem lnE_op (M c x0 x1 x2 x3 x4 : Int) (h : ¬ (1 ≤ x0 ∧ x0 ≤ 21)) : lnE M c x0 x1 x2 x3 x4 = 163 := by unfold lnE; rw [if_pos h]
theorem lnE_arg (M c x0 x1 x2 x3 x4 : Int) (h : 1 ≤ x0 ∧ x0 ≤ 21) (h2 : opOk M (opN x0) 0 x1 = false ∨ opOk M (opN x0) 1 x2 = false ∨ opOk M (opN x0) 2 x3 = false) : lnE M c x0 x1 x2 x3 x4 = 164 := by
  unfold lnE
  rw [if_neg (by simpa using h), if_pos (by rcases h2 with h | h | h <;> simp [h])]
theorem lnE_num (M c x0 x1 x2 x3 x4 : Int) (h : 1 ≤ x0 ∧ x0 ≤ 21) (h1 : opOk M (opN x0) 0 x1 = true) (h2 : opOk M (opN x0) 1 x2 = true) (h3 : opOk M (opN x0) 2 x3 = true) : lnE M c x0 x1 x2 x3 x4 = if nbLo x0 ≤ x4 ∧ x4 ≤ nbHi x0 c then 0 else if x0 = 12 then 165 else 164 := by
  unfold lnE
  rw [if_neg (by simpa using h), if_neg (by simp [h1, h2, h3])]
def Kb (g : Nat) (w w' : World) : Prop := w'.os = w.os ∧ w'.tape = w.tape ∧ w'.output = w.output ∧ w.heap.size ≤ w'.heap.size ∧ ∀ k, k < w.heap.size → k ≠ g → w'.heap[k]? = w.heap[k]?
theorem Kb.refl (g : Nat) (w : World) : Kb g w w := ⟨rfl, rfl, rfl, Nat.le_refl _, fun _ _ _ => rfl⟩
theorem Kb.setCell {g : Nat} {w w' : World} (h : Kb g w w') (j : Nat) (v : Value) : Kb g w (w'.setCell ⟨g, j, none⟩ v) := by
  obtain ⟨h1, h2, h3, h4, h5⟩ := h
  refine ⟨h1, h2, h3, by simpa [World.setCell] using h4, fun k hk hne => ?_⟩
  rw [← h5 k hk hne]
  simp only [World.setCell, Array.getElem?_modify]
  rw [if_neg (by omega)]
theorem Kb.kp {g : Nat} {a w w' : World} (h : Kb g w w') (k : Kp a w) (hg : a.heap.size ≤ g) : Kp a w' :=
  ⟨h.1.trans k.os, h.2.1.trans k.tape, h.2.2.1.trans k.output, Nat.le_trans k.size h.2.2.2.1, fun i hi => (h.2.2.2.2 i (Nat.lt_of_lt_of_le hi k.size) (by omega)).trans (Below.block k i hi)⟩
theorem Kb.arr {g : Nat} {w w' : World} (h : Kb g w w') {b off : Nat} {v : Value} (hne : b ≠ g) (hc : w.cell? ⟨b, off, none⟩ = some v) : w'.cell? ⟨b, off, none⟩ = some v := by
  have e := h.2.2.2.2 b (cell_lt hc) hne
  rw [World.cell?_of_block (w := w) (a := ⟨b, off, none⟩) e]; exact hc
theorem kfro {W w : World} {b o : Nat} (g : Kp W w) (h : b < W.heap.size) : w.frozen? ⟨b, o, none⟩ = W.frozen? ⟨b, o, none⟩ := World.frozen?_of_block (w := W) (Below.block g b h)

def H2c (w : World) (b : Nat) (v0 v1 : Value) : Prop := w.cell? ⟨b, 0, none⟩ = some v0 ∧ w.cell? ⟨b, 1, none⟩ = some v1 ∧ w.frozen? ⟨b, 0, none⟩ = false ∧ w.frozen? ⟨b, 1, none⟩ = false
theorem H2c.keep {W w : World} {b : Nat} {v0 v1 : Value} (h : H2c W b v0 v1) (g : Kp W w) : H2c w b v0 v1 := by
  obtain ⟨h0, h1, h2, h3⟩ := h
  exact ⟨kkeep g h0, kkeep g h1, (kfro g (cell_lt h0)).trans h2, (kfro g (cell_lt h0)).trans h3⟩
theorem H2c.new (w : World) (v0 v1 : Value) (t : TypeId) : H2c (w.alloc (.cells #[v0, v1] t)) w.heap.size v0 v1 := by
  unfold H2c; simp [go_sem]
theorem H2c.lt {w : World} {b : Nat} {v0 v1 : Value} (h : H2c w b v0 v1) : b < w.heap.size := cell_lt h.1
set_option maxRecDepth 20000 in
set_option maxHeartbeats 1000000 in
theorem H2c.put {w : World} {b : Nat} {v0 v1 : Value} (h : H2c w b v0 v1) (u0 u1 : Value) : H2c (((w.setCell ⟨b, 0, none⟩ u0).setCell ⟨b, 1, none⟩ u1)) b u0 u1 := by
  obtain ⟨h0, h1, h2, h3⟩ := h
  unfold H2c; simp [go_sem, h0, h1, h2, h3]
theorem H2c.far1 {w : World} {b : Nat} {v0 v1 : Value} (h : H2c w b v0 v1) (x : Addr) (hne : x.block ≠ b) (u : Value) : H2c (w.setCell x u) b v0 v1 := by
  obtain ⟨h0, h1, h2, h3⟩ := h
  exact ⟨(World.cell?_setCell_far _ _ _ _ hne).trans h0, (World.cell?_setCell_far _ _ _ _ hne).trans h1, (World.frozen?_setCell _ _ _ _).trans h2, (World.frozen?_setCell _ _ _ _).trans h3⟩
set_option maxRecDepth 20000 in
set_option maxHeartbeats 4000000 in
theorem checkLineX_ (V : Int) (i : Nat) (pc : Option Addr) (lc cc b off lk ck : Nat) (x0 x1 x2 x3 x4 : Int) (hx : ¬ (1 ≤ x0 ∧ x0 ≤ 21)) (hV : 0 ≤ V ∧ V ≤ 32) (hi : i < lk) (hk : lk ≤ 1024) (hc : lc ≤ 256) (w : World) (e0 : w.cell? ⟨b, off + i * 5, none⟩ = some (.int .i64 x0)) (e1 : w.cell? ⟨b, off + i * 5 + 1, none⟩ = some (.int .i64 x1)) (e2 : w.cell? ⟨b, off + i * 5 + 2, none⟩ = some (.int .i64 x2)) (e3 : w.cell? ⟨b, off + i * 5 + 3, none⟩ = some (.int .i64 x3)) (e4 : w.cell? ⟨b, off + i * 5 + 4, none⟩ = some (.int .i64 x4)) : Calls Try.prog 23 #[.agg #[.int .i64 V, .slice pc lc cc, .slice (some ⟨b, off, none⟩) lk ck], .int .i64 (i : Int)] w fun e w' => e = .returned (.int .i64 163) ∧ Kp w w' := by
  have j1 : (i : Int) < (lk : Int) := by omega
  have kw : Kp w ((w.alloc (.cells #[.int .i64 V, .slice pc lc cc, .slice (some ⟨b, off, none⟩) lk ck] 32)).alloc (.cells #[.int .i64 x0, .int .i64 x1, .int .i64 x2, .int .i64 x3, .int .i64 x4] 62)) := ((Kp.refl w).alloc _).alloc _
  have kb : Kp w (w.alloc (.cells #[.int .i64 V, .slice pc lc cc, .slice (some ⟨b, off, none⟩) lk ck] 32)) := (Kp.refl w).alloc _
  replace e0 := kkeep kb e0
  replace e1 := kkeep kb e1
  replace e2 := kkeep kb e2
  replace e3 := kkeep kb e3
  replace e4 := kkeep kb e4
  have y0 : ((w.alloc (.cells #[.int .i64 V, .slice pc lc cc, .slice (some ⟨b, off, none⟩) lk ck] 32)).alloc (.cells #[.int .i64 x0, .int .i64 x1, .int .i64 x2, .int .i64 x3, .int .i64 x4] 62)).cell? ⟨w.heap.size + 1, 0, none⟩ = some (.int .i64 x0) := by simp [go_sem]
  have y1 : ((w.alloc (.cells #[.int .i64 V, .slice pc lc cc, .slice (some ⟨b, off, none⟩) lk ck] 32)).alloc (.cells #[.int .i64 x0, .int .i64 x1, .int .i64 x2, .int .i64 x3, .int .i64 x4] 62)).cell? ⟨w.heap.size + 1, 1, none⟩ = some (.int .i64 x1) := by simp [go_sem]
  have y2 : ((w.alloc (.cells #[.int .i64 V, .slice pc lc cc, .slice (some ⟨b, off, none⟩) lk ck] 32)).alloc (.cells #[.int .i64 x0, .int .i64 x1, .int .i64 x2, .int .i64 x3, .int .i64 x4] 62)).cell? ⟨w.heap.size + 1, 2, none⟩ = some (.int .i64 x2) := by simp [go_sem]
  have y3 : ((w.alloc (.cells #[.int .i64 V, .slice pc lc cc, .slice (some ⟨b, off, none⟩) lk ck] 32)).alloc (.cells #[.int .i64 x0, .int .i64 x1, .int .i64 x2, .int .i64 x3, .int .i64 x4] 62)).cell? ⟨w.heap.size + 1, 3, none⟩ = some (.int .i64 x3) := by simp [go_sem]
  have y4 : ((w.alloc (.cells #[.int .i64 V, .slice pc lc cc, .slice (some ⟨b, off, none⟩) lk ck] 32)).alloc (.cells #[.int .i64 x0, .int .i64 x1, .int .i64 x2, .int .i64 x3, .int .i64 x4] 62)).cell? ⟨w.heap.size + 1, 4, none⟩ = some (.int .i64 x4) := by simp [go_sem]
  have z0 : ((w.alloc (.cells #[.int .i64 V, .slice pc lc cc, .slice (some ⟨b, off, none⟩) lk ck] 32)).alloc (.cells #[.int .i64 x0, .int .i64 x1, .int .i64 x2, .int .i64 x3, .int .i64 x4] 62)).cell? ⟨w.heap.size, 0, none⟩ = some (.int .i64 V) := by simp [go_sem]
  have z1 : ((w.alloc (.cells #[.int .i64 V, .slice pc lc cc, .slice (some ⟨b, off, none⟩) lk ck] 32)).alloc (.cells #[.int .i64 x0, .int .i64 x1, .int .i64 x2, .int .i64 x3, .int .i64 x4] 62)).cell? ⟨w.heap.size, 1, none⟩ = some (.slice pc lc cc) := by simp [go_sem]
  clear kb
  have hho := fun W => hold_ 1 21 x0 W
  rw [show (decide (1 ≤ x0) && decide (x0 ≤ 21)) = false from by rw [Bool.and_eq_false_iff, decide_eq_false_iff_not, decide_eq_false_iff_not]; omega] at hho
  clear hx hV hi hk hc
  go_enter Try.func23, Try.ntmps23
  go_upto_region 2 with fail
  generalize ((w.alloc (.cells #[.int .i64 V, .slice pc lc cc, .slice (some ⟨b, off, none⟩) lk ck] 32)).alloc (.cells #[.int .i64 x0, .int .i64 x1, .int .i64 x2, .int .i64 x3, .int .i64 x4] 62)) = W0 at *
  generalize w.heap.size + 1 = B1 at *
  generalize hB0 : w.heap.size = B0 at *
  clear e0 e1 e2 e3 e4
  have kd : Kp w W0.drew := kw.drew
  replace y0 : W0.drew.cell? ⟨B1, 0, none⟩ = some (.int .i64 x0) := y0
  replace y1 : W0.drew.cell? ⟨B1, 1, none⟩ = some (.int .i64 x1) := y1
  replace y2 : W0.drew.cell? ⟨B1, 2, none⟩ = some (.int .i64 x2) := y2
  replace y3 : W0.drew.cell? ⟨B1, 3, none⟩ = some (.int .i64 x3) := y3
  replace y4 : W0.drew.cell? ⟨B1, 4, none⟩ = some (.int .i64 x4) := y4
  replace z0 : W0.drew.cell? ⟨B0, 0, none⟩ = some (.int .i64 V) := z0
  replace z1 : W0.drew.cell? ⟨B0, 1, none⟩ = some (.slice pc lc cc) := z1
  go_region_held3 (fun w' => w'.cell? ⟨B1, 0, none⟩ = some (.int .i64 x0)) (first | (with_reducible exact y0) | (exact kkeep k1 y0) | (exact kkeep k2 y0)) (first | (go_at_call 41; refine (opBounds_ _).mono ?_; rintro e w1 ⟨rfl, g1⟩; have k1 : Kp W0.drew w1 := g1) | (go_at_call 19; refine (hho _).mono ?_; rintro e w2 ⟨rfl, g2⟩; have k2 := k1.trans g2))
  all_goals (
    go_wp2
    exact bodyPost_ret (v := .int .i64 163) (by simp [results, Try.results23, go_sem]) rfl ⟨rfl, kd.trans k2⟩)
set_option maxRecDepth 20000 in
set_option maxHeartbeats 8000000 in
theorem checkLineB_ (V : Int) (i : Nat) (pc : Option Addr) (lc cc b off lk ck : Nat) (x0 x1 x2 x3 x4 : Int) (hx : 1 ≤ x0 ∧ x0 ≤ 21) (hV : 0 ≤ V ∧ V ≤ 32) (hi : i < lk) (hk : lk ≤ 1024) (hc : lc ≤ 256) (w : World) (e0 : w.cell? ⟨b, off + i * 5, none⟩ = some (.int .i64 x0)) (e1 : w.cell? ⟨b, off + i * 5 + 1, none⟩ = some (.int .i64 x1)) (e2 : w.cell? ⟨b, off + i * 5 + 2, none⟩ = some (.int .i64 x2)) (e3 : w.cell? ⟨b, off + i * 5 + 3, none⟩ = some (.int .i64 x3)) (e4 : w.cell? ⟨b, off + i * 5 + 4, none⟩ = some (.int .i64 x4)) : Calls Try.prog 23 #[.agg #[.int .i64 V, .slice pc lc cc, .slice (some ⟨b, off, none⟩) lk ck], .int .i64 (i : Int)] w fun e w' => e = .returned (.int .i64 (lnE (V + i - 1) lc x0 x1 x2 x3 x4)) ∧ Kp w w' := by
  have j1 : (i : Int) < (lk : Int) := by omega
  have kw : Kp w ((w.alloc (.cells #[.int .i64 V, .slice pc lc cc, .slice (some ⟨b, off, none⟩) lk ck] 32)).alloc (.cells #[.int .i64 x0, .int .i64 x1, .int .i64 x2, .int .i64 x3, .int .i64 x4] 62)) := ((Kp.refl w).alloc _).alloc _
  have kb : Kp w (w.alloc (.cells #[.int .i64 V, .slice pc lc cc, .slice (some ⟨b, off, none⟩) lk ck] 32)) := (Kp.refl w).alloc _
  replace e0 := kkeep kb e0
  replace e1 := kkeep kb e1
  replace e2 := kkeep kb e2
  replace e3 := kkeep kb e3
  replace e4 := kkeep kb e4
  have y0 : ((w.alloc (.cells #[.int .i64 V, .slice pc lc cc, .slice (some ⟨b, off, none⟩) lk ck] 32)).alloc (.cells #[.int .i64 x0, .int .i64 x1, .int .i64 x2, .int .i64 x3, .int .i64 x4] 62)).cell? ⟨w.heap.size + 1, 0, none⟩ = some (.int .i64 x0) := by simp [go_sem]
  have y1 : ((w.alloc (.cells #[.int .i64 V, .slice pc lc cc, .slice (some ⟨b, off, none⟩) lk ck] 32)).alloc (.cells #[.int .i64 x0, .int .i64 x1, .int .i64 x2, .int .i64 x3, .int .i64 x4] 62)).cell? ⟨w.heap.size + 1, 1, none⟩ = some (.int .i64 x1) := by simp [go_sem]
  have y2 : ((w.alloc (.cells #[.int .i64 V, .slice pc lc cc, .slice (some ⟨b, off, none⟩) lk ck] 32)).alloc (.cells #[.int .i64 x0, .int .i64 x1, .int .i64 x2, .int .i64 x3, .int .i64 x4] 62)).cell? ⟨w.heap.size + 1, 2, none⟩ = some (.int .i64 x2) := by simp [go_sem]
  have y3 : ((w.alloc (.cells #[.int .i64 V, .slice pc lc cc, .slice (some ⟨b, off, none⟩) lk ck] 32)).alloc (.cells #[.int .i64 x0, .int .i64 x1, .int .i64 x2, .int .i64 x3, .int .i64 x4] 62)).cell? ⟨w.heap.size + 1, 3, none⟩ = some (.int .i64 x3) := by simp [go_sem]
  have y4 : ((w.alloc (.cells #[.int .i64 V, .slice pc lc cc, .slice (some ⟨b, off, none⟩) lk ck] 32)).alloc (.cells #[.int .i64 x0, .int .i64 x1, .int .i64 x2, .int .i64 x3, .int .i64 x4] 62)).cell? ⟨w.heap.size + 1, 4, none⟩ = some (.int .i64 x4) := by simp [go_sem]
  have z0 : ((w.alloc (.cells #[.int .i64 V, .slice pc lc cc, .slice (some ⟨b, off, none⟩) lk ck] 32)).alloc (.cells #[.int .i64 x0, .int .i64 x1, .int .i64 x2, .int .i64 x3, .int .i64 x4] 62)).cell? ⟨w.heap.size, 0, none⟩ = some (.int .i64 V) := by simp [go_sem]
  have z1 : ((w.alloc (.cells #[.int .i64 V, .slice pc lc cc, .slice (some ⟨b, off, none⟩) lk ck] 32)).alloc (.cells #[.int .i64 x0, .int .i64 x1, .int .i64 x2, .int .i64 x3, .int .i64 x4] 62)).cell? ⟨w.heap.size, 1, none⟩ = some (.slice pc lc cc) := by simp [go_sem]
  clear kb
  have hod := operandBounds_ V (i : Int) (by omega) (by omega)
  have hnb := numberBounds_ x0 (lc : Int) (by omega)
  have hop := operands_ x0
  obtain ⟨M, hM⟩ : ∃ M : Int, M = V + i - 1 := ⟨_, rfl⟩
  rw [← hM] at hod ⊢
  obtain ⟨R, hR⟩ : ∃ R : Int, R = lnE M lc x0 x1 x2 x3 x4 := ⟨_, rfl⟩
  rw [← hR]
  have HRR : Hid (R = lnE M lc x0 x1 x2 x3 x4) := hR
  have hho := fun W => hold_ 1 21 x0 W
  rw [show (decide (1 ≤ x0) && decide (x0 ≤ 21)) = true from by simp [hx]] at hho
  obtain ⟨U, hU⟩ : ∃ U : Int, U = opN x0 := ⟨_, rfl⟩
  rw [← hU] at hop
  have HX : Hid ((1 ≤ x0 ∧ x0 ≤ 21) ∧ opN x0 = U) := ⟨hx, hU.symm⟩
  clear hx hU hM hR hV hi hk hc
  go_enter Try.func23, Try.ntmps23
  go_upto_region 2 with fail
  generalize ((w.alloc (.cells #[.int .i64 V, .slice pc lc cc, .slice (some ⟨b, off, none⟩) lk ck] 32)).alloc (.cells #[.int .i64 x0, .int .i64 x1, .int .i64 x2, .int .i64 x3, .int .i64 x4] 62)) = W0 at *
  generalize w.heap.size + 1 = B1 at *
  generalize hB0 : w.heap.size = B0 at *
  clear e0 e1 e2 e3 e4
  have kd : Kp w W0.drew := kw.drew
  replace y0 : W0.drew.cell? ⟨B1, 0, none⟩ = some (.int .i64 x0) := y0
  replace y1 : W0.drew.cell? ⟨B1, 1, none⟩ = some (.int .i64 x1) := y1
  replace y2 : W0.drew.cell? ⟨B1, 2, none⟩ = some (.int .i64 x2) := y2
  replace y3 : W0.drew.cell? ⟨B1, 3, none⟩ = some (.int .i64 x3) := y3
  replace y4 : W0.drew.cell? ⟨B1, 4, none⟩ = some (.int .i64 x4) := y4
  replace z0 : W0.drew.cell? ⟨B0, 0, none⟩ = some (.int .i64 V) := z0
  replace z1 : W0.drew.cell? ⟨B0, 1, none⟩ = some (.slice pc lc cc) := z1
  go_region_held3 (fun w' => w'.cell? ⟨B1, 0, none⟩ = some (.int .i64 x0)) (first | (with_reducible exact y0) | (exact kkeep k1 y0) | (exact kkeep k2 y0)) (first | (go_at_call 41; refine (opBounds_ _).mono ?_; rintro e w1 ⟨rfl, g1⟩; have k1 : Kp W0.drew w1 := g1) | (go_at_call 19; refine (hho _).mono ?_; rintro e w2 ⟨rfl, g2⟩; have k2 := k1.trans g2))
  go_wp2_with fail
  refine (hop _).mono ?_; rintro e w' ⟨rfl, hw'⟩; obtain rfl := hw'.symm; clear hw'
  have HS : Hid ((w2.cell? ⟨B1, 0, none⟩ = some (.int .i64 x0) ∧ w2.cell? ⟨B1, 1, none⟩ = some (.int .i64 x1) ∧ w2.cell? ⟨B1, 2, none⟩ = some (.int .i64 x2) ∧ w2.cell? ⟨B1, 3, none⟩ = some (.int .i64 x3) ∧ w2.cell? ⟨B1, 4, none⟩ = some (.int .i64 x4) ∧ w2.cell? ⟨B0, 0, none⟩ = some (.int .i64 V) ∧ w2.cell? ⟨B0, 1, none⟩ = some (.slice pc lc cc)) ∧ Kp w w2) := ⟨⟨kkeep k2 y0, kkeep k2 y1, kkeep k2 y2, kkeep k2 y3, kkeep k2 y4, kkeep k2 z0, kkeep k2 z1⟩, kd.trans k2⟩
  replace y0 := kkeep k2 y0
  replace y1 := kkeep k2 y1
  replace y2 := kkeep k2 y2
  replace y3 := kkeep k2 y3
  clear kd k1 k2 g1 g2 hho kw y4 z0 z1
  go_wp2_with fail
  clear y0 y1 y2 y3
  go_loopw [7, 8, 9, 30] (fun s7 s8 s9 s30 wr => ∃ j : Nat, ((j = 0 ∧ s30 = .int .i64 0) ∨ (j = 1 ∧ s30 = .int .i64 1) ∨ (j = 2 ∧ s30 = .int .i64 2) ∨ (j = 3 ∧ s30 = .int .i64 3)) ∧ (∀ k : Nat, k < j → opOk M U (k : Int) (if k = 0 then x1 else if k = 1 then x2 else x3) = true) ∧ (wr.cell? ⟨B1, 0, none⟩ = some (.int .i64 x0) ∧ wr.cell? ⟨B1, 1, none⟩ = some (.int .i64 x1) ∧ wr.cell? ⟨B1, 2, none⟩ = some (.int .i64 x2) ∧ wr.cell? ⟨B1, 3, none⟩ = some (.int .i64 x3) ∧ wr.cell? ⟨B1, 4, none⟩ = some (.int .i64 x4) ∧ wr.cell? ⟨B0, 0, none⟩ = some (.int .i64 V) ∧ wr.cell? ⟨B0, 1, none⟩ = some (.slice pc lc cc)) ∧ Kp w wr) (fun _ _ _ s30 _ => 3 - (intOf s30).toNat)
  case atStart => exact ⟨0, Or.inl ⟨rfl, rfl⟩, fun k hk => by omega, HS.out.1, HS.out.2⟩
  case round =>
    obtain ⟨j, hj, hall, ⟨y0, y1, y2, y3, y4, z0, z1⟩, hk⟩ := hrel
    clear HS
    have HK : Hid (Kp w wr) := hk
    have y0' := y0
    have z0' := z0
    clear hk
    rcases hj with ⟨rfl, rfl⟩ | ⟨rfl, rfl⟩ | ⟨rfl, rfl⟩ | ⟨rfl, rfl⟩
    · by_cases cu : (0 : Int) < U
      · by_cases hk9 : 0 ≤ x1 ∧ x1 ≤ M
        · have hix : ∀ w : World, (Instr.index 101 (.agg #[.int .i64 x1, .int .i64 x2, .int .i64 x3]) (.int .i64 0)).run Try.prog w = .ok (.int .i64 x1) w := fun w => by kernel_rfl
          have hh := fun W => hold_ 0 M x1 W
          rw [show (decide (0 ≤ x1) && decide (x1 ≤ M)) = true from by simp [hk9]] at hh
          have HO : Hid (∀ k : Nat, k < 1 → opOk M U (k : Int) (if k = 0 then x1 else if k = 1 then x2 else x3) = true) := fun k hk => by
            by_cases c : k = 0
            · subst c; exact (show opOk M U 0 x1 = true by unfold opOk; rw [if_pos cu]; simpa using hk9)
            · exact hall k (by omega)
          have kA : Kp wr (wr.alloc (.cells #[.int .i64 0, .int .i64 0] 54)) := (Kp.refl wr).alloc _
          have hm := H2c.new wr (.int .i64 0) (.int .i64 0) 54
          have HA : Hid (Kp w (wr.alloc (.cells #[.int .i64 0, .int .i64 0] 54)) ∧ w.heap.size ≤ wr.heap.size ∧ ((wr.alloc (.cells #[.int .i64 0, .int .i64 0] 54)).cell? ⟨B1, 0, none⟩ = some (.int .i64 x0) ∧ (wr.alloc (.cells #[.int .i64 0, .int .i64 0] 54)).cell? ⟨B1, 1, none⟩ = some (.int .i64 x1) ∧ (wr.alloc (.cells #[.int .i64 0, .int .i64 0] 54)).cell? ⟨B1, 2, none⟩ = some (.int .i64 x2) ∧ (wr.alloc (.cells #[.int .i64 0, .int .i64 0] 54)).cell? ⟨B1, 3, none⟩ = some (.int .i64 x3) ∧ (wr.alloc (.cells #[.int .i64 0, .int .i64 0] 54)).cell? ⟨B1, 4, none⟩ = some (.int .i64 x4) ∧ (wr.alloc (.cells #[.int .i64 0, .int .i64 0] 54)).cell? ⟨B0, 0, none⟩ = some (.int .i64 V) ∧ (wr.alloc (.cells #[.int .i64 0, .int .i64 0] 54)).cell? ⟨B0, 1, none⟩ = some (.slice pc lc cc))) := ⟨HK.out.trans kA, HK.out.size, ⟨kkeep kA y0, kkeep kA y1, kkeep kA y2, kkeep kA y3, kkeep kA y4, kkeep kA z0, kkeep kA z1⟩⟩
          replace z0 := kkeep kA z0
          clear hall hk9 kA HK
          go_wp2_with fail
          refine (hod _).mono ?_
          rintro e w3 ⟨rfl, g3⟩
          obtain ⟨kA, hsz, y0, y1, y2, y3, y4, z0, z1⟩ := HA.out
          have hlb := cell_lt y0'
          have hlz := cell_lt z0'
          have kbs : Kb wr.heap.size w3 ((w3.setCell ⟨wr.heap.size, 0, none⟩ (.int .i64 0)).setCell ⟨wr.heap.size, 1, none⟩ (.int .i64 M)) := (((Kb.refl _ w3).setCell 0 _).setCell 1 _)
          have hm3 := hm.keep g3
          have kC : Kp w ((w3.setCell ⟨wr.heap.size, 0, none⟩ (.int .i64 0)).setCell ⟨wr.heap.size, 1, none⟩ (.int .i64 M)) := kbs.kp (kA.trans g3) hsz
          have HB0 : Hid ((((w3.setCell ⟨wr.heap.size, 0, none⟩ (.int .i64 0)).setCell ⟨wr.heap.size, 1, none⟩ (.int .i64 M)).cell? ⟨B1, 0, none⟩ = some (.int .i64 x0) ∧ ((w3.setCell ⟨wr.heap.size, 0, none⟩ (.int .i64 0)).setCell ⟨wr.heap.size, 1, none⟩ (.int .i64 M)).cell? ⟨B1, 1, none⟩ = some (.int .i64 x1) ∧ ((w3.setCell ⟨wr.heap.size, 0, none⟩ (.int .i64 0)).setCell ⟨wr.heap.size, 1, none⟩ (.int .i64 M)).cell? ⟨B1, 2, none⟩ = some (.int .i64 x2) ∧ ((w3.setCell ⟨wr.heap.size, 0, none⟩ (.int .i64 0)).setCell ⟨wr.heap.size, 1, none⟩ (.int .i64 M)).cell? ⟨B1, 3, none⟩ = some (.int .i64 x3) ∧ ((w3.setCell ⟨wr.heap.size, 0, none⟩ (.int .i64 0)).setCell ⟨wr.heap.size, 1, none⟩ (.int .i64 M)).cell? ⟨B1, 4, none⟩ = some (.int .i64 x4) ∧ ((w3.setCell ⟨wr.heap.size, 0, none⟩ (.int .i64 0)).setCell ⟨wr.heap.size, 1, none⟩ (.int .i64 M)).cell? ⟨B0, 0, none⟩ = some (.int .i64 V) ∧ ((w3.setCell ⟨wr.heap.size, 0, none⟩ (.int .i64 0)).setCell ⟨wr.heap.size, 1, none⟩ (.int .i64 M)).cell? ⟨B0, 1, none⟩ = some (.slice pc lc cc)) ∧ Kp w ((w3.setCell ⟨wr.heap.size, 0, none⟩ (.int .i64 0)).setCell ⟨wr.heap.size, 1, none⟩ (.int .i64 M))) := ⟨⟨kbs.arr (by omega) (kkeep g3 y0), kbs.arr (by omega) (kkeep g3 y1), kbs.arr (by omega) (kkeep g3 y2), kbs.arr (by omega) (kkeep g3 y3), kbs.arr (by omega) (kkeep g3 y4), kbs.arr (by omega) (kkeep g3 z0), kbs.arr (by omega) (kkeep g3 z1)⟩, kC⟩
          obtain ⟨m0, m1, m2, m3⟩ := hm3
          clear kA hsz y0 y1 y2 y3 y4 z0 z1 hlb hlz kbs kC HA
          go_wp2_with fail
          refine (hh _).mono ?_
          rintro e w4 ⟨rfl, g4⟩
          obtain ⟨⟨y0, y1, y2, y3, y4, z0, z1⟩, kC⟩ := HB0.out
          have HB : Hid ((w4.cell? ⟨B1, 0, none⟩ = some (.int .i64 x0) ∧ w4.cell? ⟨B1, 1, none⟩ = some (.int .i64 x1) ∧ w4.cell? ⟨B1, 2, none⟩ = some (.int .i64 x2) ∧ w4.cell? ⟨B1, 3, none⟩ = some (.int .i64 x3) ∧ w4.cell? ⟨B1, 4, none⟩ = some (.int .i64 x4) ∧ w4.cell? ⟨B0, 0, none⟩ = some (.int .i64 V) ∧ w4.cell? ⟨B0, 1, none⟩ = some (.slice pc lc cc)) ∧ Kp w w4) := ⟨⟨kkeep g4 y0, kkeep g4 y1, kkeep g4 y2, kkeep g4 y3, kkeep g4 y4, kkeep g4 z0, kkeep g4 z1⟩, kC.trans g4⟩
          clear y0 y1 y2 y3 y4 z0 z1 kC HB0
          go_wp2
          exact ⟨⟨1, Or.inr (Or.inl ⟨rfl, rfl⟩), HO.out, HB.out.1, HB.out.2⟩, by decide⟩
        · have hix : ∀ w : World, (Instr.index 101 (.agg #[.int .i64 x1, .int .i64 x2, .int .i64 x3]) (.int .i64 0)).run Try.prog w = .ok (.int .i64 x1) w := fun w => by kernel_rfl
          have hh := fun W => hold_ 0 M x1 W
          rw [show (decide (0 ≤ x1) && decide (x1 ≤ M)) = false from by rw [Bool.and_eq_false_iff, decide_eq_false_iff_not, decide_eq_false_iff_not]; omega] at hh
          have HO : Hid (lnE M lc x0 x1 x2 x3 x4 = 164) := lnE_arg _ _ _ _ _ _ _ HX.out.1 (by rw [HX.out.2]; exact Or.inl (by unfold opOk; rw [if_pos cu]; rw [decide_eq_false_iff_not]; omega))
          have kA : Kp wr (wr.alloc (.cells #[.int .i64 0, .int .i64 0] 54)) := (Kp.refl wr).alloc _
          have hm := H2c.new wr (.int .i64 0) (.int .i64 0) 54
          have HA : Hid (Kp w (wr.alloc (.cells #[.int .i64 0, .int .i64 0] 54)) ∧ w.heap.size ≤ wr.heap.size ∧ ((wr.alloc (.cells #[.int .i64 0, .int .i64 0] 54)).cell? ⟨B1, 0, none⟩ = some (.int .i64 x0) ∧ (wr.alloc (.cells #[.int .i64 0, .int .i64 0] 54)).cell? ⟨B1, 1, none⟩ = some (.int .i64 x1) ∧ (wr.alloc (.cells #[.int .i64 0, .int .i64 0] 54)).cell? ⟨B1, 2, none⟩ = some (.int .i64 x2) ∧ (wr.alloc (.cells #[.int .i64 0, .int .i64 0] 54)).cell? ⟨B1, 3, none⟩ = some (.int .i64 x3) ∧ (wr.alloc (.cells #[.int .i64 0, .int .i64 0] 54)).cell? ⟨B1, 4, none⟩ = some (.int .i64 x4) ∧ (wr.alloc (.cells #[.int .i64 0, .int .i64 0] 54)).cell? ⟨B0, 0, none⟩ = some (.int .i64 V) ∧ (wr.alloc (.cells #[.int .i64 0, .int .i64 0] 54)).cell? ⟨B0, 1, none⟩ = some (.slice pc lc cc))) := ⟨HK.out.trans kA, HK.out.size, ⟨kkeep kA y0, kkeep kA y1, kkeep kA y2, kkeep kA y3, kkeep kA y4, kkeep kA z0, kkeep kA z1⟩⟩
          replace z0 := kkeep kA z0
          clear hall hk9 kA HK
          go_wp2_with fail
          refine (hod _).mono ?_
          rintro e w3 ⟨rfl, g3⟩
          obtain ⟨kA, hsz, y0, y1, y2, y3, y4, z0, z1⟩ := HA.out
          have hlb := cell_lt y0'
          have hlz := cell_lt z0'
          have kbs : Kb wr.heap.size w3 ((w3.setCell ⟨wr.heap.size, 0, none⟩ (.int .i64 0)).setCell ⟨wr.heap.size, 1, none⟩ (.int .i64 M)) := (((Kb.refl _ w3).setCell 0 _).setCell 1 _)
          have hm3 := hm.keep g3
          have kC : Kp w ((w3.setCell ⟨wr.heap.size, 0, none⟩ (.int .i64 0)).setCell ⟨wr.heap.size, 1, none⟩ (.int .i64 M)) := kbs.kp (kA.trans g3) hsz
          have HB0 : Hid ((((w3.setCell ⟨wr.heap.size, 0, none⟩ (.int .i64 0)).setCell ⟨wr.heap.size, 1, none⟩ (.int .i64 M)).cell? ⟨B1, 0, none⟩ = some (.int .i64 x0) ∧ ((w3.setCell ⟨wr.heap.size, 0, none⟩ (.int .i64 0)).setCell ⟨wr.heap.size, 1, none⟩ (.int .i64 M)).cell? ⟨B1, 1, none⟩ = some (.int .i64 x1) ∧ ((w3.setCell ⟨wr.heap.size, 0, none⟩ (.int .i64 0)).setCell ⟨wr.heap.size, 1, none⟩ (.int .i64 M)).cell? ⟨B1, 2, none⟩ = some (.int .i64 x2) ∧ ((w3.setCell ⟨wr.heap.size, 0, none⟩ (.int .i64 0)).setCell ⟨wr.heap.size, 1, none⟩ (.int .i64 M)).cell? ⟨B1, 3, none⟩ = some (.int .i64 x3) ∧ ((w3.setCell ⟨wr.heap.size, 0, none⟩ (.int .i64 0)).setCell ⟨wr.heap.size, 1, none⟩ (.int .i64 M)).cell? ⟨B1, 4, none⟩ = some (.int .i64 x4) ∧ ((w3.setCell ⟨wr.heap.size, 0, none⟩ (.int .i64 0)).setCell ⟨wr.heap.size, 1, none⟩ (.int .i64 M)).cell? ⟨B0, 0, none⟩ = some (.int .i64 V) ∧ ((w3.setCell ⟨wr.heap.size, 0, none⟩ (.int .i64 0)).setCell ⟨wr.heap.size, 1, none⟩ (.int .i64 M)).cell? ⟨B0, 1, none⟩ = some (.slice pc lc cc)) ∧ Kp w ((w3.setCell ⟨wr.heap.size, 0, none⟩ (.int .i64 0)).setCell ⟨wr.heap.size, 1, none⟩ (.int .i64 M))) := ⟨⟨kbs.arr (by omega) (kkeep g3 y0), kbs.arr (by omega) (kkeep g3 y1), kbs.arr (by omega) (kkeep g3 y2), kbs.arr (by omega) (kkeep g3 y3), kbs.arr (by omega) (kkeep g3 y4), kbs.arr (by omega) (kkeep g3 z0), kbs.arr (by omega) (kkeep g3 z1)⟩, kC⟩
          obtain ⟨m0, m1, m2, m3⟩ := hm3
          clear kA hsz y0 y1 y2 y3 y4 z0 z1 hlb hlz kbs kC HA
          go_wp2_with fail
          refine (hh _).mono ?_
          rintro e w4 ⟨rfl, g4⟩
          obtain ⟨⟨y0, y1, y2, y3, y4, z0, z1⟩, kC⟩ := HB0.out
          have HB : Hid ((w4.cell? ⟨B1, 0, none⟩ = some (.int .i64 x0) ∧ w4.cell? ⟨B1, 1, none⟩ = some (.int .i64 x1) ∧ w4.cell? ⟨B1, 2, none⟩ = some (.int .i64 x2) ∧ w4.cell? ⟨B1, 3, none⟩ = some (.int .i64 x3) ∧ w4.cell? ⟨B1, 4, none⟩ = some (.int .i64 x4) ∧ w4.cell? ⟨B0, 0, none⟩ = some (.int .i64 V) ∧ w4.cell? ⟨B0, 1, none⟩ = some (.slice pc lc cc)) ∧ Kp w w4) := ⟨⟨kkeep g4 y0, kkeep g4 y1, kkeep g4 y2, kkeep g4 y3, kkeep g4 y4, kkeep g4 z0, kkeep g4 z1⟩, kC.trans g4⟩
          clear y0 y1 y2 y3 y4 z0 z1 kC HB0
          obtain rfl : R = 164 := HRR.out.trans HO.out
          go_wp2
          exact bodyPost_ret (v := .int .i64 164) (by simp [results, Try.results23, go_sem]) rfl ⟨rfl, HB.out.2⟩
      · by_cases hk9 : 0 ≤ x1 ∧ x1 ≤ 0
        · have hix : ∀ w : World, (Instr.index 101 (.agg #[.int .i64 x1, .int .i64 x2, .int .i64 x3]) (.int .i64 0)).run Try.prog w = .ok (.int .i64 x1) w := fun w => by kernel_rfl
          have hh := fun W => hold_ 0 0 x1 W
          rw [show (decide (0 ≤ x1) && decide (x1 ≤ 0)) = true from by simp [hk9]] at hh
          have HO : Hid (∀ k : Nat, k < 1 → opOk M U (k : Int) (if k = 0 then x1 else if k = 1 then x2 else x3) = true) := fun k hk => by
            by_cases c : k = 0
            · subst c; exact (show opOk M U 0 x1 = true by unfold opOk; rw [if_neg cu]; simpa using (show x1 = 0 by omega))
            · exact hall k (by omega)
          have kA : Kp wr (wr.alloc (.cells #[.int .i64 0, .int .i64 0] 54)) := (Kp.refl wr).alloc _
          have hm := H2c.new wr (.int .i64 0) (.int .i64 0) 54
          have HA : Hid (Kp w (wr.alloc (.cells #[.int .i64 0, .int .i64 0] 54)) ∧ w.heap.size ≤ wr.heap.size ∧ ((wr.alloc (.cells #[.int .i64 0, .int .i64 0] 54)).cell? ⟨B1, 0, none⟩ = some (.int .i64 x0) ∧ (wr.alloc (.cells #[.int .i64 0, .int .i64 0] 54)).cell? ⟨B1, 1, none⟩ = some (.int .i64 x1) ∧ (wr.alloc (.cells #[.int .i64 0, .int .i64 0] 54)).cell? ⟨B1, 2, none⟩ = some (.int .i64 x2) ∧ (wr.alloc (.cells #[.int .i64 0, .int .i64 0] 54)).cell? ⟨B1, 3, none⟩ = some (.int .i64 x3) ∧ (wr.alloc (.cells #[.int .i64 0, .int .i64 0] 54)).cell? ⟨B1, 4, none⟩ = some (.int .i64 x4) ∧ (wr.alloc (.cells #[.int .i64 0, .int .i64 0] 54)).cell? ⟨B0, 0, none⟩ = some (.int .i64 V) ∧ (wr.alloc (.cells #[.int .i64 0, .int .i64 0] 54)).cell? ⟨B0, 1, none⟩ = some (.slice pc lc cc))) := ⟨HK.out.trans kA, HK.out.size, ⟨kkeep kA y0, kkeep kA y1, kkeep kA y2, kkeep kA y3, kkeep kA y4, kkeep kA z0, kkeep kA z1⟩⟩
          replace z0 := kkeep kA z0
          clear hall hk9 kA HK
          go_wp2_with fail
          refine (hh _).mono ?_
          rintro e w4 ⟨rfl, g4⟩
          obtain ⟨kA, hsz, y0, y1, y2, y3, y4, z0, z1⟩ := HA.out
          have HB : Hid ((w4.cell? ⟨B1, 0, none⟩ = some (.int .i64 x0) ∧ w4.cell? ⟨B1, 1, none⟩ = some (.int .i64 x1) ∧ w4.cell? ⟨B1, 2, none⟩ = some (.int .i64 x2) ∧ w4.cell? ⟨B1, 3, none⟩ = some (.int .i64 x3) ∧ w4.cell? ⟨B1, 4, none⟩ = some (.int .i64 x4) ∧ w4.cell? ⟨B0, 0, none⟩ = some (.int .i64 V) ∧ w4.cell? ⟨B0, 1, none⟩ = some (.slice pc lc cc)) ∧ Kp w w4) := ⟨⟨kkeep g4 y0, kkeep g4 y1, kkeep g4 y2, kkeep g4 y3, kkeep g4 y4, kkeep g4 z0, kkeep g4 z1⟩, kA.trans g4⟩
          clear kA hsz y0 y1 y2 y3 y4 z0 z1 HA
          go_wp2
          exact ⟨⟨1, Or.inr (Or.inl ⟨rfl, rfl⟩), HO.out, HB.out.1, HB.out.2⟩, by decide⟩
        · have hix : ∀ w : World, (Instr.index 101 (.agg #[.int .i64 x1, .int .i64 x2, .int .i64 x3]) (.int .i64 0)).run Try.prog w = .ok (.int .i64 x1) w := fun w => by kernel_rfl
          have hh := fun W => hold_ 0 0 x1 W
          rw [show (decide (0 ≤ x1) && decide (x1 ≤ 0)) = false from by rw [Bool.and_eq_false_iff, decide_eq_false_iff_not, decide_eq_false_iff_not]; omega] at hh
          have HO : Hid (lnE M lc x0 x1 x2 x3 x4 = 164) := lnE_arg _ _ _ _ _ _ _ HX.out.1 (by rw [HX.out.2]; exact Or.inl (by unfold opOk; rw [if_neg cu]; rw [decide_eq_false_iff_not]; omega))
          have kA : Kp wr (wr.alloc (.cells #[.int .i64 0, .int .i64 0] 54)) := (Kp.refl wr).alloc _
          have hm := H2c.new wr (.int .i64 0) (.int .i64 0) 54
          have HA : Hid (Kp w (wr.alloc (.cells #[.int .i64 0, .int .i64 0] 54)) ∧ w.heap.size ≤ wr.heap.size ∧ ((wr.alloc (.cells #[.int .i64 0, .int .i64 0] 54)).cell? ⟨B1, 0, none⟩ = some (.int .i64 x0) ∧ (wr.alloc (.cells #[.int .i64 0, .int .i64 0] 54)).cell? ⟨B1, 1, none⟩ = some (.int .i64 x1) ∧ (wr.alloc (.cells #[.int .i64 0, .int .i64 0] 54)).cell? ⟨B1, 2, none⟩ = some (.int .i64 x2) ∧ (wr.alloc (.cells #[.int .i64 0, .int .i64 0] 54)).cell? ⟨B1, 3, none⟩ = some (.int .i64 x3) ∧ (wr.alloc (.cells #[.int .i64 0, .int .i64 0] 54)).cell? ⟨B1, 4, none⟩ = some (.int .i64 x4) ∧ (wr.alloc (.cells #[.int .i64 0, .int .i64 0] 54)).cell? ⟨B0, 0, none⟩ = some (.int .i64 V) ∧ (wr.alloc (.cells #[.int .i64 0, .int .i64 0] 54)).cell? ⟨B0, 1, none⟩ = some (.slice pc lc cc))) := ⟨HK.out.trans kA, HK.out.size, ⟨kkeep kA y0, kkeep kA y1, kkeep kA y2, kkeep kA y3, kkeep kA y4, kkeep kA z0, kkeep kA z1⟩⟩
          replace z0 := kkeep kA z0
          clear hall hk9 kA HK
          go_wp2_with fail
          refine (hh _).mono ?_
          rintro e w4 ⟨rfl, g4⟩
          obtain ⟨kA, hsz, y0, y1, y2, y3, y4, z0, z1⟩ := HA.out
          have HB : Hid ((w4.cell? ⟨B1, 0, none⟩ = some (.int .i64 x0) ∧ w4.cell? ⟨B1, 1, none⟩ = some (.int .i64 x1) ∧ w4.cell? ⟨B1, 2, none⟩ = some (.int .i64 x2) ∧ w4.cell? ⟨B1, 3, none⟩ = some (.int .i64 x3) ∧ w4.cell? ⟨B1, 4, none⟩ = some (.int .i64 x4) ∧ w4.cell? ⟨B0, 0, none⟩ = some (.int .i64 V) ∧ w4.cell? ⟨B0, 1, none⟩ = some (.slice pc lc cc)) ∧ Kp w w4) := ⟨⟨kkeep g4 y0, kkeep g4 y1, kkeep g4 y2, kkeep g4 y3, kkeep g4 y4, kkeep g4 z0, kkeep g4 z1⟩, kA.trans g4⟩
          clear kA hsz y0 y1 y2 y3 y4 z0 z1 HA
          obtain rfl : R = 164 := HRR.out.trans HO.out
          go_wp2
          exact bodyPost_ret (v := .int .i64 164) (by simp [results, Try.results23, go_sem]) rfl ⟨rfl, HB.out.2⟩
    · by_cases cu : (1 : Int) < U
      · by_cases hk9 : 0 ≤ x2 ∧ x2 ≤ M
        · have hix : ∀ w : World, (Instr.index 101 (.agg #[.int .i64 x1, .int .i64 x2, .int .i64 x3]) (.int .i64 1)).run Try.prog w = .ok (.int .i64 x2) w := fun w => by kernel_rfl
          have hh := fun W => hold_ 0 M x2 W
          rw [show (decide (0 ≤ x2) && decide (x2 ≤ M)) = true from by simp [hk9]] at hh
          have HO : Hid (∀ k : Nat, k < 2 → opOk M U (k : Int) (if k = 0 then x1 else if k = 1 then x2 else x3) = true) := fun k hk => by
            by_cases c : k = 1
            · subst c; exact (show opOk M U 1 x2 = true by unfold opOk; rw [if_pos cu]; simpa using hk9)
            · exact hall k (by omega)
          have kA : Kp wr (wr.alloc (.cells #[.int .i64 0, .int .i64 0] 54)) := (Kp.refl wr).alloc _
          have hm := H2c.new wr (.int .i64 0) (.int .i64 0) 54
          have HA : Hid (Kp w (wr.alloc (.cells #[.int .i64 0, .int .i64 0] 54)) ∧ w.heap.size ≤ wr.heap.size ∧ ((wr.alloc (.cells #[.int .i64 0, .int .i64 0] 54)).cell? ⟨B1, 0, none⟩ = some (.int .i64 x0) ∧ (wr.alloc (.cells #[.int .i64 0, .int .i64 0] 54)).cell? ⟨B1, 1, none⟩ = some (.int .i64 x1) ∧ (wr.alloc (.cells #[.int .i64 0, .int .i64 0] 54)).cell? ⟨B1, 2, none⟩ = some (.int .i64 x2) ∧ (wr.alloc (.cells #[.int .i64 0, .int .i64 0] 54)).cell? ⟨B1, 3, none⟩ = some (.int .i64 x3) ∧ (wr.alloc (.cells #[.int .i64 0, .int .i64 0] 54)).cell? ⟨B1, 4, none⟩ = some (.int .i64 x4) ∧ (wr.alloc (.cells #[.int .i64 0, .int .i64 0] 54)).cell? ⟨B0, 0, none⟩ = some (.int .i64 V) ∧ (wr.alloc (.cells #[.int .i64 0, .int .i64 0] 54)).cell? ⟨B0, 1, none⟩ = some (.slice pc lc cc))) := ⟨HK.out.trans kA, HK.out.size, ⟨kkeep kA y0, kkeep kA y1, kkeep kA y2, kkeep kA y3, kkeep kA y4, kkeep kA z0, kkeep kA z1⟩⟩
          replace z0 := kkeep kA z0
          clear hall hk9 kA HK
          go_wp2_with fail
          refine (hod _).mono ?_
          rintro e w3 ⟨rfl, g3⟩
          obtain ⟨kA, hsz, y0, y1, y2, y3, y4, z0, z1⟩ := HA.out
          have hlb := cell_lt y0'
          have hlz := cell_lt z0'
          have kbs : Kb wr.heap.size w3 ((w3.setCell ⟨wr.heap.size, 0, none⟩ (.int .i64 0)).setCell ⟨wr.heap.size, 1, none⟩ (.int .i64 M)) := (((Kb.refl _ w3).setCell 0 _).setCell 1 _)
          have hm3 := hm.keep g3
          have kC : Kp w ((w3.setCell ⟨wr.heap.size, 0, none⟩ (.int .i64 0)).setCell ⟨wr.heap.size, 1, none⟩ (.int .i64 M)) := kbs.kp (kA.trans g3) hsz
          have HB0 : Hid ((((w3.setCell ⟨wr.heap.size, 0, none⟩ (.int .i64 0)).setCell ⟨wr.heap.size, 1, none⟩ (.int .i64 M)).cell? ⟨B1, 0, none⟩ = some (.int .i64 x0) ∧ ((w3.setCell ⟨wr.heap.size, 0, none⟩ (.int .i64 0)).setCell ⟨wr.heap.size, 1, none⟩ (.int .i64 M)).cell? ⟨B1, 1, none⟩ = some (.int .i64 x1) ∧ ((w3.setCell ⟨wr.heap.size, 0, none⟩ (.int .i64 0)).setCell ⟨wr.heap.size, 1, none⟩ (.int .i64 M)).cell? ⟨B1, 2, none⟩ = some (.int .i64 x2) ∧ ((w3.setCell ⟨wr.heap.size, 0, none⟩ (.int .i64 0)).setCell ⟨wr.heap.size, 1, none⟩ (.int .i64 M)).cell? ⟨B1, 3, none⟩ = some (.int .i64 x3) ∧ ((w3.setCell ⟨wr.heap.size, 0, none⟩ (.int .i64 0)).setCell ⟨wr.heap.size, 1, none⟩ (.int .i64 M)).cell? ⟨B1, 4, none⟩ = some (.int .i64 x4) ∧ ((w3.setCell ⟨wr.heap.size, 0, none⟩ (.int .i64 0)).setCell ⟨wr.heap.size, 1, none⟩ (.int .i64 M)).cell? ⟨B0, 0, none⟩ = some (.int .i64 V) ∧ ((w3.setCell ⟨wr.heap.size, 0, none⟩ (.int .i64 0)).setCell ⟨wr.heap.size, 1, none⟩ (.int .i64 M)).cell? ⟨B0, 1, none⟩ = some (.slice pc lc cc)) ∧ Kp w ((w3.setCell ⟨wr.heap.size, 0, none⟩ (.int .i64 0)).setCell ⟨wr.heap.size, 1, none⟩ (.int .i64 M))) := ⟨⟨kbs.arr (by omega) (kkeep g3 y0), kbs.arr (by omega) (kkeep g3 y1), kbs.arr (by omega) (kkeep g3 y2), kbs.arr (by omega) (kkeep g3 y3), kbs.arr (by omega) (kkeep g3 y4), kbs.arr (by omega) (kkeep g3 z0), kbs.arr (by omega) (kkeep g3 z1)⟩, kC⟩
          obtain ⟨m0, m1, m2, m3⟩ := hm3
          clear kA hsz y0 y1 y2 y3 y4 z0 z1 hlb hlz kbs kC HA
          go_wp2_with fail
          refine (hh _).mono ?_
          rintro e w4 ⟨rfl, g4⟩
          obtain ⟨⟨y0, y1, y2, y3, y4, z0, z1⟩, kC⟩ := HB0.out
          have HB : Hid ((w4.cell? ⟨B1, 0, none⟩ = some (.int .i64 x0) ∧ w4.cell? ⟨B1, 1, none⟩ = some (.int .i64 x1) ∧ w4.cell? ⟨B1, 2, none⟩ = some (.int .i64 x2) ∧ w4.cell? ⟨B1, 3, none⟩ = some (.int .i64 x3) ∧ w4.cell? ⟨B1, 4, none⟩ = some (.int .i64 x4) ∧ w4.cell? ⟨B0, 0, none⟩ = some (.int .i64 V) ∧ w4.cell? ⟨B0, 1, none⟩ = some (.slice pc lc cc)) ∧ Kp w w4) := ⟨⟨kkeep g4 y0, kkeep g4 y1, kkeep g4 y2, kkeep g4 y3, kkeep g4 y4, kkeep g4 z0, kkeep g4 z1⟩, kC.trans g4⟩
          clear y0 y1 y2 y3 y4 z0 z1 kC HB0
          go_wp2
          exact ⟨⟨2, Or.inr (Or.inr (Or.inl ⟨rfl, rfl⟩)), HO.out, HB.out.1, HB.out.2⟩, by decide⟩
        · have hix : ∀ w : World, (Instr.index 101 (.agg #[.int .i64 x1, .int .i64 x2, .int .i64 x3]) (.int .i64 1)).run Try.prog w = .ok (.int .i64 x2) w := fun w => by kernel_rfl
          have hh := fun W => hold_ 0 M x2 W
          rw [show (decide (0 ≤ x2) && decide (x2 ≤ M)) = false from by rw [Bool.and_eq_false_iff, decide_eq_false_iff_not, decide_eq_false_iff_not]; omega] at hh
          have HO : Hid (lnE M lc x0 x1 x2 x3 x4 = 164) := lnE_arg _ _ _ _ _ _ _ HX.out.1 (by rw [HX.out.2]; exact Or.inr (Or.inl (by unfold opOk; rw [if_pos cu]; rw [decide_eq_false_iff_not]; omega)))
          have kA : Kp wr (wr.alloc (.cells #[.int .i64 0, .int .i64 0] 54)) := (Kp.refl wr).alloc _
          have hm := H2c.new wr (.int .i64 0) (.int .i64 0) 54
          have HA : Hid (Kp w (wr.alloc (.cells #[.int .i64 0, .int .i64 0] 54)) ∧ w.heap.size ≤ wr.heap.size ∧ ((wr.alloc (.cells #[.int .i64 0, .int .i64 0] 54)).cell? ⟨B1, 0, none⟩ = some (.int .i64 x0) ∧ (wr.alloc (.cells #[.int .i64 0, .int .i64 0] 54)).cell? ⟨B1, 1, none⟩ = some (.int .i64 x1) ∧ (wr.alloc (.cells #[.int .i64 0, .int .i64 0] 54)).cell? ⟨B1, 2, none⟩ = some (.int .i64 x2) ∧ (wr.alloc (.cells #[.int .i64 0, .int .i64 0] 54)).cell? ⟨B1, 3, none⟩ = some (.int .i64 x3) ∧ (wr.alloc (.cells #[.int .i64 0, .int .i64 0] 54)).cell? ⟨B1, 4, none⟩ = some (.int .i64 x4) ∧ (wr.alloc (.cells #[.int .i64 0, .int .i64 0] 54)).cell? ⟨B0, 0, none⟩ = some (.int .i64 V) ∧ (wr.alloc (.cells #[.int .i64 0, .int .i64 0] 54)).cell? ⟨B0, 1, none⟩ = some (.slice pc lc cc))) := ⟨HK.out.trans kA, HK.out.size, ⟨kkeep kA y0, kkeep kA y1, kkeep kA y2, kkeep kA y3, kkeep kA y4, kkeep kA z0, kkeep kA z1⟩⟩
          replace z0 := kkeep kA z0
          clear hall hk9 kA HK
          go_wp2_with fail
          refine (hod _).mono ?_
          rintro e w3 ⟨rfl, g3⟩
          obtain ⟨kA, hsz, y0, y1, y2, y3, y4, z0, z1⟩ := HA.out
          have hlb := cell_lt y0'
          have hlz := cell_lt z0'
          have kbs : Kb wr.heap.size w3 ((w3.setCell ⟨wr.heap.size, 0, none⟩ (.int .i64 0)).setCell ⟨wr.heap.size, 1, none⟩ (.int .i64 M)) := (((Kb.refl _ w3).setCell 0 _).setCell 1 _)
          have hm3 := hm.keep g3
          have kC : Kp w ((w3.setCell ⟨wr.heap.size, 0, none⟩ (.int .i64 0)).setCell ⟨wr.heap.size, 1, none⟩ (.int .i64 M)) := kbs.kp (kA.trans g3) hsz
          have HB0 : Hid ((((w3.setCell ⟨wr.heap.size, 0, none⟩ (.int .i64 0)).setCell ⟨wr.heap.size, 1, none⟩ (.int .i64 M)).cell? ⟨B1, 0, none⟩ = some (.int .i64 x0) ∧ ((w3.setCell ⟨wr.heap.size, 0, none⟩ (.int .i64 0)).setCell ⟨wr.heap.size, 1, none⟩ (.int .i64 M)).cell? ⟨B1, 1, none⟩ = some (.int .i64 x1) ∧ ((w3.setCell ⟨wr.heap.size, 0, none⟩ (.int .i64 0)).setCell ⟨wr.heap.size, 1, none⟩ (.int .i64 M)).cell? ⟨B1, 2, none⟩ = some (.int .i64 x2) ∧ ((w3.setCell ⟨wr.heap.size, 0, none⟩ (.int .i64 0)).setCell ⟨wr.heap.size, 1, none⟩ (.int .i64 M)).cell? ⟨B1, 3, none⟩ = some (.int .i64 x3) ∧ ((w3.setCell ⟨wr.heap.size, 0, none⟩ (.int .i64 0)).setCell ⟨wr.heap.size, 1, none⟩ (.int .i64 M)).cell? ⟨B1, 4, none⟩ = some (.int .i64 x4) ∧ ((w3.setCell ⟨wr.heap.size, 0, none⟩ (.int .i64 0)).setCell ⟨wr.heap.size, 1, none⟩ (.int .i64 M)).cell? ⟨B0, 0, none⟩ = some (.int .i64 V) ∧ ((w3.setCell ⟨wr.heap.size, 0, none⟩ (.int .i64 0)).setCell ⟨wr.heap.size, 1, none⟩ (.int .i64 M)).cell? ⟨B0, 1, none⟩ = some (.slice pc lc cc)) ∧ Kp w ((w3.setCell ⟨wr.heap.size, 0, none⟩ (.int .i64 0)).setCell ⟨wr.heap.size, 1, none⟩ (.int .i64 M))) := ⟨⟨kbs.arr (by omega) (kkeep g3 y0), kbs.arr (by omega) (kkeep g3 y1), kbs.arr (by omega) (kkeep g3 y2), kbs.arr (by omega) (kkeep g3 y3), kbs.arr (by omega) (kkeep g3 y4), kbs.arr (by omega) (kkeep g3 z0), kbs.arr (by omega) (kkeep g3 z1)⟩, kC⟩
          obtain ⟨m0, m1, m2, m3⟩ := hm3
          clear kA hsz y0 y1 y2 y3 y4 z0 z1 hlb hlz kbs kC HA
          go_wp2_with fail
          refine (hh _).mono ?_
          rintro e w4 ⟨rfl, g4⟩
          obtain ⟨⟨y0, y1, y2, y3, y4, z0, z1⟩, kC⟩ := HB0.out
          have HB : Hid ((w4.cell? ⟨B1, 0, none⟩ = some (.int .i64 x0) ∧ w4.cell? ⟨B1, 1, none⟩ = some (.int .i64 x1) ∧ w4.cell? ⟨B1, 2, none⟩ = some (.int .i64 x2) ∧ w4.cell? ⟨B1, 3, none⟩ = some (.int .i64 x3) ∧ w4.cell? ⟨B1, 4, none⟩ = some (.int .i64 x4) ∧ w4.cell? ⟨B0, 0, none⟩ = some (.int .i64 V) ∧ w4.cell? ⟨B0, 1, none⟩ = some (.slice pc lc cc)) ∧ Kp w w4) := ⟨⟨kkeep g4 y0, kkeep g4 y1, kkeep g4 y2, kkeep g4 y3, kkeep g4 y4, kkeep g4 z0, kkeep g4 z1⟩, kC.trans g4⟩
          clear y0 y1 y2 y3 y4 z0 z1 kC HB0
          obtain rfl : R = 164 := HRR.out.trans HO.out
          go_wp2
          exact bodyPost_ret (v := .int .i64 164) (by simp [results, Try.results23, go_sem]) rfl ⟨rfl, HB.out.2⟩
      · by_cases hk9 : 0 ≤ x2 ∧ x2 ≤ 0
        · have hix : ∀ w : World, (Instr.index 101 (.agg #[.int .i64 x1, .int .i64 x2, .int .i64 x3]) (.int .i64 1)).run Try.prog w = .ok (.int .i64 x2) w := fun w => by kernel_rfl
          have hh := fun W => hold_ 0 0 x2 W
          rw [show (decide (0 ≤ x2) && decide (x2 ≤ 0)) = true from by simp [hk9]] at hh
          have HO : Hid (∀ k : Nat, k < 2 → opOk M U (k : Int) (if k = 0 then x1 else if k = 1 then x2 else x3) = true) := fun k hk => by
            by_cases c : k = 1
            · subst c; exact (show opOk M U 1 x2 = true by unfold opOk; rw [if_neg cu]; simpa using (show x2 = 0 by omega))
            · exact hall k (by omega)
          have kA : Kp wr (wr.alloc (.cells #[.int .i64 0, .int .i64 0] 54)) := (Kp.refl wr).alloc _
          have hm := H2c.new wr (.int .i64 0) (.int .i64 0) 54
          have HA : Hid (Kp w (wr.alloc (.cells #[.int .i64 0, .int .i64 0] 54)) ∧ w.heap.size ≤ wr.heap.size ∧ ((wr.alloc (.cells #[.int .i64 0, .int .i64 0] 54)).cell? ⟨B1, 0, none⟩ = some (.int .i64 x0) ∧ (wr.alloc (.cells #[.int .i64 0, .int .i64 0] 54)).cell? ⟨B1, 1, none⟩ = some (.int .i64 x1) ∧ (wr.alloc (.cells #[.int .i64 0, .int .i64 0] 54)).cell? ⟨B1, 2, none⟩ = some (.int .i64 x2) ∧ (wr.alloc (.cells #[.int .i64 0, .int .i64 0] 54)).cell? ⟨B1, 3, none⟩ = some (.int .i64 x3) ∧ (wr.alloc (.cells #[.int .i64 0, .int .i64 0] 54)).cell? ⟨B1, 4, none⟩ = some (.int .i64 x4) ∧ (wr.alloc (.cells #[.int .i64 0, .int .i64 0] 54)).cell? ⟨B0, 0, none⟩ = some (.int .i64 V) ∧ (wr.alloc (.cells #[.int .i64 0, .int .i64 0] 54)).cell? ⟨B0, 1, none⟩ = some (.slice pc lc cc))) := ⟨HK.out.trans kA, HK.out.size, ⟨kkeep kA y0, kkeep kA y1, kkeep kA y2, kkeep kA y3, kkeep kA y4, kkeep kA z0, kkeep kA z1⟩⟩
          replace z0 := kkeep kA z0
          clear hall hk9 kA HK
          go_wp2_with fail
          refine (hh _).mono ?_
          rintro e w4 ⟨rfl, g4⟩
          obtain ⟨kA, hsz, y0, y1, y2, y3, y4, z0, z1⟩ := HA.out
          have HB : Hid ((w4.cell? ⟨B1, 0, none⟩ = some (.int .i64 x0) ∧ w4.cell? ⟨B1, 1, none⟩ = some (.int .i64 x1) ∧ w4.cell? ⟨B1, 2, none⟩ = some (.int .i64 x2) ∧ w4.cell? ⟨B1, 3, none⟩ = some (.int .i64 x3) ∧ w4.cell? ⟨B1, 4, none⟩ = some (.int .i64 x4) ∧ w4.cell? ⟨B0, 0, none⟩ = some (.int .i64 V) ∧ w4.cell? ⟨B0, 1, none⟩ = some (.slice pc lc cc)) ∧ Kp w w4) := ⟨⟨kkeep g4 y0, kkeep g4 y1, kkeep g4 y2, kkeep g4 y3, kkeep g4 y4, kkeep g4 z0, kkeep g4 z1⟩, kA.trans g4⟩
          clear kA hsz y0 y1 y2 y3 y4 z0 z1 HA
          go_wp2
          exact ⟨⟨2, Or.inr (Or.inr (Or.inl ⟨rfl, rfl⟩)), HO.out, HB.out.1, HB.out.2⟩, by decide⟩
        · have hix : ∀ w : World, (Instr.index 101 (.agg #[.int .i64 x1, .int .i64 x2, .int .i64 x3]) (.int .i64 1)).run Try.prog w = .ok (.int .i64 x2) w := fun w => by kernel_rfl
          have hh := fun W => hold_ 0 0 x2 W
          rw [show (decide (0 ≤ x2) && decide (x2 ≤ 0)) = false from by rw [Bool.and_eq_false_iff, decide_eq_false_iff_not, decide_eq_false_iff_not]; omega] at hh
          have HO : Hid (lnE M lc x0 x1 x2 x3 x4 = 164) := lnE_arg _ _ _ _ _ _ _ HX.out.1 (by rw [HX.out.2]; exact Or.inr (Or.inl (by unfold opOk; rw [if_neg cu]; rw [decide_eq_false_iff_not]; omega)))
          have kA : Kp wr (wr.alloc (.cells #[.int .i64 0, .int .i64 0] 54)) := (Kp.refl wr).alloc _
          have hm := H2c.new wr (.int .i64 0) (.int .i64 0) 54
          have HA : Hid (Kp w (wr.alloc (.cells #[.int .i64 0, .int .i64 0] 54)) ∧ w.heap.size ≤ wr.heap.size ∧ ((wr.alloc (.cells #[.int .i64 0, .int .i64 0] 54)).cell? ⟨B1, 0, none⟩ = some (.int .i64 x0) ∧ (wr.alloc (.cells #[.int .i64 0, .int .i64 0] 54)).cell? ⟨B1, 1, none⟩ = some (.int .i64 x1) ∧ (wr.alloc (.cells #[.int .i64 0, .int .i64 0] 54)).cell? ⟨B1, 2, none⟩ = some (.int .i64 x2) ∧ (wr.alloc (.cells #[.int .i64 0, .int .i64 0] 54)).cell? ⟨B1, 3, none⟩ = some (.int .i64 x3) ∧ (wr.alloc (.cells #[.int .i64 0, .int .i64 0] 54)).cell? ⟨B1, 4, none⟩ = some (.int .i64 x4) ∧ (wr.alloc (.cells #[.int .i64 0, .int .i64 0] 54)).cell? ⟨B0, 0, none⟩ = some (.int .i64 V) ∧ (wr.alloc (.cells #[.int .i64 0, .int .i64 0] 54)).cell? ⟨B0, 1, none⟩ = some (.slice pc lc cc))) := ⟨HK.out.trans kA, HK.out.size, ⟨kkeep kA y0, kkeep kA y1, kkeep kA y2, kkeep kA y3, kkeep kA y4, kkeep kA z0, kkeep kA z1⟩⟩
          replace z0 := kkeep kA z0
          clear hall hk9 kA HK
          go_wp2_with fail
          refine (hh _).mono ?_
          rintro e w4 ⟨rfl, g4⟩
          obtain ⟨kA, hsz, y0, y1, y2, y3, y4, z0, z1⟩ := HA.out
          have HB : Hid ((w4.cell? ⟨B1, 0, none⟩ = some (.int .i64 x0) ∧ w4.cell? ⟨B1, 1, none⟩ = some (.int .i64 x1) ∧ w4.cell? ⟨B1, 2, none⟩ = some (.int .i64 x2) ∧ w4.cell? ⟨B1, 3, none⟩ = some (.int .i64 x3) ∧ w4.cell? ⟨B1, 4, none⟩ = some (.int .i64 x4) ∧ w4.cell? ⟨B0, 0, none⟩ = some (.int .i64 V) ∧ w4.cell? ⟨B0, 1, none⟩ = some (.slice pc lc cc)) ∧ Kp w w4) := ⟨⟨kkeep g4 y0, kkeep g4 y1, kkeep g4 y2, kkeep g4 y3, kkeep g4 y4, kkeep g4 z0, kkeep g4 z1⟩, kA.trans g4⟩
          clear kA hsz y0 y1 y2 y3 y4 z0 z1 HA
          obtain rfl : R = 164 := HRR.out.trans HO.out
          go_wp2
          exact bodyPost_ret (v := .int .i64 164) (by simp [results, Try.results23, go_sem]) rfl ⟨rfl, HB.out.2⟩
    · by_cases cu : (2 : Int) < U
      · by_cases hk9 : 0 ≤ x3 ∧ x3 ≤ M
        · have hix : ∀ w : World, (Instr.index 101 (.agg #[.int .i64 x1, .int .i64 x2, .int .i64 x3]) (.int .i64 2)).run Try.prog w = .ok (.int .i64 x3) w := fun w => by kernel_rfl
          have hh := fun W => hold_ 0 M x3 W
          rw [show (decide (0 ≤ x3) && decide (x3 ≤ M)) = true from by simp [hk9]] at hh
          have HO : Hid (∀ k : Nat, k < 3 → opOk M U (k : Int) (if k = 0 then x1 else if k = 1 then x2 else x3) = true) := fun k hk => by
            by_cases c : k = 2
            · subst c; exact (show opOk M U 2 x3 = true by unfold opOk; rw [if_pos cu]; simpa using hk9)
            · exact hall k (by omega)
          have kA : Kp wr (wr.alloc (.cells #[.int .i64 0, .int .i64 0] 54)) := (Kp.refl wr).alloc _
          have hm := H2c.new wr (.int .i64 0) (.int .i64 0) 54
          have HA : Hid (Kp w (wr.alloc (.cells #[.int .i64 0, .int .i64 0] 54)) ∧ w.heap.size ≤ wr.heap.size ∧ ((wr.alloc (.cells #[.int .i64 0, .int .i64 0] 54)).cell? ⟨B1, 0, none⟩ = some (.int .i64 x0) ∧ (wr.alloc (.cells #[.int .i64 0, .int .i64 0] 54)).cell? ⟨B1, 1, none⟩ = some (.int .i64 x1) ∧ (wr.alloc (.cells #[.int .i64 0, .int .i64 0] 54)).cell? ⟨B1, 2, none⟩ = some (.int .i64 x2) ∧ (wr.alloc (.cells #[.int .i64 0, .int .i64 0] 54)).cell? ⟨B1, 3, none⟩ = some (.int .i64 x3) ∧ (wr.alloc (.cells #[.int .i64 0, .int .i64 0] 54)).cell? ⟨B1, 4, none⟩ = some (.int .i64 x4) ∧ (wr.alloc (.cells #[.int .i64 0, .int .i64 0] 54)).cell? ⟨B0, 0, none⟩ = some (.int .i64 V) ∧ (wr.alloc (.cells #[.int .i64 0, .int .i64 0] 54)).cell? ⟨B0, 1, none⟩ = some (.slice pc lc cc))) := ⟨HK.out.trans kA, HK.out.size, ⟨kkeep kA y0, kkeep kA y1, kkeep kA y2, kkeep kA y3, kkeep kA y4, kkeep kA z0, kkeep kA z1⟩⟩
          replace z0 := kkeep kA z0
          clear hall hk9 kA HK
          go_wp2_with fail
          refine (hod _).mono ?_
          rintro e w3 ⟨rfl, g3⟩
          obtain ⟨kA, hsz, y0, y1, y2, y3, y4, z0, z1⟩ := HA.out
          have hlb := cell_lt y0'
          have hlz := cell_lt z0'
          have kbs : Kb wr.heap.size w3 ((w3.setCell ⟨wr.heap.size, 0, none⟩ (.int .i64 0)).setCell ⟨wr.heap.size, 1, none⟩ (.int .i64 M)) := (((Kb.refl _ w3).setCell 0 _).setCell 1 _)
          have hm3 := hm.keep g3
          have kC : Kp w ((w3.setCell ⟨wr.heap.size, 0, none⟩ (.int .i64 0)).setCell ⟨wr.heap.size, 1, none⟩ (.int .i64 M)) := kbs.kp (kA.trans g3) hsz
          have HB0 : Hid ((((w3.setCell ⟨wr.heap.size, 0, none⟩ (.int .i64 0)).setCell ⟨wr.heap.size, 1, none⟩ (.int .i64 M)).cell? ⟨B1, 0, none⟩ = some (.int .i64 x0) ∧ ((w3.setCell ⟨wr.heap.size, 0, none⟩ (.int .i64 0)).setCell ⟨wr.heap.size, 1, none⟩ (.int .i64 M)).cell? ⟨B1, 1, none⟩ = some (.int .i64 x1) ∧ ((w3.setCell ⟨wr.heap.size, 0, none⟩ (.int .i64 0)).setCell ⟨wr.heap.size, 1, none⟩ (.int .i64 M)).cell? ⟨B1, 2, none⟩ = some (.int .i64 x2) ∧ ((w3.setCell ⟨wr.heap.size, 0, none⟩ (.int .i64 0)).setCell ⟨wr.heap.size, 1, none⟩ (.int .i64 M)).cell? ⟨B1, 3, none⟩ = some (.int .i64 x3) ∧ ((w3.setCell ⟨wr.heap.size, 0, none⟩ (.int .i64 0)).setCell ⟨wr.heap.size, 1, none⟩ (.int .i64 M)).cell? ⟨B1, 4, none⟩ = some (.int .i64 x4) ∧ ((w3.setCell ⟨wr.heap.size, 0, none⟩ (.int .i64 0)).setCell ⟨wr.heap.size, 1, none⟩ (.int .i64 M)).cell? ⟨B0, 0, none⟩ = some (.int .i64 V) ∧ ((w3.setCell ⟨wr.heap.size, 0, none⟩ (.int .i64 0)).setCell ⟨wr.heap.size, 1, none⟩ (.int .i64 M)).cell? ⟨B0, 1, none⟩ = some (.slice pc lc cc)) ∧ Kp w ((w3.setCell ⟨wr.heap.size, 0, none⟩ (.int .i64 0)).setCell ⟨wr.heap.size, 1, none⟩ (.int .i64 M))) := ⟨⟨kbs.arr (by omega) (kkeep g3 y0), kbs.arr (by omega) (kkeep g3 y1), kbs.arr (by omega) (kkeep g3 y2), kbs.arr (by omega) (kkeep g3 y3), kbs.arr (by omega) (kkeep g3 y4), kbs.arr (by omega) (kkeep g3 z0), kbs.arr (by omega) (kkeep g3 z1)⟩, kC⟩
          obtain ⟨m0, m1, m2, m3⟩ := hm3
          clear kA hsz y0 y1 y2 y3 y4 z0 z1 hlb hlz kbs kC HA
          go_wp2_with fail
          refine (hh _).mono ?_
          rintro e w4 ⟨rfl, g4⟩
          obtain ⟨⟨y0, y1, y2, y3, y4, z0, z1⟩, kC⟩ := HB0.out
          have HB : Hid ((w4.cell? ⟨B1, 0, none⟩ = some (.int .i64 x0) ∧ w4.cell? ⟨B1, 1, none⟩ = some (.int .i64 x1) ∧ w4.cell? ⟨B1, 2, none⟩ = some (.int .i64 x2) ∧ w4.cell? ⟨B1, 3, none⟩ = some (.int .i64 x3) ∧ w4.cell? ⟨B1, 4, none⟩ = some (.int .i64 x4) ∧ w4.cell? ⟨B0, 0, none⟩ = some (.int .i64 V) ∧ w4.cell? ⟨B0, 1, none⟩ = some (.slice pc lc cc)) ∧ Kp w w4) := ⟨⟨kkeep g4 y0, kkeep g4 y1, kkeep g4 y2, kkeep g4 y3, kkeep g4 y4, kkeep g4 z0, kkeep g4 z1⟩, kC.trans g4⟩
          clear y0 y1 y2 y3 y4 z0 z1 kC HB0
          go_wp2
          exact ⟨⟨3, Or.inr (Or.inr (Or.inr ⟨rfl, rfl⟩)), HO.out, HB.out.1, HB.out.2⟩, by decide⟩
        · have hix : ∀ w : World, (Instr.index 101 (.agg #[.int .i64 x1, .int .i64 x2, .int .i64 x3]) (.int .i64 2)).run Try.prog w = .ok (.int .i64 x3) w := fun w => by kernel_rfl
          have hh := fun W => hold_ 0 M x3 W
          rw [show (decide (0 ≤ x3) && decide (x3 ≤ M)) = false from by rw [Bool.and_eq_false_iff, decide_eq_false_iff_not, decide_eq_false_iff_not]; omega] at hh
          have HO : Hid (lnE M lc x0 x1 x2 x3 x4 = 164) := lnE_arg _ _ _ _ _ _ _ HX.out.1 (by rw [HX.out.2]; exact Or.inr (Or.inr (by unfold opOk; rw [if_pos cu]; rw [decide_eq_false_iff_not]; omega)))
          have kA : Kp wr (wr.alloc (.cells #[.int .i64 0, .int .i64 0] 54)) := (Kp.refl wr).alloc _
          have hm := H2c.new wr (.int .i64 0) (.int .i64 0) 54
          have HA : Hid (Kp w (wr.alloc (.cells #[.int .i64 0, .int .i64 0] 54)) ∧ w.heap.size ≤ wr.heap.size ∧ ((wr.alloc (.cells #[.int .i64 0, .int .i64 0] 54)).cell? ⟨B1, 0, none⟩ = some (.int .i64 x0) ∧ (wr.alloc (.cells #[.int .i64 0, .int .i64 0] 54)).cell? ⟨B1, 1, none⟩ = some (.int .i64 x1) ∧ (wr.alloc (.cells #[.int .i64 0, .int .i64 0] 54)).cell? ⟨B1, 2, none⟩ = some (.int .i64 x2) ∧ (wr.alloc (.cells #[.int .i64 0, .int .i64 0] 54)).cell? ⟨B1, 3, none⟩ = some (.int .i64 x3) ∧ (wr.alloc (.cells #[.int .i64 0, .int .i64 0] 54)).cell? ⟨B1, 4, none⟩ = some (.int .i64 x4) ∧ (wr.alloc (.cells #[.int .i64 0, .int .i64 0] 54)).cell? ⟨B0, 0, none⟩ = some (.int .i64 V) ∧ (wr.alloc (.cells #[.int .i64 0, .int .i64 0] 54)).cell? ⟨B0, 1, none⟩ = some (.slice pc lc cc))) := ⟨HK.out.trans kA, HK.out.size, ⟨kkeep kA y0, kkeep kA y1, kkeep kA y2, kkeep kA y3, kkeep kA y4, kkeep kA z0, kkeep kA z1⟩⟩
          replace z0 := kkeep kA z0
          clear hall hk9 kA HK
          go_wp2_with fail
          refine (hod _).mono ?_
          rintro e w3 ⟨rfl, g3⟩
          obtain ⟨kA, hsz, y0, y1, y2, y3, y4, z0, z1⟩ := HA.out
          have hlb := cell_lt y0'
          have hlz := cell_lt z0'
          have kbs : Kb wr.heap.size w3 ((w3.setCell ⟨wr.heap.size, 0, none⟩ (.int .i64 0)).setCell ⟨wr.heap.size, 1, none⟩ (.int .i64 M)) := (((Kb.refl _ w3).setCell 0 _).setCell 1 _)
          have hm3 := hm.keep g3
          have kC : Kp w ((w3.setCell ⟨wr.heap.size, 0, none⟩ (.int .i64 0)).setCell ⟨wr.heap.size, 1, none⟩ (.int .i64 M)) := kbs.kp (kA.trans g3) hsz
          have HB0 : Hid ((((w3.setCell ⟨wr.heap.size, 0, none⟩ (.int .i64 0)).setCell ⟨wr.heap.size, 1, none⟩ (.int .i64 M)).cell? ⟨B1, 0, none⟩ = some (.int .i64 x0) ∧ ((w3.setCell ⟨wr.heap.size, 0, none⟩ (.int .i64 0)).setCell ⟨wr.heap.size, 1, none⟩ (.int .i64 M)).cell? ⟨B1, 1, none⟩ = some (.int .i64 x1) ∧ ((w3.setCell ⟨wr.heap.size, 0, none⟩ (.int .i64 0)).setCell ⟨wr.heap.size, 1, none⟩ (.int .i64 M)).cell? ⟨B1, 2, none⟩ = some (.int .i64 x2) ∧ ((w3.setCell ⟨wr.heap.size, 0, none⟩ (.int .i64 0)).setCell ⟨wr.heap.size, 1, none⟩ (.int .i64 M)).cell? ⟨B1, 3, none⟩ = some (.int .i64 x3) ∧ ((w3.setCell ⟨wr.heap.size, 0, none⟩ (.int .i64 0)).setCell ⟨wr.heap.size, 1, none⟩ (.int .i64 M)).cell? ⟨B1, 4, none⟩ = some (.int .i64 x4) ∧ ((w3.setCell ⟨wr.heap.size, 0, none⟩ (.int .i64 0)).setCell ⟨wr.heap.size, 1, none⟩ (.int .i64 M)).cell? ⟨B0, 0, none⟩ = some (.int .i64 V) ∧ ((w3.setCell ⟨wr.heap.size, 0, none⟩ (.int .i64 0)).setCell ⟨wr.heap.size, 1, none⟩ (.int .i64 M)).cell? ⟨B0, 1, none⟩ = some (.slice pc lc cc)) ∧ Kp w ((w3.setCell ⟨wr.heap.size, 0, none⟩ (.int .i64 0)).setCell ⟨wr.heap.size, 1, none⟩ (.int .i64 M))) := ⟨⟨kbs.arr (by omega) (kkeep g3 y0), kbs.arr (by omega) (kkeep g3 y1), kbs.arr (by omega) (kkeep g3 y2), kbs.arr (by omega) (kkeep g3 y3), kbs.arr (by omega) (kkeep g3 y4), kbs.arr (by omega) (kkeep g3 z0), kbs.arr (by omega) (kkeep g3 z1)⟩, kC⟩
          obtain ⟨m0, m1, m2, m3⟩ := hm3
          clear kA hsz y0 y1 y2 y3 y4 z0 z1 hlb hlz kbs kC HA
          go_wp2_with fail
          refine (hh _).mono ?_
          rintro e w4 ⟨rfl, g4⟩
          obtain ⟨⟨y0, y1, y2, y3, y4, z0, z1⟩, kC⟩ := HB0.out
          have HB : Hid ((w4.cell? ⟨B1, 0, none⟩ = some (.int .i64 x0) ∧ w4.cell? ⟨B1, 1, none⟩ = some (.int .i64 x1) ∧ w4.cell? ⟨B1, 2, none⟩ = some (.int .i64 x2) ∧ w4.cell? ⟨B1, 3, none⟩ = some (.int .i64 x3) ∧ w4.cell? ⟨B1, 4, none⟩ = some (.int .i64 x4) ∧ w4.cell? ⟨B0, 0, none⟩ = some (.int .i64 V) ∧ w4.cell? ⟨B0, 1, none⟩ = some (.slice pc lc cc)) ∧ Kp w w4) := ⟨⟨kkeep g4 y0, kkeep g4 y1, kkeep g4 y2, kkeep g4 y3, kkeep g4 y4, kkeep g4 z0, kkeep g4 z1⟩, kC.trans g4⟩
          clear y0 y1 y2 y3 y4 z0 z1 kC HB0
          obtain rfl : R = 164 := HRR.out.trans HO.out
          go_wp2
          exact bodyPost_ret (v := .int .i64 164) (by simp [results, Try.results23, go_sem]) rfl ⟨rfl, HB.out.2⟩
      · by_cases hk9 : 0 ≤ x3 ∧ x3 ≤ 0
        · have hix : ∀ w : World, (Instr.index 101 (.agg #[.int .i64 x1, .int .i64 x2, .int .i64 x3]) (.int .i64 2)).run Try.prog w = .ok (.int .i64 x3) w := fun w => by kernel_rfl
          have hh := fun W => hold_ 0 0 x3 W
          rw [show (decide (0 ≤ x3) && decide (x3 ≤ 0)) = true from by simp [hk9]] at hh
          have HO : Hid (∀ k : Nat, k < 3 → opOk M U (k : Int) (if k = 0 then x1 else if k = 1 then x2 else x3) = true) := fun k hk => by
            by_cases c : k = 2
            · subst c; exact (show opOk M U 2 x3 = true by unfold opOk; rw [if_neg cu]; simpa using (show x3 = 0 by omega))
            · exact hall k (by omega)
          have kA : Kp wr (wr.alloc (.cells #[.int .i64 0, .int .i64 0] 54)) := (Kp.refl wr).alloc _
          have hm := H2c.new wr (.int .i64 0) (.int .i64 0) 54
          have HA : Hid (Kp w (wr.alloc (.cells #[.int .i64 0, .int .i64 0] 54)) ∧ w.heap.size ≤ wr.heap.size ∧ ((wr.alloc (.cells #[.int .i64 0, .int .i64 0] 54)).cell? ⟨B1, 0, none⟩ = some (.int .i64 x0) ∧ (wr.alloc (.cells #[.int .i64 0, .int .i64 0] 54)).cell? ⟨B1, 1, none⟩ = some (.int .i64 x1) ∧ (wr.alloc (.cells #[.int .i64 0, .int .i64 0] 54)).cell? ⟨B1, 2, none⟩ = some (.int .i64 x2) ∧ (wr.alloc (.cells #[.int .i64 0, .int .i64 0] 54)).cell? ⟨B1, 3, none⟩ = some (.int .i64 x3) ∧ (wr.alloc (.cells #[.int .i64 0, .int .i64 0] 54)).cell? ⟨B1, 4, none⟩ = some (.int .i64 x4) ∧ (wr.alloc (.cells #[.int .i64 0, .int .i64 0] 54)).cell? ⟨B0, 0, none⟩ = some (.int .i64 V) ∧ (wr.alloc (.cells #[.int .i64 0, .int .i64 0] 54)).cell? ⟨B0, 1, none⟩ = some (.slice pc lc cc))) := ⟨HK.out.trans kA, HK.out.size, ⟨kkeep kA y0, kkeep kA y1, kkeep kA y2, kkeep kA y3, kkeep kA y4, kkeep kA z0, kkeep kA z1⟩⟩
          replace z0 := kkeep kA z0
          clear hall hk9 kA HK
          go_wp2_with fail
          refine (hh _).mono ?_
          rintro e w4 ⟨rfl, g4⟩
          obtain ⟨kA, hsz, y0, y1, y2, y3, y4, z0, z1⟩ := HA.out
          have HB : Hid ((w4.cell? ⟨B1, 0, none⟩ = some (.int .i64 x0) ∧ w4.cell? ⟨B1, 1, none⟩ = some (.int .i64 x1) ∧ w4.cell? ⟨B1, 2, none⟩ = some (.int .i64 x2) ∧ w4.cell? ⟨B1, 3, none⟩ = some (.int .i64 x3) ∧ w4.cell? ⟨B1, 4, none⟩ = some (.int .i64 x4) ∧ w4.cell? ⟨B0, 0, none⟩ = some (.int .i64 V) ∧ w4.cell? ⟨B0, 1, none⟩ = some (.slice pc lc cc)) ∧ Kp w w4) := ⟨⟨kkeep g4 y0, kkeep g4 y1, kkeep g4 y2, kkeep g4 y3, kkeep g4 y4, kkeep g4 z0, kkeep g4 z1⟩, kA.trans g4⟩
          clear kA hsz y0 y1 y2 y3 y4 z0 z1 HA
          go_wp2
          exact ⟨⟨3, Or.inr (Or.inr (Or.inr ⟨rfl, rfl⟩)), HO.out, HB.out.1, HB.out.2⟩, by decide⟩
        · have hix : ∀ w : World, (Instr.index 101 (.agg #[.int .i64 x1, .int .i64 x2, .int .i64 x3]) (.int .i64 2)).run Try.prog w = .ok (.int .i64 x3) w := fun w => by kernel_rfl
          have hh := fun W => hold_ 0 0 x3 W
          rw [show (decide (0 ≤ x3) && decide (x3 ≤ 0)) = false from by rw [Bool.and_eq_false_iff, decide_eq_false_iff_not, decide_eq_false_iff_not]; omega] at hh
          have HO : Hid (lnE M lc x0 x1 x2 x3 x4 = 164) := lnE_arg _ _ _ _ _ _ _ HX.out.1 (by rw [HX.out.2]; exact Or.inr (Or.inr (by unfold opOk; rw [if_neg cu]; rw [decide_eq_false_iff_not]; omega)))
          have kA : Kp wr (wr.alloc (.cells #[.int .i64 0, .int .i64 0] 54)) := (Kp.refl wr).alloc _
          have hm := H2c.new wr (.int .i64 0) (.int .i64 0) 54
          have HA : Hid (Kp w (wr.alloc (.cells #[.int .i64 0, .int .i64 0] 54)) ∧ w.heap.size ≤ wr.heap.size ∧ ((wr.alloc (.cells #[.int .i64 0, .int .i64 0] 54)).cell? ⟨B1, 0, none⟩ = some (.int .i64 x0) ∧ (wr.alloc (.cells #[.int .i64 0, .int .i64 0] 54)).cell? ⟨B1, 1, none⟩ = some (.int .i64 x1) ∧ (wr.alloc (.cells #[.int .i64 0, .int .i64 0] 54)).cell? ⟨B1, 2, none⟩ = some (.int .i64 x2) ∧ (wr.alloc (.cells #[.int .i64 0, .int .i64 0] 54)).cell? ⟨B1, 3, none⟩ = some (.int .i64 x3) ∧ (wr.alloc (.cells #[.int .i64 0, .int .i64 0] 54)).cell? ⟨B1, 4, none⟩ = some (.int .i64 x4) ∧ (wr.alloc (.cells #[.int .i64 0, .int .i64 0] 54)).cell? ⟨B0, 0, none⟩ = some (.int .i64 V) ∧ (wr.alloc (.cells #[.int .i64 0, .int .i64 0] 54)).cell? ⟨B0, 1, none⟩ = some (.slice pc lc cc))) := ⟨HK.out.trans kA, HK.out.size, ⟨kkeep kA y0, kkeep kA y1, kkeep kA y2, kkeep kA y3, kkeep kA y4, kkeep kA z0, kkeep kA z1⟩⟩
          replace z0 := kkeep kA z0
          clear hall hk9 kA HK
          go_wp2_with fail
          refine (hh _).mono ?_
          rintro e w4 ⟨rfl, g4⟩
          obtain ⟨kA, hsz, y0, y1, y2, y3, y4, z0, z1⟩ := HA.out
          have HB : Hid ((w4.cell? ⟨B1, 0, none⟩ = some (.int .i64 x0) ∧ w4.cell? ⟨B1, 1, none⟩ = some (.int .i64 x1) ∧ w4.cell? ⟨B1, 2, none⟩ = some (.int .i64 x2) ∧ w4.cell? ⟨B1, 3, none⟩ = some (.int .i64 x3) ∧ w4.cell? ⟨B1, 4, none⟩ = some (.int .i64 x4) ∧ w4.cell? ⟨B0, 0, none⟩ = some (.int .i64 V) ∧ w4.cell? ⟨B0, 1, none⟩ = some (.slice pc lc cc)) ∧ Kp w w4) := ⟨⟨kkeep g4 y0, kkeep g4 y1, kkeep g4 y2, kkeep g4 y3, kkeep g4 y4, kkeep g4 z0, kkeep g4 z1⟩, kA.trans g4⟩
          clear kA hsz y0 y1 y2 y3 y4 z0 z1 HA
          obtain rfl : R = 164 := HRR.out.trans HO.out
          go_wp2
          exact bodyPost_ret (v := .int .i64 164) (by simp [results, Try.results23, go_sem]) rfl ⟨rfl, HB.out.2⟩
    · have q0 := hall 0 (by decide)
      have q1 := hall 1 (by decide)
      have q2 := hall 2 (by decide)
      simp only [if_true, Nat.one_ne_zero, if_false, show ¬ (2 = 0) from by decide, show ¬ (2 = 1) from by decide] at q0 q1 q2
      have hV := lnE_num M lc x0 x1 x2 x3 x4 HX.out.1 (by rw [HX.out.2]; exact q0) (by rw [HX.out.2]; exact q1) (by rw [HX.out.2]; exact q2)
      have y0 : wr.drew.cell? ⟨B1, 0, none⟩ = some (.int .i64 x0) := y0
      have z1 : wr.drew.cell? ⟨B0, 1, none⟩ = some (.slice pc lc cc) := z1
      have y4 : wr.drew.cell? ⟨B1, 4, none⟩ = some (.int .i64 x4) := y4
      have hh := fun W => hold_ (nbLo x0) (nbHi x0 lc) x4 W
      clear hall q0 q1 q2
      by_cases hb : nbLo x0 ≤ x4 ∧ x4 ≤ nbHi x0 lc
      · rw [if_pos hb] at hV
        rw [show (decide (nbLo x0 ≤ x4) && decide (x4 ≤ nbHi x0 lc)) = true from by simp [hb]] at hh
        have HV : Hid (lnE M lc x0 x1 x2 x3 x4 = 0) := hV
        clear hV hb
        go_upto_region 14 with fail
        obtain rfl : R = 0 := HRR.out.trans HV.out
        go_region_held3 (fun w' => w'.cell? ⟨B1, 0, none⟩ = some (.int .i64 x0) ∧ w'.cell? ⟨B0, 1, none⟩ = some (.slice pc lc cc) ∧ w'.cell? ⟨B1, 4, none⟩ = some (.int .i64 x4)) (first | (with_reducible exact ⟨y0, z1, y4⟩) | (exact ⟨kkeep k1 y0, kkeep k1 z1, kkeep k1 y4⟩) | (exact ⟨kkeep k2 y0, kkeep k2 z1, kkeep k2 y4⟩)) (first | (go_at_call 44; refine (hnb _).mono ?_; rintro e w1 ⟨rfl, g1⟩; have k1 : Kp wr.drew w1 := g1) | (go_at_call 19; refine (hh _).mono ?_; rintro e w5 ⟨rfl, g2⟩; have k2 := k1.trans g2; have y0' := kkeep k2 y0))
        all_goals (
          go_wp2
          exact bodyPost_ret (v := .int .i64 0) (by simp [results, Try.results23, go_sem]) rfl ⟨rfl, HK.out.drew.trans k2⟩)
      · rw [if_neg hb] at hV
        rw [show (decide (nbLo x0 ≤ x4) && decide (x4 ≤ nbHi x0 lc)) = false from by rw [Bool.and_eq_false_iff, decide_eq_false_iff_not, decide_eq_false_iff_not]; omega] at hh
        by_cases c12 : x0 = 12
        · rw [if_pos c12] at hV
          have HV : Hid (lnE M lc x0 x1 x2 x3 x4 = 165) := hV
          subst c12
          clear hV hb
          go_upto_region 14 with fail
          obtain rfl : R = 165 := HRR.out.trans HV.out
          go_region_held3 (fun w' => w'.cell? ⟨B1, 0, none⟩ = some (.int .i64 12) ∧ w'.cell? ⟨B0, 1, none⟩ = some (.slice pc lc cc) ∧ w'.cell? ⟨B1, 4, none⟩ = some (.int .i64 x4)) (first | (with_reducible exact ⟨y0, z1, y4⟩) | (exact ⟨kkeep k1 y0, kkeep k1 z1, kkeep k1 y4⟩) | (exact ⟨kkeep k2 y0, kkeep k2 z1, kkeep k2 y4⟩)) (first | (go_at_call 44; refine (hnb _).mono ?_; rintro e w1 ⟨rfl, g1⟩; have k1 : Kp wr.drew w1 := g1) | (go_at_call 19; refine (hh _).mono ?_; rintro e w5 ⟨rfl, g2⟩; have k2 := k1.trans g2; have y0' := kkeep k2 y0))
          all_goals (
            go_wp2
            exact bodyPost_ret (v := .int .i64 165) (by simp [results, Try.results23, go_sem]) rfl ⟨rfl, HK.out.drew.trans k2⟩)
        · rw [if_neg c12] at hV
          have HV : Hid (lnE M lc x0 x1 x2 x3 x4 = 164) := hV
          have d12 : (x0 == 12) = false := beq_eq_false_iff_ne.2 c12
          clear hV hb
          go_upto_region 14 with fail
          obtain rfl : R = 164 := HRR.out.trans HV.out
          go_region_held3 (fun w' => w'.cell? ⟨B1, 0, none⟩ = some (.int .i64 x0) ∧ w'.cell? ⟨B0, 1, none⟩ = some (.slice pc lc cc) ∧ w'.cell? ⟨B1, 4, none⟩ = some (.int .i64 x4)) (first | (with_reducible exact ⟨y0, z1, y4⟩) | (exact ⟨kkeep k1 y0, kkeep k1 z1, kkeep k1 y4⟩) | (exact ⟨kkeep k2 y0, kkeep k2 z1, kkeep k2 y4⟩)) (first | (go_at_call 44; refine (hnb _).mono ?_; rintro e w1 ⟨rfl, g1⟩; have k1 : Kp wr.drew w1 := g1) | (go_at_call 19; refine (hh _).mono ?_; rintro e w5 ⟨rfl, g2⟩; have k2 := k1.trans g2; have y0' := kkeep k2 y0))
          all_goals (
            go_wp2
            exact bodyPost_ret (v := .int .i64 164) (by simp [results, Try.results23, go_sem]) rfl ⟨rfl, HK.out.drew.trans k2⟩)
end Go.Proofs.Ytipedmnipolmeaa
