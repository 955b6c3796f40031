import Derived.Test.YtflhcnmbondpnaaProg
import Derived.Test.YtflhcnmbondpnaaKXA0
import Derived.Test.YtflhcnmbondpnaaKXM
import Derived.Test.YtflhcnmbondpnaaKXY
import Derived.Test.YtflhcnmbondpnaaKXQF
import Derived.Test.YtflhcnmbondpnaaKQA
import Derived.Test.YtflhcnmbondpnaaKXQU
import Derived.Test.YtflhcnmbondpnaaKXEA
import Derived.Test.YtflhcnmbondpnaaKXED
import Derived.Test.YtflhcnmbondpnaaKMR7Q
import Derived.Test.YtflhcnmbondpnaaKXMR
import Derived.Test.YtflhcnmbondpnaaKXM3
import Derived.Test.YtflhcnmbondpnaaKXO
import Derived.Test.YtflhcnmbondpnaaKXO3
import Derived.Test.YtflhcnmbondpnaaKXT
import Derived.Test.YtflhcnmbondpnaaKHB
import Derived.Test.YtflhcnmbondpnaaKLX
import Derived.Test.YtflhcnmbondpnaaKRX
import Derived.Test.YtflhcnmbondpnaaKXRL
import Derived.Test.YtflhcnmbondpnaaKXCO
import Derived.Test.YtflhcnmbondpnaaKLN
import Derived.Test.YtflhcnmbondpnaaKRN
import Derived.Test.YtflhcnmbondpnaaKW4
import Derived.Test.YtflhcnmbondpnaaKBY
import Derived.Test.YtflhcnmbondpnaaKBW
import Derived.Test.YtflhcnmbondpnaaKXTZ
import Derived.Test.YtflhcnmbondpnaaKXG1
import Derived.Test.YtflhcnmbondpnaaKNSm
import Derived.Test.YtflhcnmbondpnaaKXH2Q
import Derived.Test.YtflhcnmbondpnaaKXG4
import Derived.Test.YtflhcnmbondpnaaKXET
import Derived.Test.YtflhcnmbondpnaaKXEG
import Derived.Test.YtflhcnmbondpnaaKXEC
import Derived.Test.YtflhcnmbondpnaaKXPM
import Derived.WalkKit
import Derived.ProofKit
import Derived.RowKit3
import Derived.WalkSpells
import Derived.StillTactics
import Derived.Deep.QuietTactic
import Derived.BigQuiet
import Derived.Below
import Derived.Deep.OwnRows
import Derived.OwnWalk
import Derived.Laws.BitsAllLaws
import Derived.Laws.Slices
import Derived.Laws.Bits64b
import Derived.Laws.FloatArith
import Derived.Deep.RegionHeld3
import Derived.OneCell
namespace Go.Proofs.Ytflhcnmbondpnaa
open Go.RowKit

set_option linter.unusedVariables false
/-- two rows do not lie in a block -/
def NB (p q : Option Addr) (b : Nat) : Prop := (∀ a, p = some a → a.block ≠ b) ∧ (∀ a, q = some a → a.block ≠ b)
theorem Own.setNe {w : World} {base : Nat} {p : Option Addr} {l c : Nat} {xs : List Int} (h : Own w base (.slice p l c) xs) {x : Addr} (hx : ∀ a, p = some a → a.block ≠ x.block) (u : Value) : Own (w.setCell x u) base (.slice p l c) xs := by
  refine ownsRow_setCell_other h ?_ u
  cases p with
  | none => simp [Value.ownBlock]
  | some a => simpa [Value.ownBlock] using hx a rfl
theorem Own.blk {w : World} {base : Nat} {p : Option Addr} {l c : Nat} {xs : List Int} (h : Own w base (.slice p l c) xs) : ∀ a, p = some a → base ≤ a.block ∧ a.block < w.heap.size := by
  intro a ha
  rcases h.2 with ⟨h1, -⟩ | ⟨g, cap, cur, h1, h2, h3, -⟩
  · simp at h1; rw [h1.1] at ha; cases ha
  · simp at h1
    rw [h1.1] at ha
    obtain rfl := Option.some.inj ha
    refine ⟨h2, ?_⟩
    exact lt_of_block h3
theorem RP.setNe {base : Nat} {w : World} {s : Bool} {p : Option Addr} {l c : Nat} {q : Option Addr} {k d : Nat} {n : Bool} {m : Nat} (h : RP base w s p l c q k d n m) {x : Addr} (hx : NB p q x.block) (u : Value) : RP base (w.setCell x u) s p l c q k d n m := by
  obtain ⟨a, b, h1, h2, h3⟩ := h
  exact ⟨a, b, h1.setNe hx.1 u, h2.setNe hx.2 u, h3⟩
theorem RP.nought {base : Nat} {w : World} {s : Bool} {p : Option Addr} {l c : Nat} {q : Option Addr} {k d : Nat} {n : Bool} (h : RP base w s p l c q k d n 0) (n' : Bool) : RP base w s p l c q k d n' 0 := by
  obtain ⟨a, b, h1, h2, h3⟩ := h
  refine ⟨a, b, h1, h2, fun K hK => ?_⟩
  obtain ⟨f1, f2, f3, f4, f5⟩ := h3 K hK
  exact ⟨f1, f2, by rw [← f3]; unfold Iv; rw [Fq.vV_zero]; cases n <;> cases n' <;> rfl, f4, f5⟩
theorem RP.nbNew {base : Nat} {w : World} {s : Bool} {p : Option Addr} {l c : Nat} {q : Option Addr} {k d : Nat} {n : Bool} {m : Nat} (h : RP base w s p l c q k d n m) {b : Nat} (hb : w.heap.size ≤ b) : NB p q b := by
  obtain ⟨x, y, h1, h2, -⟩ := h
  exact ⟨fun a ha => by have := (h1.blk a ha).2; omega, fun a ha => by have := (h2.blk a ha).2; omega⟩
theorem RP.nbLow {base : Nat} {w : World} {s : Bool} {p : Option Addr} {l c : Nat} {q : Option Addr} {k d : Nat} {n : Bool} {m : Nat} (h : RP base w s p l c q k d n m) {b : Nat} (hb : b < base) : NB p q b := by
  obtain ⟨x, y, h1, h2, -⟩ := h
  exact ⟨fun a ha => by have := (h1.blk a ha).1; omega, fun a ha => by have := (h2.blk a ha).1; omega⟩

/-- a set that is not empty is answered, with these ends -/
def SzQ (ia ib : Int) (Na : Bool) (Ma : Nat) (Nb : Bool) (Mb : Nat) (e : Ending) (w' : World) : Prop := ∃ (s3 : Bool) (p3 : Option Addr) (l3 c3 : Nat) (q3 : Option Addr) (k3 d3 : Nat) (s5 : Bool) (p5 : Option Addr) (l5 c5 : Nat) (q5 : Option Addr) (k5 d5 : Nat), e = .returned (.agg #[.bool false, .int .i64 ia, .bool s3, .slice p3 l3 c3, .slice q3 k3 d3, .int .i64 ib, .bool s5, .slice p5 l5 c5, .slice q5 k5 d5]) ∧ RP 0 w' s3 p3 l3 c3 q3 k3 d3 Na Ma ∧ RP 0 w' s5 p5 l5 c5 q5 k5 d5 Nb Mb

def H4c (w : World) (b : Nat) (v0 v1 v2 v3 : Value) : Prop := w.cell? ⟨b, 0, none⟩ = some v0 ∧ w.cell? ⟨b, 1, none⟩ = some v1 ∧ w.cell? ⟨b, 2, none⟩ = some v2 ∧ w.cell? ⟨b, 3, none⟩ = some v3 ∧ w.frozen? ⟨b, 0, none⟩ = false ∧ w.frozen? ⟨b, 1, none⟩ = false ∧ w.frozen? ⟨b, 2, none⟩ = false ∧ w.frozen? ⟨b, 3, none⟩ = false
theorem H4c.keep {W w : World} {b : Nat} {v0 v1 v2 v3 : Value} (h : H4c W b v0 v1 v2 v3) (g : Kp W w) : H4c w b v0 v1 v2 v3 := by
  obtain ⟨h0, h1, h2, h3, h4, h5, h6, h7⟩ := h
  exact ⟨kkeep g h0, kkeep g h1, kkeep g h2, kkeep g h3, (kfro g (cell_lt h0)).trans h4, (kfro g (cell_lt h0)).trans h5, (kfro g (cell_lt h0)).trans h6, (kfro g (cell_lt h0)).trans h7⟩
theorem H4c.new (w : World) (v0 v1 v2 v3 : Value) (t : TypeId) : H4c (w.alloc (.cells #[v0, v1, v2, v3] t)) w.heap.size v0 v1 v2 v3 := by
  unfold H4c; simp [go_sem]
theorem H4c.lt {w : World} {b : Nat} {v0 v1 v2 v3 : Value} (h : H4c w b v0 v1 v2 v3) : b < w.heap.size := cell_lt h.1
set_option maxRecDepth 20000 in
set_option maxHeartbeats 1000000 in
theorem H4c.put {w : World} {b : Nat} {v0 v1 v2 v3 : Value} (h : H4c w b v0 v1 v2 v3) (u0 u1 u2 u3 : Value) : H4c (((((w.setCell ⟨b, 0, none⟩ u0).setCell ⟨b, 1, none⟩ u1).setCell ⟨b, 2, none⟩ u2).setCell ⟨b, 3, none⟩ u3)) b u0 u1 u2 u3 := by
  obtain ⟨h0, h1, h2, h3, h4, h5, h6, h7⟩ := h
  unfold H4c; simp [go_sem, h0, h1, h2, h3, h4, h5, h6, h7]
theorem H4c.far1 {w : World} {b : Nat} {v0 v1 v2 v3 : Value} (h : H4c w b v0 v1 v2 v3) (x : Addr) (hne : x.block ≠ b) (u : Value) : H4c (w.setCell x u) b v0 v1 v2 v3 := by
  obtain ⟨h0, h1, h2, h3, h4, h5, h6, h7⟩ := h
  exact ⟨(World.cell?_setCell_far _ _ _ _ hne).trans h0, (World.cell?_setCell_far _ _ _ _ hne).trans h1, (World.cell?_setCell_far _ _ _ _ hne).trans h2, (World.cell?_setCell_far _ _ _ _ hne).trans h3, (World.frozen?_setCell _ _ _ _).trans h4, (World.frozen?_setCell _ _ _ _).trans h5, (World.frozen?_setCell _ _ _ _).trans h6, (World.frozen?_setCell _ _ _ _).trans h7⟩

def H9c (w : World) (b : Nat) (v0 v1 v2 v3 v4 v5 v6 v7 v8 : Value) : Prop := w.cell? ⟨b, 0, none⟩ = some v0 ∧ w.cell? ⟨b, 1, none⟩ = some v1 ∧ w.cell? ⟨b, 2, none⟩ = some v2 ∧ w.cell? ⟨b, 3, none⟩ = some v3 ∧ w.cell? ⟨b, 4, none⟩ = some v4 ∧ w.cell? ⟨b, 5, none⟩ = some v5 ∧ w.cell? ⟨b, 6, none⟩ = some v6 ∧ w.cell? ⟨b, 7, none⟩ = some v7 ∧ w.cell? ⟨b, 8, none⟩ = some v8 ∧ w.frozen? ⟨b, 0, none⟩ = false ∧ w.frozen? ⟨b, 1, none⟩ = false ∧ w.frozen? ⟨b, 2, none⟩ = false ∧ w.frozen? ⟨b, 3, none⟩ = false ∧ w.frozen? ⟨b, 4, none⟩ = false ∧ w.frozen? ⟨b, 5, none⟩ = false ∧ w.frozen? ⟨b, 6, none⟩ = false ∧ w.frozen? ⟨b, 7, none⟩ = false ∧ w.frozen? ⟨b, 8, none⟩ = false
theorem H9c.keep {W w : World} {b : Nat} {v0 v1 v2 v3 v4 v5 v6 v7 v8 : Value} (h : H9c W b v0 v1 v2 v3 v4 v5 v6 v7 v8) (g : Kp W w) : H9c w b v0 v1 v2 v3 v4 v5 v6 v7 v8 := by
  obtain ⟨h0, h1, h2, h3, h4, h5, h6, h7, h8, h9, h10, h11, h12, h13, h14, h15, h16, h17⟩ := h
  exact ⟨kkeep g h0, kkeep g h1, kkeep g h2, kkeep g h3, kkeep g h4, kkeep g h5, kkeep g h6, kkeep g h7, kkeep g h8, (kfro g (cell_lt h0)).trans h9, (kfro g (cell_lt h0)).trans h10, (kfro g (cell_lt h0)).trans h11, (kfro g (cell_lt h0)).trans h12, (kfro g (cell_lt h0)).trans h13, (kfro g (cell_lt h0)).trans h14, (kfro g (cell_lt h0)).trans h15, (kfro g (cell_lt h0)).trans h16, (kfro g (cell_lt h0)).trans h17⟩
theorem H9c.new (w : World) (v0 v1 v2 v3 v4 v5 v6 v7 v8 : Value) (t : TypeId) : H9c (w.alloc (.cells #[v0, v1, v2, v3, v4, v5, v6, v7, v8] t)) w.heap.size v0 v1 v2 v3 v4 v5 v6 v7 v8 := by
  unfold H9c; simp [go_sem]
theorem H9c.lt {w : World} {b : Nat} {v0 v1 v2 v3 v4 v5 v6 v7 v8 : Value} (h : H9c w b v0 v1 v2 v3 v4 v5 v6 v7 v8) : b < w.heap.size := cell_lt h.1
set_option maxRecDepth 20000 in
set_option maxHeartbeats 1000000 in
theorem H9c.put {w : World} {b : Nat} {v0 v1 v2 v3 v4 v5 v6 v7 v8 : Value} (h : H9c w b v0 v1 v2 v3 v4 v5 v6 v7 v8) (u0 u1 u2 u3 u4 u5 u6 u7 u8 : Value) : H9c ((((((((((w.setCell ⟨b, 0, none⟩ u0).setCell ⟨b, 1, none⟩ u1).setCell ⟨b, 2, none⟩ u2).setCell ⟨b, 3, none⟩ u3).setCell ⟨b, 4, none⟩ u4).setCell ⟨b, 5, none⟩ u5).setCell ⟨b, 6, none⟩ u6).setCell ⟨b, 7, none⟩ u7).setCell ⟨b, 8, none⟩ u8)) b u0 u1 u2 u3 u4 u5 u6 u7 u8 := by
  obtain ⟨h0, h1, h2, h3, h4, h5, h6, h7, h8, h9, h10, h11, h12, h13, h14, h15, h16, h17⟩ := h
  unfold H9c; simp [go_sem, h0, h1, h2, h3, h4, h5, h6, h7, h8, h9, h10, h11, h12, h13, h14, h15, h16, h17]
theorem H9c.far1 {w : World} {b : Nat} {v0 v1 v2 v3 v4 v5 v6 v7 v8 : Value} (h : H9c w b v0 v1 v2 v3 v4 v5 v6 v7 v8) (x : Addr) (hne : x.block ≠ b) (u : Value) : H9c (w.setCell x u) b v0 v1 v2 v3 v4 v5 v6 v7 v8 := by
  obtain ⟨h0, h1, h2, h3, h4, h5, h6, h7, h8, h9, h10, h11, h12, h13, h14, h15, h16, h17⟩ := h
  exact ⟨(World.cell?_setCell_far _ _ _ _ hne).trans h0, (World.cell?_setCell_far _ _ _ _ hne).trans h1, (World.cell?_setCell_far _ _ _ _ hne).trans h2, (World.cell?_setCell_far _ _ _ _ hne).trans h3, (World.cell?_setCell_far _ _ _ _ hne).trans h4, (World.cell?_setCell_far _ _ _ _ hne).trans h5, (World.cell?_setCell_far _ _ _ _ hne).trans h6, (World.cell?_setCell_far _ _ _ _ hne).trans h7, (World.cell?_setCell_far _ _ _ _ hne).trans h8, (World.frozen?_setCell _ _ _ _).trans h9, (World.frozen?_setCell _ _ _ _).trans h10, (World.frozen?_setCell _ _ _ _).trans h11, (World.frozen?_setCell _ _ _ _).trans h12, (World.frozen?_setCell _ _ _ _).trans h13, (World.frozen?_setCell _ _ _ _).trans h14, (World.frozen?_setCell _ _ _ _).trans h15, (World.frozen?_setCell _ _ _ _).trans h16, (World.frozen?_setCell _ _ _ _).trans h17⟩
set_option maxRecDepth 20000 in
set_option maxHeartbeats 1000000 in
theorem magnK_ (i S9 : Int) (s : Bool) (p : Option Addr) (l c : Nat) (q : Option Addr) (k d : Nat) (t : ¬ (S9 < 0)) (w : World) (hs : ∀ W : World, Kp w W → Calls Try.prog 29 #[.agg #[.int .i64 i, .bool s, .slice p l c, .slice q k d]] W fun e w' => e = .returned (.int .i64 S9) ∧ Kp W w') : Calls Try.prog 28 #[.agg #[.int .i64 i, .bool s, .slice p l c, .slice q k d]] w fun e w' => e = .returned (.agg #[.int .i64 i, .bool s, .slice p l c, .slice q k d]) ∧ Kp w w' := by
  go_enter Try.func28, Try.ntmps28
  go_wp2_with (first | (go_at_call 29; refine (hs _ (((Kp.refl w).alloc _).alloc _)).mono ?_; rintro e w1 ⟨rfl, g1⟩; have k1 : Kp w w1 := Kp.trans (((Kp.refl w).alloc _).alloc _) g1; have x0 := kkeep g1 (b := w.heap.size) (o := 0) (v := .int .i64 i) (by simp [go_sem]); have xz0 : w1.frozen? ⟨w.heap.size, 0, none⟩ = false := (kfro g1 (by simp <;> omega)).trans (by simp [go_sem]); have x1 := kkeep g1 (b := w.heap.size) (o := 1) (v := .bool s) (by simp [go_sem]); have xz1 : w1.frozen? ⟨w.heap.size, 1, none⟩ = false := (kfro g1 (by simp <;> omega)).trans (by simp [go_sem]); have x2 := kkeep g1 (b := w.heap.size) (o := 2) (v := .slice p l c) (by simp [go_sem]); have xz2 : w1.frozen? ⟨w.heap.size, 2, none⟩ = false := (kfro g1 (by simp <;> omega)).trans (by simp [go_sem]); have x3 := kkeep g1 (b := w.heap.size) (o := 3) (v := .slice q k d) (by simp [go_sem]); have xz3 : w1.frozen? ⟨w.heap.size, 3, none⟩ = false := (kfro g1 (by simp <;> omega)).trans (by simp [go_sem]); have r0 := kkeep g1 (b := w.heap.size + 1) (o := 0) (v := .int .i64 0) (by simp [go_sem]); have rz0 : w1.frozen? ⟨w.heap.size + 1, 0, none⟩ = false := (kfro g1 (by simp <;> omega)).trans (by simp [go_sem]); have r1 := kkeep g1 (b := w.heap.size + 1) (o := 1) (v := .bool false) (by simp [go_sem]); have rz1 : w1.frozen? ⟨w.heap.size + 1, 1, none⟩ = false := (kfro g1 (by simp <;> omega)).trans (by simp [go_sem]); have r2 := kkeep g1 (b := w.heap.size + 1) (o := 2) (v := .slice none 0 0) (by simp [go_sem]); have rz2 : w1.frozen? ⟨w.heap.size + 1, 2, none⟩ = false := (kfro g1 (by simp <;> omega)).trans (by simp [go_sem]); have r3 := kkeep g1 (b := w.heap.size + 1) (o := 3) (v := .slice none 0 0) (by simp [go_sem]); have rz3 : w1.frozen? ⟨w.heap.size + 1, 3, none⟩ = false := (kfro g1 (by simp <;> omega)).trans (by simp [go_sem])))
  exact bodyPost_ret (v := .agg #[.int .i64 i, .bool s, .slice p l c, .slice q k d]) (by simp [results, Try.results28, go_sem, r0, r1, r2, r3]) rfl ⟨rfl, ((((k1).setCell (by simp) _).setCell (by simp) _).setCell (by simp) _).setCell (by simp) _⟩
set_option maxRecDepth 20000 in
set_option maxHeartbeats 1000000 in
theorem magnZ_ (S9 : Int) (N : Bool) (M : Nat) (s : Bool) (p : Option Addr) (l c : Nat) (q : Option Addr) (k d : Nat) (t : S9 < 0) (w : World) (hs : ∀ W : World, Kp w W → Calls Try.prog 29 #[.agg #[.int .i64 0, .bool s, .slice p l c, .slice q k d]] W fun e w' => e = .returned (.int .i64 S9) ∧ Kp W w') (hN : ∀ W : World, Kp w W → Calls Try.prog 35 #[.agg #[.bool s, .slice p l c, .slice q k d]] W fun e w' => ∃ (s2 : Bool) (p2 : Option Addr) (l2 c2 : Nat) (q2 : Option Addr) (k2 d2 : Nat), e = .returned (.agg #[.bool s2, .slice p2 l2 c2, .slice q2 k2 d2]) ∧ RP W.heap.size w' s2 p2 l2 c2 q2 k2 d2 N M ∧ Kp W w') : Calls Try.prog 28 #[.agg #[.int .i64 0, .bool s, .slice p l c, .slice q k d]] w fun e w' => ∃ (s2 : Bool) (p2 : Option Addr) (l2 c2 : Nat) (q2 : Option Addr) (k2 d2 : Nat), e = .returned (.agg #[.int .i64 0, .bool s2, .slice p2 l2 c2, .slice q2 k2 d2]) ∧ RP w.heap.size w' s2 p2 l2 c2 q2 k2 d2 N M ∧ Kp w w' := by
  go_enter Try.func28, Try.ntmps28
  go_wp2_with (first | (go_at_call 29; refine (hs _ (((Kp.refl w).alloc _).alloc _)).mono ?_; rintro e w1 ⟨rfl, g1⟩; have k1 : Kp w w1 := Kp.trans (((Kp.refl w).alloc _).alloc _) g1; have x0 := kkeep g1 (b := w.heap.size) (o := 0) (v := .int .i64 0) (by simp [go_sem]); have xz0 : w1.frozen? ⟨w.heap.size, 0, none⟩ = false := (kfro g1 (by simp <;> omega)).trans (by simp [go_sem]); have x1 := kkeep g1 (b := w.heap.size) (o := 1) (v := .bool s) (by simp [go_sem]); have xz1 : w1.frozen? ⟨w.heap.size, 1, none⟩ = false := (kfro g1 (by simp <;> omega)).trans (by simp [go_sem]); have x2 := kkeep g1 (b := w.heap.size) (o := 2) (v := .slice p l c) (by simp [go_sem]); have xz2 : w1.frozen? ⟨w.heap.size, 2, none⟩ = false := (kfro g1 (by simp <;> omega)).trans (by simp [go_sem]); have x3 := kkeep g1 (b := w.heap.size) (o := 3) (v := .slice q k d) (by simp [go_sem]); have xz3 : w1.frozen? ⟨w.heap.size, 3, none⟩ = false := (kfro g1 (by simp <;> omega)).trans (by simp [go_sem]); have r0 := kkeep g1 (b := w.heap.size + 1) (o := 0) (v := .int .i64 0) (by simp [go_sem]); have rz0 : w1.frozen? ⟨w.heap.size + 1, 0, none⟩ = false := (kfro g1 (by simp <;> omega)).trans (by simp [go_sem]); have r1 := kkeep g1 (b := w.heap.size + 1) (o := 1) (v := .bool false) (by simp [go_sem]); have rz1 : w1.frozen? ⟨w.heap.size + 1, 1, none⟩ = false := (kfro g1 (by simp <;> omega)).trans (by simp [go_sem]); have r2 := kkeep g1 (b := w.heap.size + 1) (o := 2) (v := .slice none 0 0) (by simp [go_sem]); have rz2 : w1.frozen? ⟨w.heap.size + 1, 2, none⟩ = false := (kfro g1 (by simp <;> omega)).trans (by simp [go_sem]); have r3 := kkeep g1 (b := w.heap.size + 1) (o := 3) (v := .slice none 0 0) (by simp [go_sem]); have rz3 : w1.frozen? ⟨w.heap.size + 1, 3, none⟩ = false := (kfro g1 (by simp <;> omega)).trans (by simp [go_sem])))
  have hBW : w.heap.size + 1 < w1.heap.size := cell_lt r0
  have hn1 : w.heap.size + 1 ≠ w.heap.size := by omega
  have dw0 : w1.drew.cell? ⟨w.heap.size, 0, none⟩ = some (.int .i64 0) := x0
  have dw1 : w1.drew.cell? ⟨w.heap.size, 1, none⟩ = some (.bool s) := x1
  have dw2 : w1.drew.cell? ⟨w.heap.size, 2, none⟩ = some (.slice p l c) := x2
  have dw3 : w1.drew.cell? ⟨w.heap.size, 3, none⟩ = some (.slice q k d) := x3
  go_region_held3 (fun w' => w'.cell? ⟨w.heap.size, 0, none⟩ = some (.int .i64 0) ∧ w'.cell? ⟨w.heap.size, 1, none⟩ = some (.bool s) ∧ w'.cell? ⟨w.heap.size, 2, none⟩ = some (.slice p l c) ∧ w'.cell? ⟨w.heap.size, 3, none⟩ = some (.slice q k d)) (first | (with_reducible exact ⟨x0, x1, x2, x3⟩) | (with_reducible exact ⟨dw0, dw1, dw2, dw3⟩) | (with_reducible exact ⟨aw0, aw1, aw2, aw3⟩) | (exact ⟨((World.cell?_setCell_far _ _ _ _ hn1).trans ((World.cell?_setCell_far _ _ _ _ hn1).trans ((World.cell?_setCell_far _ _ _ _ hn1).trans ((World.cell?_setCell_far _ _ _ _ hn1).trans aw0)))), ((World.cell?_setCell_far _ _ _ _ hn1).trans ((World.cell?_setCell_far _ _ _ _ hn1).trans ((World.cell?_setCell_far _ _ _ _ hn1).trans ((World.cell?_setCell_far _ _ _ _ hn1).trans aw1)))), ((World.cell?_setCell_far _ _ _ _ hn1).trans ((World.cell?_setCell_far _ _ _ _ hn1).trans ((World.cell?_setCell_far _ _ _ _ hn1).trans ((World.cell?_setCell_far _ _ _ _ hn1).trans aw2)))), ((World.cell?_setCell_far _ _ _ _ hn1).trans ((World.cell?_setCell_far _ _ _ _ hn1).trans ((World.cell?_setCell_far _ _ _ _ hn1).trans ((World.cell?_setCell_far _ _ _ _ hn1).trans aw3))))⟩)) (first | (go_at_call 35; refine (hN _ ?q0).mono ?_; (case q0 => exact k1.drew); rintro e wl ⟨s2, p2, l2, c2, q2, k2, d2, rfl, hp, gl⟩; have kl : Kp w1 wl := Kp.trans (Kp.drew (Kp.refl _)) gl; have aw0 := kkeep kl x0; have aw1 := kkeep kl x1; have aw2 := kkeep kl x2; have aw3 := kkeep kl x3; have R0 := kkeep kl r0; have Rz0 : wl.frozen? ⟨w.heap.size + 1, 0, none⟩ = false := (kfro kl (cell_lt r0)).trans rz0; have R1 := kkeep kl r1; have Rz1 : wl.frozen? ⟨w.heap.size + 1, 1, none⟩ = false := (kfro kl (cell_lt r1)).trans rz1; have R2 := kkeep kl r2; have Rz2 : wl.frozen? ⟨w.heap.size + 1, 2, none⟩ = false := (kfro kl (cell_lt r2)).trans rz2; have R3 := kkeep kl r3; have Rz3 : wl.frozen? ⟨w.heap.size + 1, 3, none⟩ = false := (kfro kl (cell_lt r3)).trans rz3))
  go_wp2
  have hle : w.heap.size ≤ w1.heap.size := by omega
  exact bodyPost_ret (v := .agg #[.int .i64 0, .bool s2, .slice p2 l2 c2, .slice q2 k2 d2]) (by simp [results, Try.results28, go_sem, R0, R1, R2, R3] <;> decide +kernel) rfl ⟨s2, p2, l2, c2, q2, k2, d2, rfl, RP.mono ((((((hp.mono (base' := w1.heap.size) (Nat.le_refl _))).set (x := ⟨w.heap.size + 1, 0, none⟩) hBW (.int .i64 0)).set (x := ⟨w.heap.size + 1, 1, none⟩) hBW (.bool s2)).set (x := ⟨w.heap.size + 1, 2, none⟩) hBW (.slice p2 l2 c2)).set (x := ⟨w.heap.size + 1, 3, none⟩) hBW (.slice q2 k2 d2)) hle, (((((Kp.trans k1 kl)).setCell (by simp) _).setCell (by simp) _).setCell (by simp) _).setCell (by simp) _⟩
set_option maxRecDepth 20000 in
set_option maxHeartbeats 1000000 in
theorem magnM_ (S9 : Int) (N : Bool) (M : Nat) (s : Bool) (p : Option Addr) (l c : Nat) (q : Option Addr) (k d : Nat) (t : S9 < 0) (w : World) (hs : ∀ W : World, Kp w W → Calls Try.prog 29 #[.agg #[.int .i64 (-1), .bool s, .slice p l c, .slice q k d]] W fun e w' => e = .returned (.int .i64 S9) ∧ Kp W w') (hN : ∀ W : World, Kp w W → Calls Try.prog 35 #[.agg #[.bool s, .slice p l c, .slice q k d]] W fun e w' => ∃ (s2 : Bool) (p2 : Option Addr) (l2 c2 : Nat) (q2 : Option Addr) (k2 d2 : Nat), e = .returned (.agg #[.bool s2, .slice p2 l2 c2, .slice q2 k2 d2]) ∧ RP W.heap.size w' s2 p2 l2 c2 q2 k2 d2 N M ∧ Kp W w') : Calls Try.prog 28 #[.agg #[.int .i64 (-1), .bool s, .slice p l c, .slice q k d]] w fun e w' => ∃ (s2 : Bool) (p2 : Option Addr) (l2 c2 : Nat) (q2 : Option Addr) (k2 d2 : Nat), e = .returned (.agg #[.int .i64 1, .bool s2, .slice p2 l2 c2, .slice q2 k2 d2]) ∧ RP w.heap.size w' s2 p2 l2 c2 q2 k2 d2 N M ∧ Kp w w' := by
  go_enter Try.func28, Try.ntmps28
  go_wp2_with (first | (go_at_call 29; refine (hs _ (((Kp.refl w).alloc _).alloc _)).mono ?_; rintro e w1 ⟨rfl, g1⟩; have k1 : Kp w w1 := Kp.trans (((Kp.refl w).alloc _).alloc _) g1; have x0 := kkeep g1 (b := w.heap.size) (o := 0) (v := .int .i64 (-1)) (by simp [go_sem]); have xz0 : w1.frozen? ⟨w.heap.size, 0, none⟩ = false := (kfro g1 (by simp <;> omega)).trans (by simp [go_sem]); have x1 := kkeep g1 (b := w.heap.size) (o := 1) (v := .bool s) (by simp [go_sem]); have xz1 : w1.frozen? ⟨w.heap.size, 1, none⟩ = false := (kfro g1 (by simp <;> omega)).trans (by simp [go_sem]); have x2 := kkeep g1 (b := w.heap.size) (o := 2) (v := .slice p l c) (by simp [go_sem]); have xz2 : w1.frozen? ⟨w.heap.size, 2, none⟩ = false := (kfro g1 (by simp <;> omega)).trans (by simp [go_sem]); have x3 := kkeep g1 (b := w.heap.size) (o := 3) (v := .slice q k d) (by simp [go_sem]); have xz3 : w1.frozen? ⟨w.heap.size, 3, none⟩ = false := (kfro g1 (by simp <;> omega)).trans (by simp [go_sem]); have r0 := kkeep g1 (b := w.heap.size + 1) (o := 0) (v := .int .i64 0) (by simp [go_sem]); have rz0 : w1.frozen? ⟨w.heap.size + 1, 0, none⟩ = false := (kfro g1 (by simp <;> omega)).trans (by simp [go_sem]); have r1 := kkeep g1 (b := w.heap.size + 1) (o := 1) (v := .bool false) (by simp [go_sem]); have rz1 : w1.frozen? ⟨w.heap.size + 1, 1, none⟩ = false := (kfro g1 (by simp <;> omega)).trans (by simp [go_sem]); have r2 := kkeep g1 (b := w.heap.size + 1) (o := 2) (v := .slice none 0 0) (by simp [go_sem]); have rz2 : w1.frozen? ⟨w.heap.size + 1, 2, none⟩ = false := (kfro g1 (by simp <;> omega)).trans (by simp [go_sem]); have r3 := kkeep g1 (b := w.heap.size + 1) (o := 3) (v := .slice none 0 0) (by simp [go_sem]); have rz3 : w1.frozen? ⟨w.heap.size + 1, 3, none⟩ = false := (kfro g1 (by simp <;> omega)).trans (by simp [go_sem])))
  have hBW : w.heap.size + 1 < w1.heap.size := cell_lt r0
  have hn1 : w.heap.size + 1 ≠ w.heap.size := by omega
  have dw0 : w1.drew.cell? ⟨w.heap.size, 0, none⟩ = some (.int .i64 (-1)) := x0
  have dw1 : w1.drew.cell? ⟨w.heap.size, 1, none⟩ = some (.bool s) := x1
  have dw2 : w1.drew.cell? ⟨w.heap.size, 2, none⟩ = some (.slice p l c) := x2
  have dw3 : w1.drew.cell? ⟨w.heap.size, 3, none⟩ = some (.slice q k d) := x3
  go_region_held3 (fun w' => w'.cell? ⟨w.heap.size, 0, none⟩ = some (.int .i64 (-1)) ∧ w'.cell? ⟨w.heap.size, 1, none⟩ = some (.bool s) ∧ w'.cell? ⟨w.heap.size, 2, none⟩ = some (.slice p l c) ∧ w'.cell? ⟨w.heap.size, 3, none⟩ = some (.slice q k d)) (first | (with_reducible exact ⟨x0, x1, x2, x3⟩) | (with_reducible exact ⟨dw0, dw1, dw2, dw3⟩) | (with_reducible exact ⟨aw0, aw1, aw2, aw3⟩) | (exact ⟨((World.cell?_setCell_far _ _ _ _ hn1).trans ((World.cell?_setCell_far _ _ _ _ hn1).trans ((World.cell?_setCell_far _ _ _ _ hn1).trans ((World.cell?_setCell_far _ _ _ _ hn1).trans aw0)))), ((World.cell?_setCell_far _ _ _ _ hn1).trans ((World.cell?_setCell_far _ _ _ _ hn1).trans ((World.cell?_setCell_far _ _ _ _ hn1).trans ((World.cell?_setCell_far _ _ _ _ hn1).trans aw1)))), ((World.cell?_setCell_far _ _ _ _ hn1).trans ((World.cell?_setCell_far _ _ _ _ hn1).trans ((World.cell?_setCell_far _ _ _ _ hn1).trans ((World.cell?_setCell_far _ _ _ _ hn1).trans aw2)))), ((World.cell?_setCell_far _ _ _ _ hn1).trans ((World.cell?_setCell_far _ _ _ _ hn1).trans ((World.cell?_setCell_far _ _ _ _ hn1).trans ((World.cell?_setCell_far _ _ _ _ hn1).trans aw3))))⟩)) (first | (go_at_call 35; refine (hN _ ?q0).mono ?_; (case q0 => exact k1.drew); rintro e wl ⟨s2, p2, l2, c2, q2, k2, d2, rfl, hp, gl⟩; have kl : Kp w1 wl := Kp.trans (Kp.drew (Kp.refl _)) gl; have aw0 := kkeep kl x0; have aw1 := kkeep kl x1; have aw2 := kkeep kl x2; have aw3 := kkeep kl x3; have R0 := kkeep kl r0; have Rz0 : wl.frozen? ⟨w.heap.size + 1, 0, none⟩ = false := (kfro kl (cell_lt r0)).trans rz0; have R1 := kkeep kl r1; have Rz1 : wl.frozen? ⟨w.heap.size + 1, 1, none⟩ = false := (kfro kl (cell_lt r1)).trans rz1; have R2 := kkeep kl r2; have Rz2 : wl.frozen? ⟨w.heap.size + 1, 2, none⟩ = false := (kfro kl (cell_lt r2)).trans rz2; have R3 := kkeep kl r3; have Rz3 : wl.frozen? ⟨w.heap.size + 1, 3, none⟩ = false := (kfro kl (cell_lt r3)).trans rz3))
  go_wp2
  have hle : w.heap.size ≤ w1.heap.size := by omega
  exact bodyPost_ret (v := .agg #[.int .i64 1, .bool s2, .slice p2 l2 c2, .slice q2 k2 d2]) (by simp [results, Try.results28, go_sem, R0, R1, R2, R3] <;> decide +kernel) rfl ⟨s2, p2, l2, c2, q2, k2, d2, rfl, RP.mono ((((((hp.mono (base' := w1.heap.size) (Nat.le_refl _))).set (x := ⟨w.heap.size + 1, 0, none⟩) hBW (.int .i64 1)).set (x := ⟨w.heap.size + 1, 1, none⟩) hBW (.bool s2)).set (x := ⟨w.heap.size + 1, 2, none⟩) hBW (.slice p2 l2 c2)).set (x := ⟨w.heap.size + 1, 3, none⟩) hBW (.slice q2 k2 d2)) hle, (((((Kp.trans k1 kl)).setCell (by simp) _).setCell (by simp) _).setCell (by simp) _).setCell (by simp) _⟩

theorem mag7_ (n : Bool) (m : Nat) (hm : m ≤ 9218868437227405312) (z : n = true → m ≠ 0) (s : Bool) (p : Option Addr) (l c : Nat) (q : Option Addr) (k d : Nat) (B1 : Nat) (w : World) (h : RP B1 w s p l c q k d (fN n m) (fM m)) (W : World) (g : Kp w W) : Calls Try.prog 28 #[.agg #[.int .i64 (infS n m), .bool s, .slice p l c, .slice q k d]] W fun e w' => ∃ (s3 : Bool) (p3 : Option Addr) (l3 c3 : Nat) (q3 : Option Addr) (k3 d3 : Nat), e = .returned (.agg #[.int .i64 (infS false m), .bool s3, .slice p3 l3 c3, .slice q3 k3 d3]) ∧ RP 0 w' s3 p3 l3 c3 q3 k3 d3 (fN false m) (fM m) ∧ (∀ b, w.heap.size ≤ b → b < W.heap.size → NB p3 q3 b) ∧ Kp W w' := by
  have hs := fun (V : World) (y : Kp W V) => signE_ n m s p l c q k d B1 V ((h.kp g).kp y)
  have hN := fun (V : World) (y : Kp W V) => rneg6_ (fN n m) (fM m) s p l c q k d B1 V ((h.kp g).kp y)
  have P1 : Fq.plz n m = if n then -(m : Int) else m := by unfold Fq.plz; cases n <;> rfl
  cases n with
  | false =>
    have t : ¬ (cmI (Fq.plz false m) 0 < 0) := by
      rw [P1]; unfold cmI; simp; split <;> first | omega | decide
    refine (magnK_ _ _ s p l c q k d t W hs).mono ?_
    rintro e w' ⟨rfl, g2⟩
    exact ⟨s, p, l, c, q, k, d, rfl, ((h.kp g).kp g2).mono (Nat.zero_le _), fun b h1 _ => h.nbNew h1, g2⟩
  | true =>
    have hm0 := z rfl
    have t : cmI (Fq.plz true m) 0 < 0 := by
      rw [P1, cmI_lt _ _ (by simp; omega)]; decide
    have fin : ∀ i j : Int, i = infS true m → j = infS false m → (Calls Try.prog 28 #[.agg #[.int .i64 i, .bool s, .slice p l c, .slice q k d]] W fun e w' => ∃ (s2 : Bool) (p2 : Option Addr) (l2 c2 : Nat) (q2 : Option Addr) (k2 d2 : Nat), e = .returned (.agg #[.int .i64 j, .bool s2, .slice p2 l2 c2, .slice q2 k2 d2]) ∧ RP W.heap.size w' s2 p2 l2 c2 q2 k2 d2 (!(fN true m)) (fM m) ∧ Kp W w') → Calls Try.prog 28 #[.agg #[.int .i64 (infS true m), .bool s, .slice p l c, .slice q k d]] W fun e w' => ∃ (s3 : Bool) (p3 : Option Addr) (l3 c3 : Nat) (q3 : Option Addr) (k3 d3 : Nat), e = .returned (.agg #[.int .i64 (infS false m), .bool s3, .slice p3 l3 c3, .slice q3 k3 d3]) ∧ RP 0 w' s3 p3 l3 c3 q3 k3 d3 (fN false m) (fM m) ∧ (∀ b, w.heap.size ≤ b → b < W.heap.size → NB p3 q3 b) ∧ Kp W w' := by
      rintro i j rfl rfl hh
      refine hh.mono ?_
      rintro e w' ⟨s2, p2, l2, c2, q2, k2, d2, rfl, hp, g2⟩
      refine ⟨s2, p2, l2, c2, q2, k2, d2, rfl, ?_, fun b _ h2 => hp.nbLow h2, g2⟩
      have hp := hp.mono (Nat.zero_le _)
      unfold fN at hp ⊢
      by_cases ci : m = 9218868437227405312
      · rw [if_pos ci] at hp ⊢
        have e0 : fM m = 0 := by unfold fM; rw [if_pos ci]
        rw [e0] at hp ⊢
        exact hp.nought _
      · rw [if_neg ci] at hp ⊢
        exact hp
    by_cases ci : m = 9218868437227405312
    · exact fin (-1) 1 (by rw [ci]; rfl) (by rw [ci]; rfl) (magnM_ _ _ _ s p l c q k d t W (by have e : infS true m = -1 := (by unfold infS; simp [ci]); rw [e] at hs; exact hs) hN)
    · exact fin 0 0 (by unfold infS; simp [ci]) (by unfold infS; simp [ci]) (magnZ_ _ _ _ s p l c q k d t W (by have e : infS true m = 0 := (by unfold infS; simp [ci]); rw [e] at hs; exact hs) hN)
set_option maxRecDepth 20000 in
set_option maxHeartbeats 1000000 in
theorem sizeE_ (i j : Int) (s : Bool) (p : Option Addr) (l c : Nat) (q : Option Addr) (k d : Nat) (s2 : Bool) (p2 : Option Addr) (l2 c2 : Nat) (q2 : Option Addr) (k2 d2 : Nat) (w : World) : Calls Try.prog 18 #[.agg #[.bool true, .int .i64 i, .bool s, .slice p l c, .slice q k d, .int .i64 j, .bool s2, .slice p2 l2 c2, .slice q2 k2 d2]] w fun e w' => e = .returned (.agg #[.bool true, .int .i64 i, .bool s, .slice p l c, .slice q k d, .int .i64 j, .bool s2, .slice p2 l2 c2, .slice q2 k2 d2]) ∧ Kp w w' := by
  go_enter Try.func18, Try.ntmps18
  go_wp2
  exact bodyPost_ret (v := .agg #[.bool true, .int .i64 i, .bool s, .slice p l c, .slice q k d, .int .i64 j, .bool s2, .slice p2 l2 c2, .slice q2 k2 d2]) (by simp [results, Try.results18, go_sem]) rfl ⟨rfl, (by repeat (with_reducible (first | assumption | exact Kp.refl _ | apply Kp.drew | apply Kp.alloc | apply Kp.drewN | (refine Kp.setCell ?_ (by first | omega | (simp <;> omega)) _) | (refine Kp.trans ?_ (by assumption)))))⟩
theorem sizeX_ (W : World) (v : Value) (h : SV0 true v) : Calls Try.prog 18 #[v] W fun e w' => ∃ v', e = .returned v' ∧ SV0 true v' ∧ Kp W w' := by
  obtain ⟨i, j, s, p, l, c, q, k, d, s2, p2, l2, c2, q2, k2, d2, rfl⟩ := h
  refine (sizeE_ i j s p l c q k d s2 p2 l2 c2 q2 k2 d2 W).mono ?_
  rintro e w' ⟨rfl, y⟩
  exact ⟨_, rfl, ⟨i, j, s, p, l, c, q, k, d, s2, p2, l2, c2, q2, k2, d2, rfl⟩, y⟩
set_option maxRecDepth 20000 in
set_option maxHeartbeats 1000000 in
theorem absV_ (a b LO HI : Nat) (hr : ∀ w : World, Calls Try.prog 13 #[.agg #[.float .f64 a, .float .f64 b]] w fun e w' => e = .returned (.agg #[.float .f64 LO, .float .f64 HI]) ∧ Kp w w') (hv : ∀ w : World, Calls Try.prog 14 #[.agg #[.float .f64 LO, .float .f64 HI]] w fun e w' => e = .returned (.bool true) ∧ Kp w w') (w : World) : Calls Try.prog 5 #[.agg #[.float .f64 a, .float .f64 b]] w fun e w' => e = .returned (.agg #[.float .f64 LO, .float .f64 HI]) ∧ Kp w w' := by
  go_enter Try.func5, Try.ntmps5
  go_wp2_with (first | (go_at_call 13; refine (hr _).mono ?_; rintro e w1 ⟨rfl, g1⟩; have q0 := Fq.H2.keep (Fq.H2.past (Fq.H2.new w (.float .f64 a) (.float .f64 b) 28) #[.float .f64 0, .float .f64 0] 28) g1; have q1 : Fq.H2 w1 (w.heap.size + 1) (.float .f64 0) (.float .f64 0) := Fq.H2.keep (Fq.H2.two0 w (.float .f64 a) (.float .f64 b) (.float .f64 0) (.float .f64 0) 28 28) g1; have kw : Kp w w1 := Kp.trans (((Kp.refl w).alloc _).alloc _) g1; obtain ⟨x0, x1, x2, x3⟩ := id q0; obtain ⟨y0, y1, y2, y3⟩ := id q1) | (go_at_call 14; refine (hv _).mono ?_; rintro e w2 ⟨rfl, g2⟩; have qx := Fq.H2.keep (Fq.H2.put q0 (.float .f64 LO) (.float .f64 HI)) g2; have qy := Fq.H2.keep (Fq.H2.far q1 (show w.heap.size ≠ w.heap.size + 1 by omega) (.float .f64 LO) (.float .f64 HI)) g2; have kv : Kp w w2 := Kp.trans ((kw.setCell (Nat.le_refl _) _).setCell (Nat.le_refl _) _) g2; obtain ⟨u0, u1, u2, u3⟩ := id qx; obtain ⟨v0, v1, v2, v3⟩ := id qy))
  exact bodyPost_ret (v := .agg #[.float .f64 LO, .float .f64 HI]) (by simp [results, Try.results5, go_sem, v0, v1]) rfl ⟨rfl, (kv.setCell (by simp) _).setCell (by simp) _⟩
set_option maxRecDepth 20000 in
set_option maxHeartbeats 1000000 in
theorem absS_ (a b LO HI : Nat) (hr : ∀ w : World, Calls Try.prog 13 #[.agg #[.float .f64 a, .float .f64 b]] w fun e w' => e = .returned (.agg #[.float .f64 LO, .float .f64 HI]) ∧ Kp w w') (hv : ∀ w : World, Calls Try.prog 14 #[.agg #[.float .f64 LO, .float .f64 HI]] w fun e w' => e = .returned (.bool false) ∧ Kp w w') (TL TH NL NH : Nat) (hn : ∀ w : World, Calls Try.prog 15 #[.agg #[.float .f64 LO, .float .f64 HI]] w fun e w' => e = .returned (.agg #[.float .f64 TL, .float .f64 TH]) ∧ Kp w w') (hm1 : ∀ (ts : Array TypeId) (t : TypeId) (w : World), (Builtin.max_ ts t #[.float .f64 LO, .float .f64 TL, .float .f64 0]).run Try.prog w = .ok (.float .f64 NL) w) (hm2 : ∀ (ts : Array TypeId) (t : TypeId) (w : World), (Builtin.max_ ts t #[.float .f64 HI, .float .f64 TH]).run Try.prog w = .ok (.float .f64 NH) w) (w : World) : Calls Try.prog 5 #[.agg #[.float .f64 a, .float .f64 b]] w fun e w' => e = .returned (.agg #[.float .f64 NL, .float .f64 NH]) ∧ Kp w w' := by
  go_enter Try.func5, Try.ntmps5
  go_wp2_with (first | (go_at_call 13; refine (hr _).mono ?_; rintro e w1 ⟨rfl, g1⟩; have q0 := Fq.H2.keep (Fq.H2.past (Fq.H2.new w (.float .f64 a) (.float .f64 b) 28) #[.float .f64 0, .float .f64 0] 28) g1; have q1 : Fq.H2 w1 (w.heap.size + 1) (.float .f64 0) (.float .f64 0) := Fq.H2.keep (Fq.H2.two0 w (.float .f64 a) (.float .f64 b) (.float .f64 0) (.float .f64 0) 28 28) g1; have kw : Kp w w1 := Kp.trans (((Kp.refl w).alloc _).alloc _) g1; obtain ⟨x0, x1, x2, x3⟩ := id q0; obtain ⟨y0, y1, y2, y3⟩ := id q1) | (go_at_call 14; refine (hv _).mono ?_; rintro e w2 ⟨rfl, g2⟩; have qx := Fq.H2.keep (Fq.H2.put q0 (.float .f64 LO) (.float .f64 HI)) g2; have qy := Fq.H2.keep (Fq.H2.far q1 (show w.heap.size ≠ w.heap.size + 1 by omega) (.float .f64 LO) (.float .f64 HI)) g2; have kv : Kp w w2 := Kp.trans ((kw.setCell (Nat.le_refl _) _).setCell (Nat.le_refl _) _) g2; obtain ⟨u0, u1, u2, u3⟩ := id qx; obtain ⟨v0, v1, v2, v3⟩ := id qy) | (go_at_call 15; refine (hn _).mono ?_; rintro e w3 ⟨rfl, g3⟩; have k3 : Kp w w3 := Kp.trans kv g3; have qa := Fq.H2.keep qx g3; have qb := Fq.H2.keep qy g3; have qc := Fq.H2.past qa #[.float .f64 TL, .float .f64 TH] 28; have qd := Fq.H2.past qb #[.float .f64 TL, .float .f64 TH] 28; obtain ⟨c0, c1, c2, c3⟩ := id qc; obtain ⟨d0, d1, d2, d3⟩ := id qd))
  exact bodyPost_ret (v := .agg #[.float .f64 NL, .float .f64 NH]) (by simp [results, Try.results5, go_sem, d0, d1]) rfl ⟨rfl, (((k3.alloc _)).setCell (by simp) _).setCell (by simp) _⟩
end Go.Proofs.Ytflhcnmbondpnaa
