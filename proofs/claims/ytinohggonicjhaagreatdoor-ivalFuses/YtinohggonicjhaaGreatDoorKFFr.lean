import Derived.Test.YtinohggonicjhaaGreatDoorKU4x
namespace Go.Proofs.YtinohggonicjhaaGreatDoor
open Go.RowKit
set_option maxRecDepth 20000 in
set_option maxHeartbeats 2000000 in
theorem rfma6c_ (X Y C D E G LO HI : Int) (P1 P2 P3 P4 P5 : World → Value → Prop) (w : World) (hk1 : ∀ (W W' : World) (v : Value), Kp W W' → P1 W v → P1 W' v) (hk4 : ∀ (W W' : World) (v : Value), Kp W W' → P4 W v → P4 W' v) (hO1 : ∀ W : World, Kp w W → Calls Tryz.prog 25 #[.agg #[.int .u64 X, .int .u64 Y]] W fun e w' => ∃ v, e = .returned v ∧ P1 w' v ∧ Kp W w') (hO2 : ∀ W : World, Kp w W → Calls Tryz.prog 25 #[.agg #[.int .u64 C, .int .u64 D]] W fun e w' => ∃ v, e = .returned v ∧ P2 w' v ∧ Kp W w') (hO3 : ∀ W : World, Kp w W → Calls Tryz.prog 25 #[.agg #[.int .u64 E, .int .u64 G]] W fun e w' => ∃ v, e = .returned v ∧ P3 w' v ∧ Kp W w') (hTi : ∀ (W : World) (u v : Value), Kp w W → P1 W u → P2 W v → Calls Tryz.prog 31 #[u, v] W fun e w' => ∃ v', e = .returned v' ∧ P4 w' v' ∧ Kp W w') (hPl : ∀ (W : World) (u v : Value), Kp w W → P4 W u → P3 W v → Calls Tryz.prog 30 #[u, v] W fun e w' => ∃ v', e = .returned v' ∧ P5 w' v' ∧ Kp W w') (hLe : ∀ (W : World) (v : Value), Kp w W → P5 W v → Calls Tryz.prog 23 #[v] W fun e w' => e = .returned (.agg #[.int .u64 LO, .int .u64 HI]) ∧ Kp W w') : Calls Tryz.prog 13 #[.agg #[.int .u64 X, .int .u64 Y], .agg #[.int .u64 C, .int .u64 D], .agg #[.int .u64 E, .int .u64 G]] w fun e w' => e = .returned (.agg #[.int .u64 LO, .int .u64 HI]) ∧ Kp w w' := by
  go_enter Tryz.func13, Tryz.ntmps13
  go_wp2
  generalize hW : ((((w.alloc (.cells #[.int .u64 X, .int .u64 Y] 24)).alloc (.cells #[.int .u64 C, .int .u64 D] 24)).alloc (.cells #[.int .u64 E, .int .u64 G] 24)).alloc (.cells #[.int .u64 0, .int .u64 0] 24)) = W
  have kw : Kp w W := by rw [← hW]; exact ((((Kp.refl w).alloc _).alloc _).alloc _).alloc _
  have xw0 : W.cell? ⟨w.heap.size, 0, none⟩ = some (.int .u64 X) := by rw [← hW]; simp [go_sem]
  have dw0 : W.drew.cell? ⟨w.heap.size, 0, none⟩ = some (.int .u64 X) := xw0
  have xw1 : W.cell? ⟨w.heap.size, 1, none⟩ = some (.int .u64 Y) := by rw [← hW]; simp [go_sem]
  have dw1 : W.drew.cell? ⟨w.heap.size, 1, none⟩ = some (.int .u64 Y) := xw1
  have xw2 : W.cell? ⟨w.heap.size + 1, 0, none⟩ = some (.int .u64 C) := by rw [← hW]; simp [go_sem]
  have dw2 : W.drew.cell? ⟨w.heap.size + 1, 0, none⟩ = some (.int .u64 C) := xw2
  have xw3 : W.cell? ⟨w.heap.size + 1, 1, none⟩ = some (.int .u64 D) := by rw [← hW]; simp [go_sem]
  have dw3 : W.drew.cell? ⟨w.heap.size + 1, 1, none⟩ = some (.int .u64 D) := xw3
  have xw4 : W.cell? ⟨w.heap.size + 2, 0, none⟩ = some (.int .u64 E) := by rw [← hW]; simp [go_sem]
  have dw4 : W.drew.cell? ⟨w.heap.size + 2, 0, none⟩ = some (.int .u64 E) := xw4
  have xw5 : W.cell? ⟨w.heap.size + 2, 1, none⟩ = some (.int .u64 G) := by rw [← hW]; simp [go_sem]
  have dw5 : W.drew.cell? ⟨w.heap.size + 2, 1, none⟩ = some (.int .u64 G) := xw5
  have r0 : W.cell? ⟨w.heap.size + 3, 0, none⟩ = some (.int .u64 0) := by rw [← hW]; simp [go_sem]
  have rz0 : W.frozen? ⟨w.heap.size + 3, 0, none⟩ = false := by rw [← hW]; simp [go_sem]
  have r1 : W.cell? ⟨w.heap.size + 3, 1, none⟩ = some (.int .u64 0) := by rw [← hW]; simp [go_sem]
  have rz1 : W.frozen? ⟨w.heap.size + 3, 1, none⟩ = false := by rw [← hW]; simp [go_sem]
  have hn0 : w.heap.size + 3 ≠ w.heap.size := by omega
  have hn1 : w.heap.size + 3 ≠ w.heap.size + 1 := by omega
  have hn2 : w.heap.size + 3 ≠ w.heap.size + 2 := by omega
  clear hW
  go_region_held3 (fun w' => w'.cell? ⟨w.heap.size, 0, none⟩ = some (.int .u64 X) ∧ w'.cell? ⟨w.heap.size, 1, none⟩ = some (.int .u64 Y) ∧ w'.cell? ⟨w.heap.size + 1, 0, none⟩ = some (.int .u64 C) ∧ w'.cell? ⟨w.heap.size + 1, 1, none⟩ = some (.int .u64 D) ∧ w'.cell? ⟨w.heap.size + 2, 0, none⟩ = some (.int .u64 E) ∧ w'.cell? ⟨w.heap.size + 2, 1, none⟩ = some (.int .u64 G)) (first | (with_reducible exact ⟨xw0, xw1, xw2, xw3, xw4, xw5⟩) | (with_reducible exact ⟨dw0, dw1, dw2, dw3, dw4, dw5⟩) | (with_reducible exact ⟨wA0, wA1, wA2, wA3, wA4, wA5⟩) | (with_reducible exact ⟨wB0, wB1, wB2, wB3, wB4, wB5⟩) | (with_reducible exact ⟨wC0, wC1, wC2, wC3, wC4, wC5⟩) | (with_reducible exact ⟨wD0, wD1, wD2, wD3, wD4, wD5⟩) | (with_reducible exact ⟨wE0, wE1, wE2, wE3, wE4, wE5⟩) | (with_reducible exact ⟨wF0, wF1, wF2, wF3, wF4, wF5⟩) | (exact ⟨((World.cell?_setCell_far _ _ _ _ hn0).trans ((World.cell?_setCell_far _ _ _ _ hn0).trans wF0)), ((World.cell?_setCell_far _ _ _ _ hn0).trans ((World.cell?_setCell_far _ _ _ _ hn0).trans wF1)), ((World.cell?_setCell_far _ _ _ _ hn1).trans ((World.cell?_setCell_far _ _ _ _ hn1).trans wF2)), ((World.cell?_setCell_far _ _ _ _ hn1).trans ((World.cell?_setCell_far _ _ _ _ hn1).trans wF3)), ((World.cell?_setCell_far _ _ _ _ hn2).trans ((World.cell?_setCell_far _ _ _ _ hn2).trans wF4)), ((World.cell?_setCell_far _ _ _ _ hn2).trans ((World.cell?_setCell_far _ _ _ _ hn2).trans wF5))⟩)) (first | (go_at_call_of 25 (Value.int .u64 X); refine (hO1 _ ?q0).mono ?_; (case q0 => exact kw.drew); rintro e wA ⟨v1, rfl, hv1, gA⟩; have kA : Kp W wA := Kp.trans (Kp.drew (Kp.refl _)) gA; have wA0 := kkeep kA xw0; have wA1 := kkeep kA xw1; have wA2 := kkeep kA xw2; have wA3 := kkeep kA xw3; have wA4 := kkeep kA xw4; have wA5 := kkeep kA xw5) | (go_at_call_of 25 (Value.int .u64 C); refine (hO2 _ ?q0).mono ?_; (case q0 => exact kw.trans kA); rintro e wB ⟨v2, rfl, hv2, gB⟩; have kB : Kp W wB := Kp.trans kA gB; have hv3 := hk1 _ _ _ gB hv1; have wB0 := kkeep kB xw0; have wB1 := kkeep kB xw1; have wB2 := kkeep kB xw2; have wB3 := kkeep kB xw3; have wB4 := kkeep kB xw4; have wB5 := kkeep kB xw5) | (go_at_call 31; refine (hTi _ v1 v2 (kw.trans kB) hv3 hv2).mono ?_; rintro e wC ⟨v4, rfl, hv4, gC⟩; have kC : Kp W wC := Kp.trans kB gC; have wC0 := kkeep kC xw0; have wC1 := kkeep kC xw1; have wC2 := kkeep kC xw2; have wC3 := kkeep kC xw3; have wC4 := kkeep kC xw4; have wC5 := kkeep kC xw5) | (go_at_call_of 25 (Value.int .u64 E); refine (hO3 _ ?q0).mono ?_; (case q0 => exact kw.trans kC); rintro e wD ⟨v5, rfl, hv5, gD⟩; have kD : Kp W wD := Kp.trans kC gD; have hv6 := hk4 _ _ _ gD hv4; have wD0 := kkeep kD xw0; have wD1 := kkeep kD xw1; have wD2 := kkeep kD xw2; have wD3 := kkeep kD xw3; have wD4 := kkeep kD xw4; have wD5 := kkeep kD xw5) | (go_at_call 30; refine (hPl _ v4 v5 (kw.trans kD) hv6 hv5).mono ?_; rintro e wE ⟨v7, rfl, hv7, gE⟩; have kE : Kp W wE := Kp.trans kD gE; have wE0 := kkeep kE xw0; have wE1 := kkeep kE xw1; have wE2 := kkeep kE xw2; have wE3 := kkeep kE xw3; have wE4 := kkeep kE xw4; have wE5 := kkeep kE xw5) | (go_at_call 23; refine (hLe _ v7 (kw.trans kE) hv7).mono ?_; rintro e wF ⟨rfl, gF⟩; have kF : Kp W wF := Kp.trans kE gF; have wF0 := kkeep kF xw0; have wF1 := kkeep kF xw1; have wF2 := kkeep kF xw2; have wF3 := kkeep kF xw3; have wF4 := kkeep kF xw4; have wF5 := kkeep kF xw5; have R0 := kkeep kF r0; have Rz0 : wF.frozen? ⟨w.heap.size + 3, 0, none⟩ = false := (kfro kF (cell_lt r0)).trans rz0; have R1 := kkeep kF r1; have Rz1 : wF.frozen? ⟨w.heap.size + 3, 1, none⟩ = false := (kfro kF (cell_lt r1)).trans rz1))
  go_wp2
  exact bodyPost_ret (v := .agg #[.int .u64 LO, .int .u64 HI]) (by simp [results, Tryz.results13, go_sem, R0, R1]) rfl ⟨rfl, (((Kp.trans kw kF)).setCell (by simp <;> omega) _).setCell (by simp <;> omega) _⟩

def H4c (w : World) (b : Nat) (v0 v1 v2 v3 : Value) : Prop := w.cell? ⟨b, 0, none⟩ = some v0 ∧ w.cell? ⟨b, 1, none⟩ = some v1 ∧ w.cell? ⟨b, 2, none⟩ = some v2 ∧ w.cell? ⟨b, 3, none⟩ = some v3 ∧ w.frozen? ⟨b, 0, none⟩ = false ∧ w.frozen? ⟨b, 1, none⟩ = false ∧ w.frozen? ⟨b, 2, none⟩ = false ∧ w.frozen? ⟨b, 3, none⟩ = false
theorem H4c.keep {W w : World} {b : Nat} {v0 v1 v2 v3 : Value} (h : H4c W b v0 v1 v2 v3) (g : Kp W w) : H4c w b v0 v1 v2 v3 := by
  obtain ⟨h0, h1, h2, h3, h4, h5, h6, h7⟩ := h
  exact ⟨kkeep g h0, kkeep g h1, kkeep g h2, kkeep g h3, (kfro g (cell_lt h0)).trans h4, (kfro g (cell_lt h0)).trans h5, (kfro g (cell_lt h0)).trans h6, (kfro g (cell_lt h0)).trans h7⟩
theorem H4c.new (w : World) (v0 v1 v2 v3 : Value) (t : TypeId) : H4c (w.alloc (.cells #[v0, v1, v2, v3] t)) w.heap.size v0 v1 v2 v3 := by
  unfold H4c; simp [go_sem]
theorem H4c.lt {w : World} {b : Nat} {v0 v1 v2 v3 : Value} (h : H4c w b v0 v1 v2 v3) : b < w.heap.size := cell_lt h.1
set_option maxRecDepth 20000 in
set_option maxHeartbeats 1000000 in
theorem H4c.put {w : World} {b : Nat} {v0 v1 v2 v3 : Value} (h : H4c w b v0 v1 v2 v3) (u0 u1 u2 u3 : Value) : H4c (((((w.setCell ⟨b, 0, none⟩ u0).setCell ⟨b, 1, none⟩ u1).setCell ⟨b, 2, none⟩ u2).setCell ⟨b, 3, none⟩ u3)) b u0 u1 u2 u3 := by
  obtain ⟨h0, h1, h2, h3, h4, h5, h6, h7⟩ := h
  unfold H4c; simp [go_sem, h0, h1, h2, h3, h4, h5, h6, h7]
theorem H4c.far1 {w : World} {b : Nat} {v0 v1 v2 v3 : Value} (h : H4c w b v0 v1 v2 v3) (x : Addr) (hne : x.block ≠ b) (u : Value) : H4c (w.setCell x u) b v0 v1 v2 v3 := by
  obtain ⟨h0, h1, h2, h3, h4, h5, h6, h7⟩ := h
  exact ⟨(World.cell?_setCell_far _ _ _ _ hne).trans h0, (World.cell?_setCell_far _ _ _ _ hne).trans h1, (World.cell?_setCell_far _ _ _ _ hne).trans h2, (World.cell?_setCell_far _ _ _ _ hne).trans h3, (World.frozen?_setCell _ _ _ _).trans h4, (World.frozen?_setCell _ _ _ _).trans h5, (World.frozen?_setCell _ _ _ _).trans h6, (World.frozen?_setCell _ _ _ _).trans h7⟩

set_option linter.unusedVariables false
def NB (p q : Option Addr) (b : Nat) : Prop := (∀ a, p = some a → a.block ≠ b) ∧ (∀ a, q = some a → a.block ≠ b)
theorem Own.setNe {w : World} {base : Nat} {p : Option Addr} {l c : Nat} {xs : List Int} (h : Own w base (.slice p l c) xs) {x : Addr} (hx : ∀ a, p = some a → a.block ≠ x.block) (u : Value) : Own (w.setCell x u) base (.slice p l c) xs := by
  refine ownsRow_setCell_other h ?_ u
  cases p with
  | none => simp [Value.ownBlock]
  | some a => simpa [Value.ownBlock] using hx a rfl
theorem Own.blk {w : World} {base : Nat} {p : Option Addr} {l c : Nat} {xs : List Int} (h : Own w base (.slice p l c) xs) : ∀ a, p = some a → base ≤ a.block ∧ a.block < w.heap.size := by
  intro a ha
  rcases h.2 with ⟨h1, -⟩ | ⟨g, cap, cur, h1, h2, h3, -⟩
  · simp at h1; rw [h1.1] at ha; cases ha
  · simp at h1
    rw [h1.1] at ha
    obtain rfl := Option.some.inj ha
    refine ⟨h2, ?_⟩
    exact lt_of_block h3
theorem RP.setNe {base : Nat} {w : World} {s : Bool} {p : Option Addr} {l c : Nat} {q : Option Addr} {k d : Nat} {n : Bool} {m : Nat} (h : RP base w s p l c q k d n m) {x : Addr} (hx : NB p q x.block) (u : Value) : RP base (w.setCell x u) s p l c q k d n m := by
  obtain ⟨a, b, h1, h2, h3⟩ := h
  exact ⟨a, b, h1.setNe hx.1 u, h2.setNe hx.2 u, h3⟩
theorem RP.nought {base : Nat} {w : World} {s : Bool} {p : Option Addr} {l c : Nat} {q : Option Addr} {k d : Nat} {n : Bool} (h : RP base w s p l c q k d n 0) (n' : Bool) : RP base w s p l c q k d n' 0 := by
  obtain ⟨a, b, h1, h2, h3⟩ := h
  refine ⟨a, b, h1, h2, fun K hK => ?_⟩
  obtain ⟨f1, f2, f3, f4, f5⟩ := h3 K hK
  exact ⟨f1, f2, by rw [← f3]; unfold Iv; rw [Fq.vV_zero]; cases n <;> cases n' <;> rfl, f4, f5⟩
theorem RP.nbLow {base : Nat} {w : World} {s : Bool} {p : Option Addr} {l c : Nat} {q : Option Addr} {k d : Nat} {n : Bool} {m : Nat} (h : RP base w s p l c q k d n m) {b : Nat} (hb : b < base) : NB p q b := by
  obtain ⟨x, y, h1, h2, -⟩ := h
  exact ⟨fun a ha => by have := (h1.blk a ha).1; omega, fun a ha => by have := (h2.blk a ha).1; omega⟩

def H9c (w : World) (b : Nat) (v0 v1 v2 v3 v4 v5 v6 v7 v8 : Value) : Prop := w.cell? ⟨b, 0, none⟩ = some v0 ∧ w.cell? ⟨b, 1, none⟩ = some v1 ∧ w.cell? ⟨b, 2, none⟩ = some v2 ∧ w.cell? ⟨b, 3, none⟩ = some v3 ∧ w.cell? ⟨b, 4, none⟩ = some v4 ∧ w.cell? ⟨b, 5, none⟩ = some v5 ∧ w.cell? ⟨b, 6, none⟩ = some v6 ∧ w.cell? ⟨b, 7, none⟩ = some v7 ∧ w.cell? ⟨b, 8, none⟩ = some v8 ∧ w.frozen? ⟨b, 0, none⟩ = false ∧ w.frozen? ⟨b, 1, none⟩ = false ∧ w.frozen? ⟨b, 2, none⟩ = false ∧ w.frozen? ⟨b, 3, none⟩ = false ∧ w.frozen? ⟨b, 4, none⟩ = false ∧ w.frozen? ⟨b, 5, none⟩ = false ∧ w.frozen? ⟨b, 6, none⟩ = false ∧ w.frozen? ⟨b, 7, none⟩ = false ∧ w.frozen? ⟨b, 8, none⟩ = false
theorem H9c.keep {W w : World} {b : Nat} {v0 v1 v2 v3 v4 v5 v6 v7 v8 : Value} (h : H9c W b v0 v1 v2 v3 v4 v5 v6 v7 v8) (g : Kp W w) : H9c w b v0 v1 v2 v3 v4 v5 v6 v7 v8 := by
  obtain ⟨h0, h1, h2, h3, h4, h5, h6, h7, h8, h9, h10, h11, h12, h13, h14, h15, h16, h17⟩ := h
  exact ⟨kkeep g h0, kkeep g h1, kkeep g h2, kkeep g h3, kkeep g h4, kkeep g h5, kkeep g h6, kkeep g h7, kkeep g h8, (kfro g (cell_lt h0)).trans h9, (kfro g (cell_lt h0)).trans h10, (kfro g (cell_lt h0)).trans h11, (kfro g (cell_lt h0)).trans h12, (kfro g (cell_lt h0)).trans h13, (kfro g (cell_lt h0)).trans h14, (kfro g (cell_lt h0)).trans h15, (kfro g (cell_lt h0)).trans h16, (kfro g (cell_lt h0)).trans h17⟩
theorem H9c.new (w : World) (v0 v1 v2 v3 v4 v5 v6 v7 v8 : Value) (t : TypeId) : H9c (w.alloc (.cells #[v0, v1, v2, v3, v4, v5, v6, v7, v8] t)) w.heap.size v0 v1 v2 v3 v4 v5 v6 v7 v8 := by
  unfold H9c; simp [go_sem]
theorem H9c.lt {w : World} {b : Nat} {v0 v1 v2 v3 v4 v5 v6 v7 v8 : Value} (h : H9c w b v0 v1 v2 v3 v4 v5 v6 v7 v8) : b < w.heap.size := cell_lt h.1
set_option maxRecDepth 20000 in
set_option maxHeartbeats 1000000 in
theorem H9c.put {w : World} {b : Nat} {v0 v1 v2 v3 v4 v5 v6 v7 v8 : Value} (h : H9c w b v0 v1 v2 v3 v4 v5 v6 v7 v8) (u0 u1 u2 u3 u4 u5 u6 u7 u8 : Value) : H9c ((((((((((w.setCell ⟨b, 0, none⟩ u0).setCell ⟨b, 1, none⟩ u1).setCell ⟨b, 2, none⟩ u2).setCell ⟨b, 3, none⟩ u3).setCell ⟨b, 4, none⟩ u4).setCell ⟨b, 5, none⟩ u5).setCell ⟨b, 6, none⟩ u6).setCell ⟨b, 7, none⟩ u7).setCell ⟨b, 8, none⟩ u8)) b u0 u1 u2 u3 u4 u5 u6 u7 u8 := by
  obtain ⟨h0, h1, h2, h3, h4, h5, h6, h7, h8, h9, h10, h11, h12, h13, h14, h15, h16, h17⟩ := h
  unfold H9c; simp [go_sem, h0, h1, h2, h3, h4, h5, h6, h7, h8, h9, h10, h11, h12, h13, h14, h15, h16, h17]
theorem H9c.far1 {w : World} {b : Nat} {v0 v1 v2 v3 v4 v5 v6 v7 v8 : Value} (h : H9c w b v0 v1 v2 v3 v4 v5 v6 v7 v8) (x : Addr) (hne : x.block ≠ b) (u : Value) : H9c (w.setCell x u) b v0 v1 v2 v3 v4 v5 v6 v7 v8 := by
  obtain ⟨h0, h1, h2, h3, h4, h5, h6, h7, h8, h9, h10, h11, h12, h13, h14, h15, h16, h17⟩ := h
  exact ⟨(World.cell?_setCell_far _ _ _ _ hne).trans h0, (World.cell?_setCell_far _ _ _ _ hne).trans h1, (World.cell?_setCell_far _ _ _ _ hne).trans h2, (World.cell?_setCell_far _ _ _ _ hne).trans h3, (World.cell?_setCell_far _ _ _ _ hne).trans h4, (World.cell?_setCell_far _ _ _ _ hne).trans h5, (World.cell?_setCell_far _ _ _ _ hne).trans h6, (World.cell?_setCell_far _ _ _ _ hne).trans h7, (World.cell?_setCell_far _ _ _ _ hne).trans h8, (World.frozen?_setCell _ _ _ _).trans h9, (World.frozen?_setCell _ _ _ _).trans h10, (World.frozen?_setCell _ _ _ _).trans h11, (World.frozen?_setCell _ _ _ _).trans h12, (World.frozen?_setCell _ _ _ _).trans h13, (World.frozen?_setCell _ _ _ _).trans h14, (World.frozen?_setCell _ _ _ _).trans h15, (World.frozen?_setCell _ _ _ _).trans h16, (World.frozen?_setCell _ _ _ _).trans h17⟩
theorem cmI_scale (x y k : Int) (hk : 0 < k) : cmI (x * k) (y * k) = cmI x y := by
  unfold cmI
  have e1 : x * k < y * k ↔ x < y := ⟨fun h => Int.lt_of_mul_lt_mul_right h (Int.le_of_lt hk), fun h => Int.mul_lt_mul_of_pos_right h hk⟩
  have e2 : y * k < x * k ↔ y < x := ⟨fun h => Int.lt_of_mul_lt_mul_right h (Int.le_of_lt hk), fun h => Int.mul_lt_mul_of_pos_right h hk⟩
  simp only [e1, e2]
theorem frac_ratio (x D a b : Nat) (hD : D ≠ 0) (hF : FracOf x D 0 a b) : a * D = x * b := by
  have hb := hF.1
  by_cases c0 : x = 0
  · rw [hF.2.1.2 c0, c0, Nat.zero_mul, Nat.zero_mul]
  · have hfl : ∀ t : Nat, a * 2 ^ t / b = x * 2 ^ t / D := fun t => by
      have h := hF.2.2.1 (-1) (blen (a * 2 ^ t / b) + blen (x * 2 ^ t / D)) (t : Int) c0
      unfold rV at h
      rw [show ((t : Int)).toNat = t from by omega, show (-(t : Int)).toNat = 0 from by omega, show ((t : Int) + 0).toNat = t from by omega, show (-((t : Int) + 0)).toNat = 0 from by omega, Nat.pow_zero, Nat.mul_one, Nat.mul_one, rU_floor _ _ _ (by omega), rU_floor _ _ _ (by omega)] at h
      exact h
    obtain ⟨t, ht⟩ : ∃ t, b * D < 2 ^ t := ⟨b * D, Nat.lt_two_pow_self⟩
    have h := hfl t
    obtain ⟨f, hf⟩ : ∃ f, f = a * 2 ^ t / b := ⟨_, rfl⟩
    have f1 : f * b ≤ a * 2 ^ t := by rw [hf]; exact Nat.div_mul_le_self _ _
    have f2 : a * 2 ^ t < (f + 1) * b := by rw [hf]; exact Nat.lt_mul_of_div_lt (Nat.lt_succ_self _) (by omega)
    have f3 : f * D ≤ x * 2 ^ t := by rw [hf, h]; exact Nat.div_mul_le_self _ _
    have f4 : x * 2 ^ t < (f + 1) * D := by rw [hf, h]; exact Nat.lt_mul_of_div_lt (Nat.lt_succ_self _) (by omega)
    have g1 := Nat.mul_le_mul_right D f1
    have g2 := Nat.mul_lt_mul_of_pos_right f2 (show 0 < D by omega)
    have g3 := Nat.mul_le_mul_right b f3
    have g4 := Nat.mul_lt_mul_of_pos_right f4 (show 0 < b by omega)
    rw [show f * b * D = f * (b * D) from Nat.mul_assoc _ _ _, show a * 2 ^ t * D = a * D * 2 ^ t from Nat.mul_right_comm _ _ _] at g1
    rw [show (f + 1) * b * D = f * (b * D) + b * D from by rw [Nat.mul_assoc, Nat.add_mul, Nat.one_mul], show a * 2 ^ t * D = a * D * 2 ^ t from Nat.mul_right_comm _ _ _] at g2
    rw [show f * D * b = f * (b * D) from by rw [Nat.mul_assoc, Nat.mul_comm D b], show x * 2 ^ t * b = x * b * 2 ^ t from Nat.mul_right_comm _ _ _] at g3
    rw [show (f + 1) * D * b = f * (b * D) + b * D from by rw [Nat.mul_assoc, Nat.mul_comm D b, Nat.add_mul, Nat.one_mul], show x * 2 ^ t * b = x * b * 2 ^ t from Nat.mul_right_comm _ _ _] at g4
    rcases Nat.lt_trichotomy (a * D) (x * b) with c | c | c
    · exfalso
      have h5 := Nat.mul_le_mul_right (2 ^ t) (show a * D + 1 ≤ x * b from c)
      rw [Nat.add_mul, Nat.one_mul] at h5
      omega
    · exact c
    · exfalso
      have h5 := Nat.mul_le_mul_right (2 ^ t) (show x * b + 1 ≤ a * D from c)
      rw [Nat.add_mul, Nat.one_mul] at h5
      omega

set_option linter.unusedVariables false
def XF (s : Bool) (a b : Nat) (V : Int) (C N : Nat) : Prop := b ≠ 0 ∧ C ≠ 0 ∧ rvI s a * (C : Int) = V * (b : Int) ∧ blen a ≤ N ∧ blen b ≤ N
def XP (base : Nat) (w : World) (s : Bool) (p : Option Addr) (l c : Nat) (q : Option Addr) (k d : Nat) (V : Int) (C N : Nat) : Prop := ∃ a b, Own w base (.slice p l c) (dig a) ∧ Own w base (.slice q k d) (dig b) ∧ XF s a b V C N
theorem XP.kp {base : Nat} {w : World} {s : Bool} {p : Option Addr} {l c : Nat} {q : Option Addr} {k d : Nat} {V : Int} {C N : Nat} {w' : World} (h : XP base w s p l c q k d V C N) (g : Kp w w') : XP base w' s p l c q k d V C N := by
  obtain ⟨a, b, h1, h2, h3⟩ := h
  exact ⟨a, b, h1.kp g, h2.kp g, h3⟩
theorem XP.mono {base : Nat} {w : World} {s : Bool} {p : Option Addr} {l c : Nat} {q : Option Addr} {k d : Nat} {V : Int} {C N : Nat} {base' : Nat} (h : XP base w s p l c q k d V C N) (g : base' ≤ base) : XP base' w s p l c q k d V C N := by
  obtain ⟨a, b, h1, h2, h3⟩ := h
  exact ⟨a, b, h1.mono g, h2.mono g, h3⟩
theorem XP.set {base : Nat} {w : World} {s : Bool} {p : Option Addr} {l c : Nat} {q : Option Addr} {k d : Nat} {V : Int} {C N : Nat} (h : XP base w s p l c q k d V C N) {x : Addr} (hx : x.block < base) (u : Value) : XP base (w.setCell x u) s p l c q k d V C N := by
  obtain ⟨a, b, h1, h2, h3⟩ := h
  exact ⟨a, b, h1.setOther hx u, h2.setOther hx u, h3⟩
theorem XP.as {base : Nat} {w : World} {s : Bool} {p : Option Addr} {l c : Nat} {q : Option Addr} {k d : Nat} {V : Int} {C N : Nat} (h : XP base w s p l c q k d V C N) (V2 : Int) (C2 N2 : Nat) (hc : C2 ≠ 0) (e : V * (C2 : Int) = V2 * (C : Int)) (hN : N ≤ N2) : XP base w s p l c q k d V2 C2 N2 := by
  obtain ⟨a, b, h1, h2, f1, f2, f3, f4, f5⟩ := h
  refine ⟨a, b, h1, h2, f1, hc, ?_, by omega, by omega⟩
  refine Int.eq_of_mul_eq_mul_right (show (C : Int) ≠ 0 by omega) ?_
  have e1 : rvI s a * (C2 : Int) * (C : Int) = rvI s a * (C : Int) * (C2 : Int) := by ac_rfl
  have e2 : V2 * (b : Int) * (C : Int) = V2 * (C : Int) * (b : Int) := by ac_rfl
  rw [e1, f3, e2, ← e]; ac_rfl
theorem RP.xp {base : Nat} {w : World} {s : Bool} {p : Option Addr} {l c : Nat} {q : Option Addr} {k d : Nat} {n : Bool} {m : Nat} (h : RP base w s p l c q k d n m) (K : Nat) (hK : K = 1074) : XP base w s p l c q k d (Iv n m) (2 ^ K) 1500 := by
  obtain ⟨a, b, h1, h2, h3⟩ := h
  obtain ⟨f1, f2, f3, f4, f5⟩ := h3 K hK
  refine ⟨a, b, h1, h2, f1, by have := Nat.two_pow_pos K; omega, ?_, f4, f5⟩
  have e : (a : Int) * ((2 ^ K : Nat) : Int) = ((Fq.vV Ieee.double m : Nat) : Int) * (b : Int) := by rw [← Int.natCast_mul, f2, Int.natCast_mul]
  rw [f3]; unfold rvI
  cases s
  · rw [if_neg (by decide), if_neg (by decide)]; exact e
  · rw [if_pos rfl, if_pos rfl, Int.neg_mul, e, Int.neg_mul]
theorem rvI_mul (s : Bool) (a b : Nat) : rvI s (a * b) = rvI s a * (b : Int) := by
  unfold rvI; cases s
  · rw [if_neg (by decide), if_neg (by decide), Int.natCast_mul]
  · rw [if_pos rfl, if_pos rfl, Int.natCast_mul, Int.neg_mul]
theorem rvI_mul2 (s s' : Bool) (a b : Nat) : rvI (s ^^ s') (a * b) = rvI s a * rvI s' b := by
  unfold rvI; cases s <;> cases s' <;> simp [Int.neg_mul, Int.mul_neg]
theorem frac_x (x D a' b' : Nat) (ng neg : Bool) (hD : D ≠ 0) (hF : FracOf x D 0 a' b') (hn : x ≠ 0 → ng = neg) : rvI ng a' * (D : Int) = rvI neg x * (b' : Int) := by
  have h := frac_ratio x D a' b' hD hF
  by_cases z : x = 0
  · have z' := hF.2.1.2 z
    rw [z, z']; unfold rvI; simp
  · rw [hn z, ← rvI_mul, ← rvI_mul, h]
theorem blen_mulX (u v N1 N2 : Nat) (h1 : blen u ≤ N1) (h2 : blen v ≤ N2) : blen (u * v) ≤ N1 + N2 := by
  rw [blen_le_iff, Nat.pow_add]
  exact Nat.mul_lt_mul'' ((blen_le_iff u N1).1 h1) ((blen_le_iff v N2).1 h2)
theorem xcmp_ (B1 B2 : Nat) (V V' : Int) (C C' N N' : Nat) (hN : N ≤ 200000) (hN' : N' ≤ 200000) (s : Bool) (p : Option Addr) (l c : Nat) (q : Option Addr) (k d : Nat) (s2 : Bool) (p2 : Option Addr) (l2 c2 : Nat) (q2 : Option Addr) (k2 d2 : Nat) (w : World) (h1 : XP B1 w s p l c q k d V C N) (h2 : XP B2 w s2 p2 l2 c2 q2 k2 d2 V' C' N') : Calls Tryz.prog 119 #[.agg #[.bool s, .slice p l c, .slice q k d], .agg #[.bool s2, .slice p2 l2 c2, .slice q2 k2 d2]] w fun e w' => e = .returned (.int .i64 (cmI (V * (C' : Int)) (V' * (C : Int)))) ∧ Kp w w' := by
  obtain ⟨a, b, o1, o2, zb, zc, i1, j1, j2⟩ := h1
  obtain ⟨x, y, o3, o4, zy, zc', i2, j3, j4⟩ := h2
  have h := rcmp6_ s p l c q k d s2 p2 l2 c2 q2 k2 d2 a b x y B1 B2 w o1 o2 o3 o4 zb zy (by omega) (by omega) (by omega) (by omega)
  have e : cmI (rvI s a * (y : Int)) (rvI s2 x * (b : Int)) = cmI (V * (C' : Int)) (V' * (C : Int)) := by
    have pk : (0 : Int) < (C : Int) * (C' : Int) := Int.mul_pos (by omega) (by omega)
    have pb : (0 : Int) < (b : Int) * (y : Int) := Int.mul_pos (by omega) (by omega)
    rw [← cmI_scale _ _ _ pk, ← cmI_scale (V * (C' : Int)) (V' * (C : Int)) _ pb]
    have e1 : rvI s a * (y : Int) * ((C : Int) * (C' : Int)) = rvI s a * (C : Int) * ((y : Int) * (C' : Int)) := by ac_rfl
    have e2 : rvI s2 x * (b : Int) * ((C : Int) * (C' : Int)) = rvI s2 x * (C' : Int) * ((b : Int) * (C : Int)) := by ac_rfl
    rw [e1, e2, i1, i2]
    have e3 : V * (b : Int) * ((y : Int) * (C' : Int)) = V * (C' : Int) * ((b : Int) * (y : Int)) := by ac_rfl
    have e4 : V' * (y : Int) * ((b : Int) * (C : Int)) = V' * (C : Int) * ((b : Int) * (y : Int)) := by ac_rfl
    rw [e3, e4]
  rw [e] at h
  exact h
theorem XF.add (s s' ng : Bool) (a1 a2 b1 b2 a' b' : Nat) (V V' : Int) (C C' N N' M : Nat) (h1 : XF s a1 a2 V C N) (h2 : XF s' b1 b2 V' C' N') (hb : b' ≠ 0) (h : rvI ng a' * ((a2 : Int) * (b2 : Int)) = (rvI s a1 * (b2 : Int) + rvI s' b1 * (a2 : Int)) * (b' : Int)) (m1 : blen a' ≤ M) (m2 : blen b' ≤ M) : XF ng a' b' (V * (C' : Int) + V' * (C : Int)) (C * C') M := by
  obtain ⟨za, zc, i1, -, -⟩ := h1
  obtain ⟨zb, zc', i2, -, -⟩ := h2
  refine ⟨hb, Nat.mul_ne_zero zc zc', ?_, m1, m2⟩
  have pn : (a2 : Int) * (b2 : Int) ≠ 0 := by have : (0 : Int) < (a2 : Int) * (b2 : Int) := Int.mul_pos (by omega) (by omega); omega
  refine Int.eq_of_mul_eq_mul_right pn ?_
  rw [Int.natCast_mul]
  have e1 : rvI ng a' * ((C : Int) * (C' : Int)) * ((a2 : Int) * (b2 : Int)) = rvI ng a' * ((a2 : Int) * (b2 : Int)) * ((C : Int) * (C' : Int)) := by ac_rfl
  rw [e1, h]
  simp only [Int.add_mul]
  have e2 : rvI s a1 * (b2 : Int) * (b' : Int) * ((C : Int) * (C' : Int)) = rvI s a1 * (C : Int) * ((b2 : Int) * (b' : Int) * (C' : Int)) := by ac_rfl
  have e3 : rvI s' b1 * (a2 : Int) * (b' : Int) * ((C : Int) * (C' : Int)) = rvI s' b1 * (C' : Int) * ((a2 : Int) * (b' : Int) * (C : Int)) := by ac_rfl
  rw [e2, e3, i1, i2]
  have e4 : V * (a2 : Int) * ((b2 : Int) * (b' : Int) * (C' : Int)) = V * (C' : Int) * (b' : Int) * ((a2 : Int) * (b2 : Int)) := by ac_rfl
  have e5 : V' * (b2 : Int) * ((a2 : Int) * (b' : Int) * (C : Int)) = V' * (C : Int) * (b' : Int) * ((a2 : Int) * (b2 : Int)) := by ac_rfl
  rw [e4, e5]
theorem XF.mul (s s' ng : Bool) (a1 a2 b1 b2 a' b' : Nat) (V V' : Int) (C C' N N' M : Nat) (h1 : XF s a1 a2 V C N) (h2 : XF s' b1 b2 V' C' N') (hb : b' ≠ 0) (h : rvI ng a' * ((a2 : Int) * (b2 : Int)) = rvI s a1 * rvI s' b1 * (b' : Int)) (m1 : blen a' ≤ M) (m2 : blen b' ≤ M) : XF ng a' b' (V * V') (C * C') M := by
  obtain ⟨za, zc, i1, -, -⟩ := h1
  obtain ⟨zb, zc', i2, -, -⟩ := h2
  refine ⟨hb, Nat.mul_ne_zero zc zc', ?_, m1, m2⟩
  have pn : (a2 : Int) * (b2 : Int) ≠ 0 := by have : (0 : Int) < (a2 : Int) * (b2 : Int) := Int.mul_pos (by omega) (by omega); omega
  refine Int.eq_of_mul_eq_mul_right pn ?_
  rw [Int.natCast_mul]
  have e1 : rvI ng a' * ((C : Int) * (C' : Int)) * ((a2 : Int) * (b2 : Int)) = rvI ng a' * ((a2 : Int) * (b2 : Int)) * ((C : Int) * (C' : Int)) := by ac_rfl
  have e2 : rvI s a1 * rvI s' b1 * (b' : Int) * ((C : Int) * (C' : Int)) = rvI s a1 * (C : Int) * (rvI s' b1 * (C' : Int)) * (b' : Int) := by ac_rfl
  rw [e1, h, e2, i1, i2]; ac_rfl
theorem XP.setNe {base : Nat} {w : World} {s : Bool} {p : Option Addr} {l c : Nat} {q : Option Addr} {k d : Nat} {V : Int} {C N : Nat} (h : XP base w s p l c q k d V C N) {x : Addr} (hx : NB p q x.block) (u : Value) : XP base (w.setCell x u) s p l c q k d V C N := by
  obtain ⟨a, b, h1, h2, h3⟩ := h
  exact ⟨a, b, h1.setNe hx.1 u, h2.setNe hx.2 u, h3⟩
end Go.Proofs.YtinohggonicjhaaGreatDoor
