import Derived.Test.YtlnllkjbefekdaaGreatDoorProg
import Derived.Test.YtlnllkjbefekdaaGreatDoorKXA0
import Derived.Test.YtlnllkjbefekdaaGreatDoorKXM
import Derived.Test.YtlnllkjbefekdaaGreatDoorKXY
import Derived.Test.YtlnllkjbefekdaaGreatDoorKXQF
import Derived.Test.YtlnllkjbefekdaaGreatDoorKQA
import Derived.Test.YtlnllkjbefekdaaGreatDoorKQP
import Derived.Test.YtlnllkjbefekdaaGreatDoorKXQU
import Derived.Test.YtlnllkjbefekdaaGreatDoorKQB
import Derived.Test.YtlnllkjbefekdaaGreatDoorKQBT
import Derived.Test.YtlnllkjbefekdaaGreatDoorKXQJ
import Derived.Test.YtlnllkjbefekdaaGreatDoorKXLB
import Derived.Test.YtlnllkjbefekdaaGreatDoorKXMR
import Derived.Test.YtlnllkjbefekdaaGreatDoorKXG1
import Derived.Test.YtlnllkjbefekdaaGreatDoorKXH2Q
import Derived.Test.YtlnllkjbefekdaaGreatDoorKXNM
import Derived.Test.YtlnllkjbefekdaaGreatDoorKXMQ
import Derived.Test.YtlnllkjbefekdaaGreatDoorKXMS
import Derived.Test.YtlnllkjbefekdaaGreatDoorKXO3
import Derived.Test.YtlnllkjbefekdaaGreatDoorKXO
import Derived.Test.YtlnllkjbefekdaaGreatDoorKXP
import Derived.Test.YtlnllkjbefekdaaGreatDoorKXS2
import Derived.Test.YtlnllkjbefekdaaGreatDoorKXS4
import Derived.Test.YtlnllkjbefekdaaGreatDoorKXS8
import Derived.Test.YtlnllkjbefekdaaGreatDoorKXU1
import Derived.Test.YtlnllkjbefekdaaGreatDoorKXU3
import Derived.Test.YtlnllkjbefekdaaGreatDoorKU5
import Derived.Test.YtlnllkjbefekdaaGreatDoorKXYC
import Derived.Test.YtlnllkjbefekdaaGreatDoorKXZA
import Derived.Test.YtlnllkjbefekdaaGreatDoorKXZD
import Derived.Test.YtlnllkjbefekdaaGreatDoorKXTZ
import Derived.Test.YtlnllkjbefekdaaGreatDoorKXGR
import Derived.WalkKit
import Derived.ProofKit
import Derived.RowKit3
import Derived.WalkSpells
import Derived.StillTactics
import Derived.Deep.QuietTactic
import Derived.BigQuiet
import Derived.Below
import Derived.Deep.OwnRows
import Derived.OwnWalk
import Derived.Laws.BitsAllLaws
import Derived.Laws.Slices
import Derived.Laws.Bits64b
import Derived.Laws.FloatArith
import Derived.Deep.RegionHeld3
namespace Go.Proofs.YtlnllkjbefekdaaGreatDoor
open Go.RowKit

def H3c (w : World) (b : Nat) (v0 v1 v2 : Value) : Prop := w.cell? ⟨b, 0, none⟩ = some v0 ∧ w.cell? ⟨b, 1, none⟩ = some v1 ∧ w.cell? ⟨b, 2, none⟩ = some v2 ∧ w.frozen? ⟨b, 0, none⟩ = false ∧ w.frozen? ⟨b, 1, none⟩ = false ∧ w.frozen? ⟨b, 2, none⟩ = false
theorem H3c.keep {W w : World} {b : Nat} {v0 v1 v2 : Value} (h : H3c W b v0 v1 v2) (g : Kp W w) : H3c w b v0 v1 v2 := by
  obtain ⟨h0, h1, h2, h3, h4, h5⟩ := h
  exact ⟨kkeep g h0, kkeep g h1, kkeep g h2, (kfro g (cell_lt h0)).trans h3, (kfro g (cell_lt h0)).trans h4, (kfro g (cell_lt h0)).trans h5⟩
theorem H3c.new (w : World) (v0 v1 v2 : Value) (t : TypeId) : H3c (w.alloc (.cells #[v0, v1, v2] t)) w.heap.size v0 v1 v2 := by
  unfold H3c; simp [go_sem]
theorem H3c.lt {w : World} {b : Nat} {v0 v1 v2 : Value} (h : H3c w b v0 v1 v2) : b < w.heap.size := cell_lt h.1
set_option maxRecDepth 20000 in
set_option maxHeartbeats 1000000 in
theorem H3c.put {w : World} {b : Nat} {v0 v1 v2 : Value} (h : H3c w b v0 v1 v2) (u0 u1 u2 : Value) : H3c ((((w.setCell ⟨b, 0, none⟩ u0).setCell ⟨b, 1, none⟩ u1).setCell ⟨b, 2, none⟩ u2)) b u0 u1 u2 := by
  obtain ⟨h0, h1, h2, h3, h4, h5⟩ := h
  unfold H3c; simp [go_sem, h0, h1, h2, h3, h4, h5]
theorem H3c.far1 {w : World} {b : Nat} {v0 v1 v2 : Value} (h : H3c w b v0 v1 v2) (x : Addr) (hne : x.block ≠ b) (u : Value) : H3c (w.setCell x u) b v0 v1 v2 := by
  obtain ⟨h0, h1, h2, h3, h4, h5⟩ := h
  exact ⟨(World.cell?_setCell_far _ _ _ _ hne).trans h0, (World.cell?_setCell_far _ _ _ _ hne).trans h1, (World.cell?_setCell_far _ _ _ _ hne).trans h2, (World.frozen?_setCell _ _ _ _).trans h3, (World.frozen?_setCell _ _ _ _).trans h4, (World.frozen?_setCell _ _ _ _).trans h5⟩

set_option linter.unusedVariables false
set_option linter.unusedSimpArgs false
theorem H3c.p0 {w : World} {b : Nat} {v0 v1 v2 : Value} (h : H3c w b v0 v1 v2) (u : Value) : H3c (w.setCell ⟨b, 0, none⟩ u) b u v1 v2 := by
  obtain ⟨h0, h1, h2, h3, h4, h5⟩ := h
  unfold H3c; simp [go_sem, h0, h1, h2, h3, h4, h5]
theorem H3c.p1 {w : World} {b : Nat} {v0 v1 v2 : Value} (h : H3c w b v0 v1 v2) (u : Value) : H3c (w.setCell ⟨b, 1, none⟩ u) b v0 u v2 := by
  obtain ⟨h0, h1, h2, h3, h4, h5⟩ := h
  unfold H3c; simp [go_sem, h0, h1, h2, h3, h4, h5]
theorem H3c.p2 {w : World} {b : Nat} {v0 v1 v2 : Value} (h : H3c w b v0 v1 v2) (u : Value) : H3c (w.setCell ⟨b, 2, none⟩ u) b v0 v1 u := by
  obtain ⟨h0, h1, h2, h3, h4, h5⟩ := h
  unfold H3c; simp [go_sem, h0, h1, h2, h3, h4, h5]
set_option maxRecDepth 20000 in
set_option maxHeartbeats 4000000 in
theorem rises10_ (d A0 A1 A2 B0 B1 B2 E : Int) (F0 F1 F2 : Bool) (xP xQ xC xE r1 r2 z1 z2 z3 z4 z5 z6 z7 z8 z9 z10 : Nat) (Z1 Z2 Z3 Z4 Z5 Z6 Z7 Z8 Z9 Z10 : Int) (w : World) (PF : Int → Nat → Prop) (PO : Nat → Nat → Nat → Nat → Prop) (PM : Nat → Nat → Nat → Nat → Prop) (PN : Nat → Nat → Prop) (PB : Nat → Int → Prop) (PL : Int → Int → Prop) (PI : Int → Bool → Prop) (fl9 : ∀ X Y, PF X Y → ∀ W : World, Calls Tryz.prog 8 #[.int .u64 X] W fun e w' => e = .returned (.float .f64 Y) ∧ w' = W) (op9 : ∀ g x y z, PO g x y z → ∀ W : World, Kp w W → Calls Tryz.prog g #[.int .i64 d, .float .f64 x, .float .f64 y] W fun e w' => e = .returned (.float .f64 z) ∧ Kp W w') (fm9 : ∀ x y z r, PM x y z r → ∀ W : World, Kp w W → Calls Tryz.prog 11 #[.int .i64 d, .float .f64 x, .float .f64 y, .float .f64 z] W fun e w' => e = .returned (.float .f64 r) ∧ Kp W w') (na9 : ∀ x r, PN x r → ∀ W : World, Kp w W → Calls Tryz.prog 13 #[.int .i64 d, .float .f64 x] W fun e w' => e = .returned (.float .f32 r) ∧ Kp W w') (bt9 : ∀ X Y, PB X Y → ∀ W : World, Calls Tryz.prog 6 #[.float .f64 X] W fun e w' => e = .returned (.int .u64 Y) ∧ w' = W) (be9 : ∀ X Y, PL X Y → ∀ W : World, Calls Tryz.prog 5 #[.int .u64 X, .int .u64 Y] W fun e w' => e = .returned (.bool true) ∧ w' = W) (fi9 : ∀ X B, PI X B → ∀ W : World, Calls Tryz.prog 4 #[.int .u64 X] W fun e w' => e = .returned (.bool B) ∧ w' = W) (li9 : ∀ W : World, Kp w W → Calls Tryz.prog 14 #[] W fun e w' => e = .returned (.bool true) ∧ Kp W w') (c0 : (F0 = true ∧ A0 = B0) ∨ (F0 = false ∧ bits .andNot .u64 A0 9218868437227405312 = B0)) (c1 : (F1 = true ∧ A1 = B1) ∨ (F1 = false ∧ bits .andNot .u64 A1 9218868437227405312 = B1)) (c2 : (F2 = true ∧ A2 = B2) ∨ (F2 = false ∧ bits .andNot .u64 A2 9218868437227405312 = B2)) (pP : PF B0 xP) (pQ : PF B1 xQ) (pC : PF B2 xC) (pE : PF E xE) (o1 : PO 7 xP xC z1) (o2 : PO 7 xQ xC z2) (o3 : PO 9 xP xC z3) (o4 : PO 9 xQ xC z4) (o5 : PO 10 xP xE z5) (o6 : PO 10 xQ xE z6) (o9 : PO 12 xP xE z9) (o10 : PO 12 xQ xE z10) (o7 : PM xP xE xC z7) (o8 : PM xQ xE xC z8) (n1 : PN xP r1) (n2 : PN xQ r2) (b1 : PB z1 Z1) (b2 : PB z2 Z2) (b3 : PB z3 Z3) (b4 : PB z4 Z4) (b5 : PB z5 Z5) (b6 : PB z6 Z6) (b7 : PB z7 Z7) (b8 : PB z8 Z8) (b9 : PB z9 Z9) (b10 : PB z10 Z10) (l1 : PL Z1 Z2) (l3 : PL Z3 Z4) (l5 : PL Z5 Z6) (l7 : PL Z7 Z8) (l9 : PL Z9 Z10) (i0 : PI A0 F0) (i1 : PI A1 F1) (i2 : PI A2 F2) (tn : (FloatKind.f32.format.order r1 r2 == some Ordering.gt) = false) (be1 : ∀ W : World, Calls Tryz.prog 5 #[.int .u64 B0, .int .u64 B1] W fun e w' => e = .returned (.bool true) ∧ w' = W) (e1 : bits .andNot .u64 B2 9223372036854775808 = E) (tz : (E != 0) = true) : Calls Tryz.prog 3 #[.int .i64 d, .agg #[.int .u64 A0, .int .u64 A1, .int .u64 A2]] w fun e w' => e = .returned (.bool true) ∧ Kp w w' := by
  obtain ⟨B9, hB9⟩ : ∃ B9, B9 = w.heap.size := ⟨_, rfl⟩
  have hB : w.heap.size ≤ B9 := Nat.le_of_eq hB9.symm
  go_enter Tryz.func3, Tryz.ntmps3
  go_upto_region 2 with fail
  have ss := H3c.new w (.int .u64 A0) (.int .u64 A1) (.int .u64 A2) 23
  have kW : Kp w (w.alloc (.cells #[.int .u64 A0, .int .u64 A1, .int .u64 A2] 23)) := (Kp.refl w).alloc _
  rw [← hB9] at ss
  rw [← hB9]
  generalize w.alloc (.cells #[.int .u64 A0, .int .u64 A1, .int .u64 A2] 23) = W0 at ss kW ⊢
  clear hB9
  go_loopw [5] (fun s5 wr => ((s5 = .int .i64 0 ∧ H3c wr B9 (.int .u64 A0) (.int .u64 A1) (.int .u64 A2)) ∨ (s5 = .int .i64 1 ∧ H3c wr B9 (.int .u64 B0) (.int .u64 A1) (.int .u64 A2)) ∨ (s5 = .int .i64 2 ∧ H3c wr B9 (.int .u64 B0) (.int .u64 B1) (.int .u64 A2)) ∨ (s5 = .int .i64 3 ∧ H3c wr B9 (.int .u64 B0) (.int .u64 B1) (.int .u64 B2))) ∧ Kp w wr) (fun s5 _ => 3 - (intOf s5).toNat)
  case atStart => exact ⟨Or.inl ⟨rfl, ss⟩, kW⟩
  case round =>
    obtain ⟨hk, kW⟩ := hrel
    rcases hk with hk | hk | hk | hk
    · obtain ⟨rfl, hs⟩ := hk
      obtain ⟨h0, h1, h2, h3, h4, h5⟩ := id hs
      rcases c0 with ⟨rfl, rfl⟩ | ⟨rfl, ce⟩
      · go_wp2_with (first | (go_at_call 4; refine (fi9 _ _ (by with_reducible first | exact i0 | exact i1 | exact i2) _).mono ?_; rintro e wn ⟨rfl, hw9⟩; obtain rfl := hw9.symm; clear hw9))
        refine ⟨⟨Or.inr (Or.inl ⟨by go_num, hs⟩), kW⟩, by simp [intOf]⟩
      · go_wp2_with (first | (go_at_call 4; refine (fi9 _ _ (by with_reducible first | exact i0 | exact i1 | exact i2) _).mono ?_; rintro e wn ⟨rfl, hw9⟩; obtain rfl := hw9.symm; clear hw9))
        refine ⟨⟨Or.inr (Or.inl ⟨by go_num, H3c.p0 hs _⟩), kW.setCell hB _⟩, by simp [intOf]⟩
    · obtain ⟨rfl, hs⟩ := hk
      obtain ⟨h0, h1, h2, h3, h4, h5⟩ := id hs
      rcases c1 with ⟨rfl, rfl⟩ | ⟨rfl, ce⟩
      · go_wp2_with (first | (go_at_call 4; refine (fi9 _ _ (by with_reducible first | exact i0 | exact i1 | exact i2) _).mono ?_; rintro e wn ⟨rfl, hw9⟩; obtain rfl := hw9.symm; clear hw9))
        refine ⟨⟨Or.inr (Or.inr (Or.inl ⟨by go_num, hs⟩)), kW⟩, by simp [intOf]⟩
      · go_wp2_with (first | (go_at_call 4; refine (fi9 _ _ (by with_reducible first | exact i0 | exact i1 | exact i2) _).mono ?_; rintro e wn ⟨rfl, hw9⟩; obtain rfl := hw9.symm; clear hw9))
        refine ⟨⟨Or.inr (Or.inr (Or.inl ⟨by go_num, H3c.p1 hs _⟩)), kW.setCell hB _⟩, by simp [intOf]⟩
    · obtain ⟨rfl, hs⟩ := hk
      obtain ⟨h0, h1, h2, h3, h4, h5⟩ := id hs
      rcases c2 with ⟨rfl, rfl⟩ | ⟨rfl, ce⟩
      · go_wp2_with (first | (go_at_call 4; refine (fi9 _ _ (by with_reducible first | exact i0 | exact i1 | exact i2) _).mono ?_; rintro e wn ⟨rfl, hw9⟩; obtain rfl := hw9.symm; clear hw9))
        refine ⟨⟨Or.inr (Or.inr (Or.inr (⟨by go_num, hs⟩))), kW⟩, by simp [intOf]⟩
      · go_wp2_with (first | (go_at_call 4; refine (fi9 _ _ (by with_reducible first | exact i0 | exact i1 | exact i2) _).mono ?_; rintro e wn ⟨rfl, hw9⟩; obtain rfl := hw9.symm; clear hw9))
        refine ⟨⟨Or.inr (Or.inr (Or.inr (⟨by go_num, H3c.p2 hs _⟩))), kW.setCell hB _⟩, by simp [intOf]⟩
    · obtain ⟨rfl, hs⟩ := hk
      obtain ⟨h0, h1, h2, h3, h4, h5⟩ := id hs
      clear c0 c1 c2
      go_upto_region 13 with (first | (go_at_call 5; refine (be1 _).mono ?_; rintro e wn ⟨rfl, hw9⟩; obtain rfl := hw9.symm; clear hw9))
      go_wp2_with (first | (go_at_call 8; refine (fl9 _ _ (by with_reducible first | exact pP | exact pQ | exact pC | exact pE) _).mono ?_; rintro e wn ⟨rfl, hw9⟩; obtain rfl := hw9.symm; clear hw9) | (go_at_call 7; refine (op9 7 _ _ _ (by with_reducible first | exact o1 | exact o2) _ kW).mono ?_; rintro e wn ⟨rfl, gn⟩; replace kW := Kp.trans kW gn; clear gn) | (go_at_call 9; refine (op9 9 _ _ _ (by with_reducible first | exact o3 | exact o4) _ kW).mono ?_; rintro e wn ⟨rfl, gn⟩; replace kW := Kp.trans kW gn; clear gn) | (go_at_call 10; refine (op9 10 _ _ _ (by with_reducible first | exact o5 | exact o6) _ kW).mono ?_; rintro e wn ⟨rfl, gn⟩; replace kW := Kp.trans kW gn; clear gn) | (go_at_call 12; refine (op9 12 _ _ _ (by with_reducible first | exact o9 | exact o10) _ kW).mono ?_; rintro e wn ⟨rfl, gn⟩; replace kW := Kp.trans kW gn; clear gn) | (go_at_call 11; refine (fm9 _ _ _ _ (by with_reducible first | exact o7 | exact o8) _ kW).mono ?_; rintro e wn ⟨rfl, gn⟩; replace kW := Kp.trans kW gn; clear gn) | (go_at_call 13; refine (na9 _ _ (by with_reducible first | exact n1 | exact n2) _ kW).mono ?_; rintro e wn ⟨rfl, gn⟩; replace kW := Kp.trans kW gn; clear gn) | (go_at_call 6; refine (bt9 _ _ (by with_reducible first | exact b1 | exact b2 | exact b3 | exact b4 | exact b5 | exact b6 | exact b7 | exact b8 | exact b9 | exact b10) _).mono ?_; rintro e wn ⟨rfl, hw9⟩; obtain rfl := hw9.symm; clear hw9) | (go_at_call 5; refine (be9 _ _ (by with_reducible first | exact l1 | exact l3 | exact l5 | exact l7 | exact l9) _).mono ?_; rintro e wn ⟨rfl, hw9⟩; obtain rfl := hw9.symm; clear hw9) | (go_at_call 14; refine (li9 _ kW).mono ?_; rintro e wn ⟨rfl, gn⟩; replace kW := Kp.trans kW gn; clear gn))
      exact bodyPost_ret (v := .bool true) (by simp [results, Tryz.results3, go_sem]) rfl ⟨rfl, kW⟩
set_option maxRecDepth 20000 in
set_option maxHeartbeats 4000000 in
theorem rises11_ (d A0 A1 A2 B0 B1 B2 E : Int) (F0 F1 F2 : Bool) (xP xQ xC xE r1 r2 z1 z2 z3 z4 z5 z6 z7 z8 z9 z10 : Nat) (Z1 Z2 Z3 Z4 Z5 Z6 Z7 Z8 Z9 Z10 : Int) (w : World) (PF : Int → Nat → Prop) (PO : Nat → Nat → Nat → Nat → Prop) (PM : Nat → Nat → Nat → Nat → Prop) (PN : Nat → Nat → Prop) (PB : Nat → Int → Prop) (PL : Int → Int → Prop) (PI : Int → Bool → Prop) (fl9 : ∀ X Y, PF X Y → ∀ W : World, Calls Tryz.prog 8 #[.int .u64 X] W fun e w' => e = .returned (.float .f64 Y) ∧ w' = W) (op9 : ∀ g x y z, PO g x y z → ∀ W : World, Kp w W → Calls Tryz.prog g #[.int .i64 d, .float .f64 x, .float .f64 y] W fun e w' => e = .returned (.float .f64 z) ∧ Kp W w') (fm9 : ∀ x y z r, PM x y z r → ∀ W : World, Kp w W → Calls Tryz.prog 11 #[.int .i64 d, .float .f64 x, .float .f64 y, .float .f64 z] W fun e w' => e = .returned (.float .f64 r) ∧ Kp W w') (na9 : ∀ x r, PN x r → ∀ W : World, Kp w W → Calls Tryz.prog 13 #[.int .i64 d, .float .f64 x] W fun e w' => e = .returned (.float .f32 r) ∧ Kp W w') (bt9 : ∀ X Y, PB X Y → ∀ W : World, Calls Tryz.prog 6 #[.float .f64 X] W fun e w' => e = .returned (.int .u64 Y) ∧ w' = W) (be9 : ∀ X Y, PL X Y → ∀ W : World, Calls Tryz.prog 5 #[.int .u64 X, .int .u64 Y] W fun e w' => e = .returned (.bool true) ∧ w' = W) (fi9 : ∀ X B, PI X B → ∀ W : World, Calls Tryz.prog 4 #[.int .u64 X] W fun e w' => e = .returned (.bool B) ∧ w' = W) (li9 : ∀ W : World, Kp w W → Calls Tryz.prog 14 #[] W fun e w' => e = .returned (.bool true) ∧ Kp W w') (c0 : (F0 = true ∧ A0 = B0) ∨ (F0 = false ∧ bits .andNot .u64 A0 9218868437227405312 = B0)) (c1 : (F1 = true ∧ A1 = B1) ∨ (F1 = false ∧ bits .andNot .u64 A1 9218868437227405312 = B1)) (c2 : (F2 = true ∧ A2 = B2) ∨ (F2 = false ∧ bits .andNot .u64 A2 9218868437227405312 = B2)) (pP : PF B0 xP) (pQ : PF B1 xQ) (pC : PF B2 xC) (pE : PF E xE) (o1 : PO 7 xP xC z1) (o2 : PO 7 xQ xC z2) (o3 : PO 9 xP xC z3) (o4 : PO 9 xQ xC z4) (o5 : PO 10 xP xE z5) (o6 : PO 10 xQ xE z6) (o7 : PM xP xE xC z7) (o8 : PM xQ xE xC z8) (n1 : PN xP r1) (n2 : PN xQ r2) (b1 : PB z1 Z1) (b2 : PB z2 Z2) (b3 : PB z3 Z3) (b4 : PB z4 Z4) (b5 : PB z5 Z5) (b6 : PB z6 Z6) (b7 : PB z7 Z7) (b8 : PB z8 Z8) (l1 : PL Z1 Z2) (l3 : PL Z3 Z4) (l5 : PL Z5 Z6) (l7 : PL Z7 Z8) (i0 : PI A0 F0) (i1 : PI A1 F1) (i2 : PI A2 F2) (tn : (FloatKind.f32.format.order r1 r2 == some Ordering.gt) = false) (be1 : ∀ W : World, Calls Tryz.prog 5 #[.int .u64 B0, .int .u64 B1] W fun e w' => e = .returned (.bool true) ∧ w' = W) (e1 : bits .andNot .u64 B2 9223372036854775808 = E) (tz : (E != 0) = false) : Calls Tryz.prog 3 #[.int .i64 d, .agg #[.int .u64 A0, .int .u64 A1, .int .u64 A2]] w fun e w' => e = .returned (.bool true) ∧ Kp w w' := by
  obtain ⟨B9, hB9⟩ : ∃ B9, B9 = w.heap.size := ⟨_, rfl⟩
  have hB : w.heap.size ≤ B9 := Nat.le_of_eq hB9.symm
  go_enter Tryz.func3, Tryz.ntmps3
  go_upto_region 2 with fail
  have ss := H3c.new w (.int .u64 A0) (.int .u64 A1) (.int .u64 A2) 23
  have kW : Kp w (w.alloc (.cells #[.int .u64 A0, .int .u64 A1, .int .u64 A2] 23)) := (Kp.refl w).alloc _
  rw [← hB9] at ss
  rw [← hB9]
  generalize w.alloc (.cells #[.int .u64 A0, .int .u64 A1, .int .u64 A2] 23) = W0 at ss kW ⊢
  clear hB9
  go_loopw [5] (fun s5 wr => ((s5 = .int .i64 0 ∧ H3c wr B9 (.int .u64 A0) (.int .u64 A1) (.int .u64 A2)) ∨ (s5 = .int .i64 1 ∧ H3c wr B9 (.int .u64 B0) (.int .u64 A1) (.int .u64 A2)) ∨ (s5 = .int .i64 2 ∧ H3c wr B9 (.int .u64 B0) (.int .u64 B1) (.int .u64 A2)) ∨ (s5 = .int .i64 3 ∧ H3c wr B9 (.int .u64 B0) (.int .u64 B1) (.int .u64 B2))) ∧ Kp w wr) (fun s5 _ => 3 - (intOf s5).toNat)
  case atStart => exact ⟨Or.inl ⟨rfl, ss⟩, kW⟩
  case round =>
    obtain ⟨hk, kW⟩ := hrel
    rcases hk with hk | hk | hk | hk
    · obtain ⟨rfl, hs⟩ := hk
      obtain ⟨h0, h1, h2, h3, h4, h5⟩ := id hs
      rcases c0 with ⟨rfl, rfl⟩ | ⟨rfl, ce⟩
      · go_wp2_with (first | (go_at_call 4; refine (fi9 _ _ (by with_reducible first | exact i0 | exact i1 | exact i2) _).mono ?_; rintro e wn ⟨rfl, hw9⟩; obtain rfl := hw9.symm; clear hw9))
        refine ⟨⟨Or.inr (Or.inl ⟨by go_num, hs⟩), kW⟩, by simp [intOf]⟩
      · go_wp2_with (first | (go_at_call 4; refine (fi9 _ _ (by with_reducible first | exact i0 | exact i1 | exact i2) _).mono ?_; rintro e wn ⟨rfl, hw9⟩; obtain rfl := hw9.symm; clear hw9))
        refine ⟨⟨Or.inr (Or.inl ⟨by go_num, H3c.p0 hs _⟩), kW.setCell hB _⟩, by simp [intOf]⟩
    · obtain ⟨rfl, hs⟩ := hk
      obtain ⟨h0, h1, h2, h3, h4, h5⟩ := id hs
      rcases c1 with ⟨rfl, rfl⟩ | ⟨rfl, ce⟩
      · go_wp2_with (first | (go_at_call 4; refine (fi9 _ _ (by with_reducible first | exact i0 | exact i1 | exact i2) _).mono ?_; rintro e wn ⟨rfl, hw9⟩; obtain rfl := hw9.symm; clear hw9))
        refine ⟨⟨Or.inr (Or.inr (Or.inl ⟨by go_num, hs⟩)), kW⟩, by simp [intOf]⟩
      · go_wp2_with (first | (go_at_call 4; refine (fi9 _ _ (by with_reducible first | exact i0 | exact i1 | exact i2) _).mono ?_; rintro e wn ⟨rfl, hw9⟩; obtain rfl := hw9.symm; clear hw9))
        refine ⟨⟨Or.inr (Or.inr (Or.inl ⟨by go_num, H3c.p1 hs _⟩)), kW.setCell hB _⟩, by simp [intOf]⟩
    · obtain ⟨rfl, hs⟩ := hk
      obtain ⟨h0, h1, h2, h3, h4, h5⟩ := id hs
      rcases c2 with ⟨rfl, rfl⟩ | ⟨rfl, ce⟩
      · go_wp2_with (first | (go_at_call 4; refine (fi9 _ _ (by with_reducible first | exact i0 | exact i1 | exact i2) _).mono ?_; rintro e wn ⟨rfl, hw9⟩; obtain rfl := hw9.symm; clear hw9))
        refine ⟨⟨Or.inr (Or.inr (Or.inr (⟨by go_num, hs⟩))), kW⟩, by simp [intOf]⟩
      · go_wp2_with (first | (go_at_call 4; refine (fi9 _ _ (by with_reducible first | exact i0 | exact i1 | exact i2) _).mono ?_; rintro e wn ⟨rfl, hw9⟩; obtain rfl := hw9.symm; clear hw9))
        refine ⟨⟨Or.inr (Or.inr (Or.inr (⟨by go_num, H3c.p2 hs _⟩))), kW.setCell hB _⟩, by simp [intOf]⟩
    · obtain ⟨rfl, hs⟩ := hk
      obtain ⟨h0, h1, h2, h3, h4, h5⟩ := id hs
      clear c0 c1 c2
      go_upto_region 13 with (first | (go_at_call 5; refine (be1 _).mono ?_; rintro e wn ⟨rfl, hw9⟩; obtain rfl := hw9.symm; clear hw9))
      go_wp2_with (first | (go_at_call 8; refine (fl9 _ _ (by with_reducible first | exact pP | exact pQ | exact pC | exact pE) _).mono ?_; rintro e wn ⟨rfl, hw9⟩; obtain rfl := hw9.symm; clear hw9) | (go_at_call 7; refine (op9 7 _ _ _ (by with_reducible first | exact o1 | exact o2) _ kW).mono ?_; rintro e wn ⟨rfl, gn⟩; replace kW := Kp.trans kW gn; clear gn) | (go_at_call 9; refine (op9 9 _ _ _ (by with_reducible first | exact o3 | exact o4) _ kW).mono ?_; rintro e wn ⟨rfl, gn⟩; replace kW := Kp.trans kW gn; clear gn) | (go_at_call 10; refine (op9 10 _ _ _ (by with_reducible first | exact o5 | exact o6) _ kW).mono ?_; rintro e wn ⟨rfl, gn⟩; replace kW := Kp.trans kW gn; clear gn) | (go_at_call 11; refine (fm9 _ _ _ _ (by with_reducible first | exact o7 | exact o8) _ kW).mono ?_; rintro e wn ⟨rfl, gn⟩; replace kW := Kp.trans kW gn; clear gn) | (go_at_call 13; refine (na9 _ _ (by with_reducible first | exact n1 | exact n2) _ kW).mono ?_; rintro e wn ⟨rfl, gn⟩; replace kW := Kp.trans kW gn; clear gn) | (go_at_call 6; refine (bt9 _ _ (by with_reducible first | exact b1 | exact b2 | exact b3 | exact b4 | exact b5 | exact b6 | exact b7 | exact b8) _).mono ?_; rintro e wn ⟨rfl, hw9⟩; obtain rfl := hw9.symm; clear hw9) | (go_at_call 5; refine (be9 _ _ (by with_reducible first | exact l1 | exact l3 | exact l5 | exact l7) _).mono ?_; rintro e wn ⟨rfl, hw9⟩; obtain rfl := hw9.symm; clear hw9) | (go_at_call 14; refine (li9 _ kW).mono ?_; rintro e wn ⟨rfl, gn⟩; replace kW := Kp.trans kW gn; clear gn))
      exact bodyPost_ret (v := .bool true) (by simp [results, Tryz.results3, go_sem]) rfl ⟨rfl, kW⟩
set_option maxRecDepth 20000 in
set_option maxHeartbeats 4000000 in
theorem rises00_ (d A0 A1 A2 B0 B1 B2 E : Int) (F0 F1 F2 : Bool) (xP xQ xC xE r1 r2 z1 z2 z3 z4 z5 z6 z7 z8 z9 z10 : Nat) (Z1 Z2 Z3 Z4 Z5 Z6 Z7 Z8 Z9 Z10 : Int) (w : World) (PF : Int → Nat → Prop) (PO : Nat → Nat → Nat → Nat → Prop) (PM : Nat → Nat → Nat → Nat → Prop) (PN : Nat → Nat → Prop) (PB : Nat → Int → Prop) (PL : Int → Int → Prop) (PI : Int → Bool → Prop) (fl9 : ∀ X Y, PF X Y → ∀ W : World, Calls Tryz.prog 8 #[.int .u64 X] W fun e w' => e = .returned (.float .f64 Y) ∧ w' = W) (op9 : ∀ g x y z, PO g x y z → ∀ W : World, Kp w W → Calls Tryz.prog g #[.int .i64 d, .float .f64 x, .float .f64 y] W fun e w' => e = .returned (.float .f64 z) ∧ Kp W w') (fm9 : ∀ x y z r, PM x y z r → ∀ W : World, Kp w W → Calls Tryz.prog 11 #[.int .i64 d, .float .f64 x, .float .f64 y, .float .f64 z] W fun e w' => e = .returned (.float .f64 r) ∧ Kp W w') (na9 : ∀ x r, PN x r → ∀ W : World, Kp w W → Calls Tryz.prog 13 #[.int .i64 d, .float .f64 x] W fun e w' => e = .returned (.float .f32 r) ∧ Kp W w') (bt9 : ∀ X Y, PB X Y → ∀ W : World, Calls Tryz.prog 6 #[.float .f64 X] W fun e w' => e = .returned (.int .u64 Y) ∧ w' = W) (be9 : ∀ X Y, PL X Y → ∀ W : World, Calls Tryz.prog 5 #[.int .u64 X, .int .u64 Y] W fun e w' => e = .returned (.bool true) ∧ w' = W) (fi9 : ∀ X B, PI X B → ∀ W : World, Calls Tryz.prog 4 #[.int .u64 X] W fun e w' => e = .returned (.bool B) ∧ w' = W) (li9 : ∀ W : World, Kp w W → Calls Tryz.prog 14 #[] W fun e w' => e = .returned (.bool true) ∧ Kp W w') (c0 : (F0 = true ∧ A0 = B0) ∨ (F0 = false ∧ bits .andNot .u64 A0 9218868437227405312 = B0)) (c1 : (F1 = true ∧ A1 = B1) ∨ (F1 = false ∧ bits .andNot .u64 A1 9218868437227405312 = B1)) (c2 : (F2 = true ∧ A2 = B2) ∨ (F2 = false ∧ bits .andNot .u64 A2 9218868437227405312 = B2)) (pP : PF B1 xP) (pQ : PF B0 xQ) (pC : PF B2 xC) (pE : PF E xE) (o1 : PO 7 xP xC z1) (o2 : PO 7 xQ xC z2) (o3 : PO 9 xP xC z3) (o4 : PO 9 xQ xC z4) (o5 : PO 10 xP xE z5) (o6 : PO 10 xQ xE z6) (o9 : PO 12 xP xE z9) (o10 : PO 12 xQ xE z10) (o7 : PM xP xE xC z7) (o8 : PM xQ xE xC z8) (n1 : PN xP r1) (n2 : PN xQ r2) (b1 : PB z1 Z1) (b2 : PB z2 Z2) (b3 : PB z3 Z3) (b4 : PB z4 Z4) (b5 : PB z5 Z5) (b6 : PB z6 Z6) (b7 : PB z7 Z7) (b8 : PB z8 Z8) (b9 : PB z9 Z9) (b10 : PB z10 Z10) (l1 : PL Z1 Z2) (l3 : PL Z3 Z4) (l5 : PL Z5 Z6) (l7 : PL Z7 Z8) (l9 : PL Z9 Z10) (i0 : PI A0 F0) (i1 : PI A1 F1) (i2 : PI A2 F2) (tn : (FloatKind.f32.format.order r1 r2 == some Ordering.gt) = false) (be1 : ∀ W : World, Calls Tryz.prog 5 #[.int .u64 B0, .int .u64 B1] W fun e w' => e = .returned (.bool false) ∧ w' = W) (e1 : bits .andNot .u64 B2 9223372036854775808 = E) (tz : (E != 0) = true) : Calls Tryz.prog 3 #[.int .i64 d, .agg #[.int .u64 A0, .int .u64 A1, .int .u64 A2]] w fun e w' => e = .returned (.bool true) ∧ Kp w w' := by
  obtain ⟨B9, hB9⟩ : ∃ B9, B9 = w.heap.size := ⟨_, rfl⟩
  have hB : w.heap.size ≤ B9 := Nat.le_of_eq hB9.symm
  go_enter Tryz.func3, Tryz.ntmps3
  go_upto_region 2 with fail
  have ss := H3c.new w (.int .u64 A0) (.int .u64 A1) (.int .u64 A2) 23
  have kW : Kp w (w.alloc (.cells #[.int .u64 A0, .int .u64 A1, .int .u64 A2] 23)) := (Kp.refl w).alloc _
  rw [← hB9] at ss
  rw [← hB9]
  generalize w.alloc (.cells #[.int .u64 A0, .int .u64 A1, .int .u64 A2] 23) = W0 at ss kW ⊢
  clear hB9
  go_loopw [5] (fun s5 wr => ((s5 = .int .i64 0 ∧ H3c wr B9 (.int .u64 A0) (.int .u64 A1) (.int .u64 A2)) ∨ (s5 = .int .i64 1 ∧ H3c wr B9 (.int .u64 B0) (.int .u64 A1) (.int .u64 A2)) ∨ (s5 = .int .i64 2 ∧ H3c wr B9 (.int .u64 B0) (.int .u64 B1) (.int .u64 A2)) ∨ (s5 = .int .i64 3 ∧ H3c wr B9 (.int .u64 B0) (.int .u64 B1) (.int .u64 B2))) ∧ Kp w wr) (fun s5 _ => 3 - (intOf s5).toNat)
  case atStart => exact ⟨Or.inl ⟨rfl, ss⟩, kW⟩
  case round =>
    obtain ⟨hk, kW⟩ := hrel
    rcases hk with hk | hk | hk | hk
    · obtain ⟨rfl, hs⟩ := hk
      obtain ⟨h0, h1, h2, h3, h4, h5⟩ := id hs
      rcases c0 with ⟨rfl, rfl⟩ | ⟨rfl, ce⟩
      · go_wp2_with (first | (go_at_call 4; refine (fi9 _ _ (by with_reducible first | exact i0 | exact i1 | exact i2) _).mono ?_; rintro e wn ⟨rfl, hw9⟩; obtain rfl := hw9.symm; clear hw9))
        refine ⟨⟨Or.inr (Or.inl ⟨by go_num, hs⟩), kW⟩, by simp [intOf]⟩
      · go_wp2_with (first | (go_at_call 4; refine (fi9 _ _ (by with_reducible first | exact i0 | exact i1 | exact i2) _).mono ?_; rintro e wn ⟨rfl, hw9⟩; obtain rfl := hw9.symm; clear hw9))
        refine ⟨⟨Or.inr (Or.inl ⟨by go_num, H3c.p0 hs _⟩), kW.setCell hB _⟩, by simp [intOf]⟩
    · obtain ⟨rfl, hs⟩ := hk
      obtain ⟨h0, h1, h2, h3, h4, h5⟩ := id hs
      rcases c1 with ⟨rfl, rfl⟩ | ⟨rfl, ce⟩
      · go_wp2_with (first | (go_at_call 4; refine (fi9 _ _ (by with_reducible first | exact i0 | exact i1 | exact i2) _).mono ?_; rintro e wn ⟨rfl, hw9⟩; obtain rfl := hw9.symm; clear hw9))
        refine ⟨⟨Or.inr (Or.inr (Or.inl ⟨by go_num, hs⟩)), kW⟩, by simp [intOf]⟩
      · go_wp2_with (first | (go_at_call 4; refine (fi9 _ _ (by with_reducible first | exact i0 | exact i1 | exact i2) _).mono ?_; rintro e wn ⟨rfl, hw9⟩; obtain rfl := hw9.symm; clear hw9))
        refine ⟨⟨Or.inr (Or.inr (Or.inl ⟨by go_num, H3c.p1 hs _⟩)), kW.setCell hB _⟩, by simp [intOf]⟩
    · obtain ⟨rfl, hs⟩ := hk
      obtain ⟨h0, h1, h2, h3, h4, h5⟩ := id hs
      rcases c2 with ⟨rfl, rfl⟩ | ⟨rfl, ce⟩
      · go_wp2_with (first | (go_at_call 4; refine (fi9 _ _ (by with_reducible first | exact i0 | exact i1 | exact i2) _).mono ?_; rintro e wn ⟨rfl, hw9⟩; obtain rfl := hw9.symm; clear hw9))
        refine ⟨⟨Or.inr (Or.inr (Or.inr (⟨by go_num, hs⟩))), kW⟩, by simp [intOf]⟩
      · go_wp2_with (first | (go_at_call 4; refine (fi9 _ _ (by with_reducible first | exact i0 | exact i1 | exact i2) _).mono ?_; rintro e wn ⟨rfl, hw9⟩; obtain rfl := hw9.symm; clear hw9))
        refine ⟨⟨Or.inr (Or.inr (Or.inr (⟨by go_num, H3c.p2 hs _⟩))), kW.setCell hB _⟩, by simp [intOf]⟩
    · obtain ⟨rfl, hs⟩ := hk
      obtain ⟨h0, h1, h2, h3, h4, h5⟩ := id hs
      clear c0 c1 c2
      go_upto_region 13 with (first | (go_at_call 5; refine (be1 _).mono ?_; rintro e wn ⟨rfl, hw9⟩; obtain rfl := hw9.symm; clear hw9))
      go_wp2_with (first | (go_at_call 8; refine (fl9 _ _ (by with_reducible first | exact pP | exact pQ | exact pC | exact pE) _).mono ?_; rintro e wn ⟨rfl, hw9⟩; obtain rfl := hw9.symm; clear hw9) | (go_at_call 7; refine (op9 7 _ _ _ (by with_reducible first | exact o1 | exact o2) _ kW).mono ?_; rintro e wn ⟨rfl, gn⟩; replace kW := Kp.trans kW gn; clear gn) | (go_at_call 9; refine (op9 9 _ _ _ (by with_reducible first | exact o3 | exact o4) _ kW).mono ?_; rintro e wn ⟨rfl, gn⟩; replace kW := Kp.trans kW gn; clear gn) | (go_at_call 10; refine (op9 10 _ _ _ (by with_reducible first | exact o5 | exact o6) _ kW).mono ?_; rintro e wn ⟨rfl, gn⟩; replace kW := Kp.trans kW gn; clear gn) | (go_at_call 12; refine (op9 12 _ _ _ (by with_reducible first | exact o9 | exact o10) _ kW).mono ?_; rintro e wn ⟨rfl, gn⟩; replace kW := Kp.trans kW gn; clear gn) | (go_at_call 11; refine (fm9 _ _ _ _ (by with_reducible first | exact o7 | exact o8) _ kW).mono ?_; rintro e wn ⟨rfl, gn⟩; replace kW := Kp.trans kW gn; clear gn) | (go_at_call 13; refine (na9 _ _ (by with_reducible first | exact n1 | exact n2) _ kW).mono ?_; rintro e wn ⟨rfl, gn⟩; replace kW := Kp.trans kW gn; clear gn) | (go_at_call 6; refine (bt9 _ _ (by with_reducible first | exact b1 | exact b2 | exact b3 | exact b4 | exact b5 | exact b6 | exact b7 | exact b8 | exact b9 | exact b10) _).mono ?_; rintro e wn ⟨rfl, hw9⟩; obtain rfl := hw9.symm; clear hw9) | (go_at_call 5; refine (be9 _ _ (by with_reducible first | exact l1 | exact l3 | exact l5 | exact l7 | exact l9) _).mono ?_; rintro e wn ⟨rfl, hw9⟩; obtain rfl := hw9.symm; clear hw9) | (go_at_call 14; refine (li9 _ kW).mono ?_; rintro e wn ⟨rfl, gn⟩; replace kW := Kp.trans kW gn; clear gn))
      exact bodyPost_ret (v := .bool true) (by simp [results, Tryz.results3, go_sem]) rfl ⟨rfl, kW⟩
set_option maxRecDepth 20000 in
set_option maxHeartbeats 4000000 in
theorem rises01_ (d A0 A1 A2 B0 B1 B2 E : Int) (F0 F1 F2 : Bool) (xP xQ xC xE r1 r2 z1 z2 z3 z4 z5 z6 z7 z8 z9 z10 : Nat) (Z1 Z2 Z3 Z4 Z5 Z6 Z7 Z8 Z9 Z10 : Int) (w : World) (PF : Int → Nat → Prop) (PO : Nat → Nat → Nat → Nat → Prop) (PM : Nat → Nat → Nat → Nat → Prop) (PN : Nat → Nat → Prop) (PB : Nat → Int → Prop) (PL : Int → Int → Prop) (PI : Int → Bool → Prop) (fl9 : ∀ X Y, PF X Y → ∀ W : World, Calls Tryz.prog 8 #[.int .u64 X] W fun e w' => e = .returned (.float .f64 Y) ∧ w' = W) (op9 : ∀ g x y z, PO g x y z → ∀ W : World, Kp w W → Calls Tryz.prog g #[.int .i64 d, .float .f64 x, .float .f64 y] W fun e w' => e = .returned (.float .f64 z) ∧ Kp W w') (fm9 : ∀ x y z r, PM x y z r → ∀ W : World, Kp w W → Calls Tryz.prog 11 #[.int .i64 d, .float .f64 x, .float .f64 y, .float .f64 z] W fun e w' => e = .returned (.float .f64 r) ∧ Kp W w') (na9 : ∀ x r, PN x r → ∀ W : World, Kp w W → Calls Tryz.prog 13 #[.int .i64 d, .float .f64 x] W fun e w' => e = .returned (.float .f32 r) ∧ Kp W w') (bt9 : ∀ X Y, PB X Y → ∀ W : World, Calls Tryz.prog 6 #[.float .f64 X] W fun e w' => e = .returned (.int .u64 Y) ∧ w' = W) (be9 : ∀ X Y, PL X Y → ∀ W : World, Calls Tryz.prog 5 #[.int .u64 X, .int .u64 Y] W fun e w' => e = .returned (.bool true) ∧ w' = W) (fi9 : ∀ X B, PI X B → ∀ W : World, Calls Tryz.prog 4 #[.int .u64 X] W fun e w' => e = .returned (.bool B) ∧ w' = W) (li9 : ∀ W : World, Kp w W → Calls Tryz.prog 14 #[] W fun e w' => e = .returned (.bool true) ∧ Kp W w') (c0 : (F0 = true ∧ A0 = B0) ∨ (F0 = false ∧ bits .andNot .u64 A0 9218868437227405312 = B0)) (c1 : (F1 = true ∧ A1 = B1) ∨ (F1 = false ∧ bits .andNot .u64 A1 9218868437227405312 = B1)) (c2 : (F2 = true ∧ A2 = B2) ∨ (F2 = false ∧ bits .andNot .u64 A2 9218868437227405312 = B2)) (pP : PF B1 xP) (pQ : PF B0 xQ) (pC : PF B2 xC) (pE : PF E xE) (o1 : PO 7 xP xC z1) (o2 : PO 7 xQ xC z2) (o3 : PO 9 xP xC z3) (o4 : PO 9 xQ xC z4) (o5 : PO 10 xP xE z5) (o6 : PO 10 xQ xE z6) (o7 : PM xP xE xC z7) (o8 : PM xQ xE xC z8) (n1 : PN xP r1) (n2 : PN xQ r2) (b1 : PB z1 Z1) (b2 : PB z2 Z2) (b3 : PB z3 Z3) (b4 : PB z4 Z4) (b5 : PB z5 Z5) (b6 : PB z6 Z6) (b7 : PB z7 Z7) (b8 : PB z8 Z8) (l1 : PL Z1 Z2) (l3 : PL Z3 Z4) (l5 : PL Z5 Z6) (l7 : PL Z7 Z8) (i0 : PI A0 F0) (i1 : PI A1 F1) (i2 : PI A2 F2) (tn : (FloatKind.f32.format.order r1 r2 == some Ordering.gt) = false) (be1 : ∀ W : World, Calls Tryz.prog 5 #[.int .u64 B0, .int .u64 B1] W fun e w' => e = .returned (.bool false) ∧ w' = W) (e1 : bits .andNot .u64 B2 9223372036854775808 = E) (tz : (E != 0) = false) : Calls Tryz.prog 3 #[.int .i64 d, .agg #[.int .u64 A0, .int .u64 A1, .int .u64 A2]] w fun e w' => e = .returned (.bool true) ∧ Kp w w' := by
  obtain ⟨B9, hB9⟩ : ∃ B9, B9 = w.heap.size := ⟨_, rfl⟩
  have hB : w.heap.size ≤ B9 := Nat.le_of_eq hB9.symm
  go_enter Tryz.func3, Tryz.ntmps3
  go_upto_region 2 with fail
  have ss := H3c.new w (.int .u64 A0) (.int .u64 A1) (.int .u64 A2) 23
  have kW : Kp w (w.alloc (.cells #[.int .u64 A0, .int .u64 A1, .int .u64 A2] 23)) := (Kp.refl w).alloc _
  rw [← hB9] at ss
  rw [← hB9]
  generalize w.alloc (.cells #[.int .u64 A0, .int .u64 A1, .int .u64 A2] 23) = W0 at ss kW ⊢
  clear hB9
  go_loopw [5] (fun s5 wr => ((s5 = .int .i64 0 ∧ H3c wr B9 (.int .u64 A0) (.int .u64 A1) (.int .u64 A2)) ∨ (s5 = .int .i64 1 ∧ H3c wr B9 (.int .u64 B0) (.int .u64 A1) (.int .u64 A2)) ∨ (s5 = .int .i64 2 ∧ H3c wr B9 (.int .u64 B0) (.int .u64 B1) (.int .u64 A2)) ∨ (s5 = .int .i64 3 ∧ H3c wr B9 (.int .u64 B0) (.int .u64 B1) (.int .u64 B2))) ∧ Kp w wr) (fun s5 _ => 3 - (intOf s5).toNat)
  case atStart => exact ⟨Or.inl ⟨rfl, ss⟩, kW⟩
  case round =>
    obtain ⟨hk, kW⟩ := hrel
    rcases hk with hk | hk | hk | hk
    · obtain ⟨rfl, hs⟩ := hk
      obtain ⟨h0, h1, h2, h3, h4, h5⟩ := id hs
      rcases c0 with ⟨rfl, rfl⟩ | ⟨rfl, ce⟩
      · go_wp2_with (first | (go_at_call 4; refine (fi9 _ _ (by with_reducible first | exact i0 | exact i1 | exact i2) _).mono ?_; rintro e wn ⟨rfl, hw9⟩; obtain rfl := hw9.symm; clear hw9))
        refine ⟨⟨Or.inr (Or.inl ⟨by go_num, hs⟩), kW⟩, by simp [intOf]⟩
      · go_wp2_with (first | (go_at_call 4; refine (fi9 _ _ (by with_reducible first | exact i0 | exact i1 | exact i2) _).mono ?_; rintro e wn ⟨rfl, hw9⟩; obtain rfl := hw9.symm; clear hw9))
        refine ⟨⟨Or.inr (Or.inl ⟨by go_num, H3c.p0 hs _⟩), kW.setCell hB _⟩, by simp [intOf]⟩
    · obtain ⟨rfl, hs⟩ := hk
      obtain ⟨h0, h1, h2, h3, h4, h5⟩ := id hs
      rcases c1 with ⟨rfl, rfl⟩ | ⟨rfl, ce⟩
      · go_wp2_with (first | (go_at_call 4; refine (fi9 _ _ (by with_reducible first | exact i0 | exact i1 | exact i2) _).mono ?_; rintro e wn ⟨rfl, hw9⟩; obtain rfl := hw9.symm; clear hw9))
        refine ⟨⟨Or.inr (Or.inr (Or.inl ⟨by go_num, hs⟩)), kW⟩, by simp [intOf]⟩
      · go_wp2_with (first | (go_at_call 4; refine (fi9 _ _ (by with_reducible first | exact i0 | exact i1 | exact i2) _).mono ?_; rintro e wn ⟨rfl, hw9⟩; obtain rfl := hw9.symm; clear hw9))
        refine ⟨⟨Or.inr (Or.inr (Or.inl ⟨by go_num, H3c.p1 hs _⟩)), kW.setCell hB _⟩, by simp [intOf]⟩
    · obtain ⟨rfl, hs⟩ := hk
      obtain ⟨h0, h1, h2, h3, h4, h5⟩ := id hs
      rcases c2 with ⟨rfl, rfl⟩ | ⟨rfl, ce⟩
      · go_wp2_with (first | (go_at_call 4; refine (fi9 _ _ (by with_reducible first | exact i0 | exact i1 | exact i2) _).mono ?_; rintro e wn ⟨rfl, hw9⟩; obtain rfl := hw9.symm; clear hw9))
        refine ⟨⟨Or.inr (Or.inr (Or.inr (⟨by go_num, hs⟩))), kW⟩, by simp [intOf]⟩
      · go_wp2_with (first | (go_at_call 4; refine (fi9 _ _ (by with_reducible first | exact i0 | exact i1 | exact i2) _).mono ?_; rintro e wn ⟨rfl, hw9⟩; obtain rfl := hw9.symm; clear hw9))
        refine ⟨⟨Or.inr (Or.inr (Or.inr (⟨by go_num, H3c.p2 hs _⟩))), kW.setCell hB _⟩, by simp [intOf]⟩
    · obtain ⟨rfl, hs⟩ := hk
      obtain ⟨h0, h1, h2, h3, h4, h5⟩ := id hs
      clear c0 c1 c2
      go_upto_region 13 with (first | (go_at_call 5; refine (be1 _).mono ?_; rintro e wn ⟨rfl, hw9⟩; obtain rfl := hw9.symm; clear hw9))
      go_wp2_with (first | (go_at_call 8; refine (fl9 _ _ (by with_reducible first | exact pP | exact pQ | exact pC | exact pE) _).mono ?_; rintro e wn ⟨rfl, hw9⟩; obtain rfl := hw9.symm; clear hw9) | (go_at_call 7; refine (op9 7 _ _ _ (by with_reducible first | exact o1 | exact o2) _ kW).mono ?_; rintro e wn ⟨rfl, gn⟩; replace kW := Kp.trans kW gn; clear gn) | (go_at_call 9; refine (op9 9 _ _ _ (by with_reducible first | exact o3 | exact o4) _ kW).mono ?_; rintro e wn ⟨rfl, gn⟩; replace kW := Kp.trans kW gn; clear gn) | (go_at_call 10; refine (op9 10 _ _ _ (by with_reducible first | exact o5 | exact o6) _ kW).mono ?_; rintro e wn ⟨rfl, gn⟩; replace kW := Kp.trans kW gn; clear gn) | (go_at_call 11; refine (fm9 _ _ _ _ (by with_reducible first | exact o7 | exact o8) _ kW).mono ?_; rintro e wn ⟨rfl, gn⟩; replace kW := Kp.trans kW gn; clear gn) | (go_at_call 13; refine (na9 _ _ (by with_reducible first | exact n1 | exact n2) _ kW).mono ?_; rintro e wn ⟨rfl, gn⟩; replace kW := Kp.trans kW gn; clear gn) | (go_at_call 6; refine (bt9 _ _ (by with_reducible first | exact b1 | exact b2 | exact b3 | exact b4 | exact b5 | exact b6 | exact b7 | exact b8) _).mono ?_; rintro e wn ⟨rfl, hw9⟩; obtain rfl := hw9.symm; clear hw9) | (go_at_call 5; refine (be9 _ _ (by with_reducible first | exact l1 | exact l3 | exact l5 | exact l7) _).mono ?_; rintro e wn ⟨rfl, hw9⟩; obtain rfl := hw9.symm; clear hw9) | (go_at_call 14; refine (li9 _ kW).mono ?_; rintro e wn ⟨rfl, gn⟩; replace kW := Kp.trans kW gn; clear gn))
      exact bodyPost_ret (v := .bool true) (by simp [results, Tryz.results3, go_sem]) rfl ⟨rfl, kW⟩

set_option linter.unusedVariables false
theorem iv_le9 (n n' : Bool) (m m' : Nat) (h : Fq.plz n m ≤ Fq.plz n' m') : Iv n m ≤ Iv n' m' := by
  have h1 := Fq.vV_lt_iff Ieee.double m m'
  have h2 := Fq.vV_lt_iff Ieee.double m' m
  have h3 := vV_zero m
  have h4 := vV_zero m'
  unfold Iv
  unfold Fq.plz at h
  cases n <;> cases n' <;> simp at h ⊢ <;> omega
theorem iv_nn9 (m : Nat) : 0 ≤ Iv false m := by unfold Iv; simp
theorem word_fin (X : Nat) (hX : X < 18446744073709551616) : ∃ (F : Bool) (n : Bool) (m : Nat), m < 9218868437227405312 ∧ (∀ w : World, Calls Tryz.prog 4 #[.int .u64 (X : Int)] w fun e w' => e = .returned (.bool F) ∧ w' = w) ∧ ((F = true ∧ (X : Int) = ((Fq.wD n m : Nat) : Int)) ∨ (F = false ∧ bits .andNot .u64 (X : Int) 9218868437227405312 = ((Fq.wD n m : Nat) : Int))) := by
  obtain ⟨n, m, hm, e⟩ := Fq.exD X hX
  have hf := fin_ n m hm
  rw [← e] at hf
  by_cases c : m < 9218868437227405312
  · refine ⟨true, n, m, c, ?_, Or.inl ⟨rfl, by rw [e]⟩⟩
    rw [decide_eq_true c] at hf; exact hf
  · obtain ⟨n', m', h1, h2⟩ := clr_inf X hX
    refine ⟨false, n', m', h1, ?_, Or.inr ⟨rfl, h2⟩⟩
    rw [decide_eq_false c] at hf; exact hf
set_option maxHeartbeats 2000000 in
theorem rises_ (d : Int) (X Y Z : Nat) (w : World) (hT : Tab w) (hQ : Fq.Tab w) (hd1 : -9223372036854775808 ≤ d) (hd2 : d < 9223372036854775808) (hX : X < 18446744073709551616) (hY : Y < 18446744073709551616) (hZ : Z < 18446744073709551616) : Calls Tryz.prog 3 #[.int .i64 d, .agg #[.int .u64 (X : Int), .int .u64 (Y : Int), .int .u64 (Z : Int)]] w fun e w' => e = .returned (.bool true) ∧ Kp w w' := by
  obtain ⟨F0, n0, m0, h0, i0, c0⟩ := word_fin X hX
  obtain ⟨F1, n1, m1, h1, i1, c1⟩ := word_fin Y hY
  obtain ⟨F2, n2, m2, h2, i2, c2⟩ := word_fin Z hZ
  obtain ⟨K, hK⟩ : ∃ K : Nat, K = 1074 := ⟨_, rfl⟩
  obtain ⟨L, hL⟩ : ∃ L : Nat, L = 925 := ⟨_, rfl⟩
  have pK := Nat.two_pow_pos K
  have pL := Nat.two_pow_pos L
  have tT : ∀ W : World, Kp w W → Tab W := fun W g => Tab.grown hT g
  have tQ : ∀ W : World, Kp w W → Fq.Tab W := fun W g => Fq.Tab.grown hQ g
  have hbt : ∀ (z : Int), (-9218868437227405312 ≤ z ∧ z ≤ 9218868437227405312) → ∀ W : World, Calls Tryz.prog 6 #[.float .f64 (pz z)] W fun e w' => e = .returned (.int .u64 ((pz z : Nat) : Int)) ∧ w' = W := fun z h W => bitsN_ _ (self_pz z h) W
  have hbe : ∀ (x y : Int), (-9218868437227405312 ≤ x ∧ x ≤ 9218868437227405312) → (-9218868437227405312 ≤ y ∧ y ≤ 9218868437227405312) → x ≤ y → ∀ W : World, Calls Tryz.prog 5 #[.int .u64 ((pz x : Nat) : Int), .int .u64 ((pz y : Nat) : Int)] W fun e w' => e = .returned (.bool true) ∧ w' = W := fun x y hx hy h W => belowA_ _ _ _ (ple_pz x y hx hy h) W
  have e1 := clr_top n2 m2 (by omega)
  have bl := Fq.fle n0 n1 m0 m1 (by omega) (by omega)
  have hli : ∀ W : World, Kp w W → Calls Tryz.prog 14 #[] W fun e w' => e = .returned (.bool true) ∧ Kp W w' := fun W g => lives_ W (tT W g) (tQ W g)
  have hbl := belowA_ (Fq.wD n0 m0) (Fq.wD n1 m1) _ rfl
  rw [bl] at hbl
  have e0 := iv_nn9 m2
  by_cases b : Fq.plz n0 m0 ≤ Fq.plz n1 m1
  · rw [decide_eq_true (show m0 ≤ 9218868437227405312 ∧ m1 ≤ 9218868437227405312 ∧ Fq.plz n0 m0 ≤ Fq.plz n1 m1 from ⟨by omega, by omega, b⟩)] at hbl
    have hle := iv_le9 n0 n1 m0 m1 b
    have hml := Int.mul_le_mul_of_nonneg_right hle e0
    by_cases ez : m2 = 0
    · have tz : (((m2 : Nat) : Int) != 0) = false := by rw [ez]; rfl
      exact rises11_ d (X : Int) (Y : Int) (Z : Int) ((Fq.wD n0 m0 : Nat) : Int) ((Fq.wD n1 m1 : Nat) : Int) ((Fq.wD n2 m2 : Nat) : Int) ((m2 : Nat) : Int) F0 F1 F2 (Fq.wD n0 m0) (Fq.wD n1 m1) (Fq.wD n2 m2) (Fq.wD false m2) _ _ (pz (g53 d 1 1 (Iv n0 m0 + Iv n2 m2))) (pz (g53 d 1 1 (Iv n1 m1 + Iv n2 m2))) (pz (g53 d 1 1 (Iv n0 m0 - Iv n2 m2))) (pz (g53 d 1 1 (Iv n1 m1 - Iv n2 m2))) (pz (g53 d 1 (2 ^ K) (Iv n0 m0 * Iv false m2))) (pz (g53 d 1 (2 ^ K) (Iv n1 m1 * Iv false m2))) (pz (g53 d 1 (2 ^ K) (Iv n0 m0 * Iv false m2 + Iv n2 m2 * ((2 ^ K : Nat) : Int)))) (pz (g53 d 1 (2 ^ K) (Iv n1 m1 * Iv false m2 + Iv n2 m2 * ((2 ^ K : Nat) : Int)))) 0 0 ((pz (g53 d 1 1 (Iv n0 m0 + Iv n2 m2)) : Nat) : Int) ((pz (g53 d 1 1 (Iv n1 m1 + Iv n2 m2)) : Nat) : Int) ((pz (g53 d 1 1 (Iv n0 m0 - Iv n2 m2)) : Nat) : Int) ((pz (g53 d 1 1 (Iv n1 m1 - Iv n2 m2)) : Nat) : Int) ((pz (g53 d 1 (2 ^ K) (Iv n0 m0 * Iv false m2)) : Nat) : Int) ((pz (g53 d 1 (2 ^ K) (Iv n1 m1 * Iv false m2)) : Nat) : Int) ((pz (g53 d 1 (2 ^ K) (Iv n0 m0 * Iv false m2 + Iv n2 m2 * ((2 ^ K : Nat) : Int))) : Nat) : Int) ((pz (g53 d 1 (2 ^ K) (Iv n1 m1 * Iv false m2 + Iv n2 m2 * ((2 ^ K : Nat) : Int))) : Nat) : Int) 0 0 w (fun X Y => X = ((Y : Nat) : Int)) (fun g x y z => ∀ W : World, Kp w W → Calls Tryz.prog g #[.int .i64 d, .float .f64 x, .float .f64 y] W fun e w' => e = .returned (.float .f64 z) ∧ Kp W w') (fun x y z r => ∀ W : World, Kp w W → Calls Tryz.prog 11 #[.int .i64 d, .float .f64 x, .float .f64 y, .float .f64 z] W fun e w' => e = .returned (.float .f64 r) ∧ Kp W w') (fun x r => ∀ W : World, Kp w W → Calls Tryz.prog 13 #[.int .i64 d, .float .f64 x] W fun e w' => e = .returned (.float .f32 r) ∧ Kp W w') (fun X Y => ∀ W : World, Calls Tryz.prog 6 #[.float .f64 X] W fun e w' => e = .returned (.int .u64 Y) ∧ w' = W) (fun X Y => ∀ W : World, Calls Tryz.prog 5 #[.int .u64 X, .int .u64 Y] W fun e w' => e = .returned (.bool true) ∧ w' = W) (fun X B => ∀ W : World, Calls Tryz.prog 4 #[.int .u64 X] W fun e w' => e = .returned (.bool B) ∧ w' = W) (fun X Y h W => by rw [h]; exact fl_ Y W) (fun g x y z h => h) (fun x y z r h => h) (fun x r h => h) (fun X Y h => h) (fun X Y h => h) (fun X B h => h) hli c0 c1 c2 rfl rfl rfl rfl (fun W g => addG_ d n0 n2 m0 m2 h0 h2 hd1 hd2 W (tT W g) (tQ W g)) (fun W g => addG_ d n1 n2 m1 m2 h1 h2 hd1 hd2 W (tT W g) (tQ W g)) (fun W g => subG_ d n0 n2 m0 m2 h0 h2 hd1 hd2 W (tT W g) (tQ W g)) (fun W g => subG_ d n1 n2 m1 m2 h1 h2 hd1 hd2 W (tT W g) (tQ W g)) (fun W g => mulG_ K hK d n0 false m0 m2 h0 h2 hd1 hd2 W (tT W g) (tQ W g)) (fun W g => mulG_ K hK d n1 false m1 m2 h1 h2 hd1 hd2 W (tT W g) (tQ W g)) (fun W g => fmaG_ K hK d n0 false n2 m0 m2 m2 h0 h2 h2 hd1 hd2 W (tT W g) (tQ W g)) (fun W g => fmaG_ K hK d n1 false n2 m1 m2 m2 h1 h2 h2 hd1 hd2 W (tT W g) (tQ W g)) (fun W g => narG_ L hL d n0 m0 h0 hd1 hd2 W (tQ W g)) (fun W g => narG_ L hL d n1 m1 h1 hd1 hd2 W (tQ W g)) (hbt _ (g53_le _ _ _ _)) (hbt _ (g53_le _ _ _ _)) (hbt _ (g53_le _ _ _ _)) (hbt _ (g53_le _ _ _ _)) (hbt _ (g53_le _ _ _ _)) (hbt _ (g53_le _ _ _ _)) (hbt _ (g53_le _ _ _ _)) (hbt _ (g53_le _ _ _ _)) (hbe _ _ (g53_le _ _ _ _) (g53_le _ _ _ _) (g53_mono d 1 1 (by decide) _ _ (by omega))) (hbe _ _ (g53_le _ _ _ _) (g53_le _ _ _ _) (g53_mono d 1 1 (by decide) _ _ (by omega))) (hbe _ _ (g53_le _ _ _ _) (g53_le _ _ _ _) (g53_mono d 1 (2 ^ K) pK _ _ hml)) (hbe _ _ (g53_le _ _ _ _) (g53_le _ _ _ _) (g53_mono d 1 (2 ^ K) pK _ _ (by omega))) i0 i1 i2 (pgt_pzS _ _ (g24_le _ _ _ _) (g24_le _ _ _ _) (g24_mono d 1 (2 ^ L) pL _ _ hle)) hbl e1 tz
    · have tz : (((m2 : Nat) : Int) != 0) = true := by simp; omega
      exact rises10_ d (X : Int) (Y : Int) (Z : Int) ((Fq.wD n0 m0 : Nat) : Int) ((Fq.wD n1 m1 : Nat) : Int) ((Fq.wD n2 m2 : Nat) : Int) ((m2 : Nat) : Int) F0 F1 F2 (Fq.wD n0 m0) (Fq.wD n1 m1) (Fq.wD n2 m2) (Fq.wD false m2) _ _ (pz (g53 d 1 1 (Iv n0 m0 + Iv n2 m2))) (pz (g53 d 1 1 (Iv n1 m1 + Iv n2 m2))) (pz (g53 d 1 1 (Iv n0 m0 - Iv n2 m2))) (pz (g53 d 1 1 (Iv n1 m1 - Iv n2 m2))) (pz (g53 d 1 (2 ^ K) (Iv n0 m0 * Iv false m2))) (pz (g53 d 1 (2 ^ K) (Iv n1 m1 * Iv false m2))) (pz (g53 d 1 (2 ^ K) (Iv n0 m0 * Iv false m2 + Iv n2 m2 * ((2 ^ K : Nat) : Int)))) (pz (g53 d 1 (2 ^ K) (Iv n1 m1 * Iv false m2 + Iv n2 m2 * ((2 ^ K : Nat) : Int)))) (pz (g53 d (2 ^ K) (Fq.vV Ieee.double m2) (Iv n0 m0))) (pz (g53 d (2 ^ K) (Fq.vV Ieee.double m2) (Iv n1 m1))) ((pz (g53 d 1 1 (Iv n0 m0 + Iv n2 m2)) : Nat) : Int) ((pz (g53 d 1 1 (Iv n1 m1 + Iv n2 m2)) : Nat) : Int) ((pz (g53 d 1 1 (Iv n0 m0 - Iv n2 m2)) : Nat) : Int) ((pz (g53 d 1 1 (Iv n1 m1 - Iv n2 m2)) : Nat) : Int) ((pz (g53 d 1 (2 ^ K) (Iv n0 m0 * Iv false m2)) : Nat) : Int) ((pz (g53 d 1 (2 ^ K) (Iv n1 m1 * Iv false m2)) : Nat) : Int) ((pz (g53 d 1 (2 ^ K) (Iv n0 m0 * Iv false m2 + Iv n2 m2 * ((2 ^ K : Nat) : Int))) : Nat) : Int) ((pz (g53 d 1 (2 ^ K) (Iv n1 m1 * Iv false m2 + Iv n2 m2 * ((2 ^ K : Nat) : Int))) : Nat) : Int) ((pz (g53 d (2 ^ K) (Fq.vV Ieee.double m2) (Iv n0 m0)) : Nat) : Int) ((pz (g53 d (2 ^ K) (Fq.vV Ieee.double m2) (Iv n1 m1)) : Nat) : Int) w (fun X Y => X = ((Y : Nat) : Int)) (fun g x y z => ∀ W : World, Kp w W → Calls Tryz.prog g #[.int .i64 d, .float .f64 x, .float .f64 y] W fun e w' => e = .returned (.float .f64 z) ∧ Kp W w') (fun x y z r => ∀ W : World, Kp w W → Calls Tryz.prog 11 #[.int .i64 d, .float .f64 x, .float .f64 y, .float .f64 z] W fun e w' => e = .returned (.float .f64 r) ∧ Kp W w') (fun x r => ∀ W : World, Kp w W → Calls Tryz.prog 13 #[.int .i64 d, .float .f64 x] W fun e w' => e = .returned (.float .f32 r) ∧ Kp W w') (fun X Y => ∀ W : World, Calls Tryz.prog 6 #[.float .f64 X] W fun e w' => e = .returned (.int .u64 Y) ∧ w' = W) (fun X Y => ∀ W : World, Calls Tryz.prog 5 #[.int .u64 X, .int .u64 Y] W fun e w' => e = .returned (.bool true) ∧ w' = W) (fun X B => ∀ W : World, Calls Tryz.prog 4 #[.int .u64 X] W fun e w' => e = .returned (.bool B) ∧ w' = W) (fun X Y h W => by rw [h]; exact fl_ Y W) (fun g x y z h => h) (fun x y z r h => h) (fun x r h => h) (fun X Y h => h) (fun X Y h => h) (fun X B h => h) hli c0 c1 c2 rfl rfl rfl rfl (fun W g => addG_ d n0 n2 m0 m2 h0 h2 hd1 hd2 W (tT W g) (tQ W g)) (fun W g => addG_ d n1 n2 m1 m2 h1 h2 hd1 hd2 W (tT W g) (tQ W g)) (fun W g => subG_ d n0 n2 m0 m2 h0 h2 hd1 hd2 W (tT W g) (tQ W g)) (fun W g => subG_ d n1 n2 m1 m2 h1 h2 hd1 hd2 W (tT W g) (tQ W g)) (fun W g => mulG_ K hK d n0 false m0 m2 h0 h2 hd1 hd2 W (tT W g) (tQ W g)) (fun W g => mulG_ K hK d n1 false m1 m2 h1 h2 hd1 hd2 W (tT W g) (tQ W g)) (fun W g => divG_ K hK d n0 m0 m2 h0 h2 ez hd1 hd2 W (tT W g) (tQ W g)) (fun W g => divG_ K hK d n1 m1 m2 h1 h2 ez hd1 hd2 W (tT W g) (tQ W g)) (fun W g => fmaG_ K hK d n0 false n2 m0 m2 m2 h0 h2 h2 hd1 hd2 W (tT W g) (tQ W g)) (fun W g => fmaG_ K hK d n1 false n2 m1 m2 m2 h1 h2 h2 hd1 hd2 W (tT W g) (tQ W g)) (fun W g => narG_ L hL d n0 m0 h0 hd1 hd2 W (tQ W g)) (fun W g => narG_ L hL d n1 m1 h1 hd1 hd2 W (tQ W g)) (hbt _ (g53_le _ _ _ _)) (hbt _ (g53_le _ _ _ _)) (hbt _ (g53_le _ _ _ _)) (hbt _ (g53_le _ _ _ _)) (hbt _ (g53_le _ _ _ _)) (hbt _ (g53_le _ _ _ _)) (hbt _ (g53_le _ _ _ _)) (hbt _ (g53_le _ _ _ _)) (hbt _ (g53_le _ _ _ _)) (hbt _ (g53_le _ _ _ _)) (hbe _ _ (g53_le _ _ _ _) (g53_le _ _ _ _) (g53_mono d 1 1 (by decide) _ _ (by omega))) (hbe _ _ (g53_le _ _ _ _) (g53_le _ _ _ _) (g53_mono d 1 1 (by decide) _ _ (by omega))) (hbe _ _ (g53_le _ _ _ _) (g53_le _ _ _ _) (g53_mono d 1 (2 ^ K) pK _ _ hml)) (hbe _ _ (g53_le _ _ _ _) (g53_le _ _ _ _) (g53_mono d 1 (2 ^ K) pK _ _ (by omega))) (hbe _ _ (g53_le _ _ _ _) (g53_le _ _ _ _) (g53_mono d (2 ^ K) _ (by have := vV_zero m2; omega) _ _ hle)) i0 i1 i2 (pgt_pzS _ _ (g24_le _ _ _ _) (g24_le _ _ _ _) (g24_mono d 1 (2 ^ L) pL _ _ hle)) hbl e1 tz
  · rw [decide_eq_false (fun h => b h.2.2)] at hbl
    have hle := iv_le9 n1 n0 m1 m0 (by omega)
    have hml := Int.mul_le_mul_of_nonneg_right hle e0
    by_cases ez : m2 = 0
    · have tz : (((m2 : Nat) : Int) != 0) = false := by rw [ez]; rfl
      exact rises01_ d (X : Int) (Y : Int) (Z : Int) ((Fq.wD n0 m0 : Nat) : Int) ((Fq.wD n1 m1 : Nat) : Int) ((Fq.wD n2 m2 : Nat) : Int) ((m2 : Nat) : Int) F0 F1 F2 (Fq.wD n1 m1) (Fq.wD n0 m0) (Fq.wD n2 m2) (Fq.wD false m2) _ _ (pz (g53 d 1 1 (Iv n1 m1 + Iv n2 m2))) (pz (g53 d 1 1 (Iv n0 m0 + Iv n2 m2))) (pz (g53 d 1 1 (Iv n1 m1 - Iv n2 m2))) (pz (g53 d 1 1 (Iv n0 m0 - Iv n2 m2))) (pz (g53 d 1 (2 ^ K) (Iv n1 m1 * Iv false m2))) (pz (g53 d 1 (2 ^ K) (Iv n0 m0 * Iv false m2))) (pz (g53 d 1 (2 ^ K) (Iv n1 m1 * Iv false m2 + Iv n2 m2 * ((2 ^ K : Nat) : Int)))) (pz (g53 d 1 (2 ^ K) (Iv n0 m0 * Iv false m2 + Iv n2 m2 * ((2 ^ K : Nat) : Int)))) 0 0 ((pz (g53 d 1 1 (Iv n1 m1 + Iv n2 m2)) : Nat) : Int) ((pz (g53 d 1 1 (Iv n0 m0 + Iv n2 m2)) : Nat) : Int) ((pz (g53 d 1 1 (Iv n1 m1 - Iv n2 m2)) : Nat) : Int) ((pz (g53 d 1 1 (Iv n0 m0 - Iv n2 m2)) : Nat) : Int) ((pz (g53 d 1 (2 ^ K) (Iv n1 m1 * Iv false m2)) : Nat) : Int) ((pz (g53 d 1 (2 ^ K) (Iv n0 m0 * Iv false m2)) : Nat) : Int) ((pz (g53 d 1 (2 ^ K) (Iv n1 m1 * Iv false m2 + Iv n2 m2 * ((2 ^ K : Nat) : Int))) : Nat) : Int) ((pz (g53 d 1 (2 ^ K) (Iv n0 m0 * Iv false m2 + Iv n2 m2 * ((2 ^ K : Nat) : Int))) : Nat) : Int) 0 0 w (fun X Y => X = ((Y : Nat) : Int)) (fun g x y z => ∀ W : World, Kp w W → Calls Tryz.prog g #[.int .i64 d, .float .f64 x, .float .f64 y] W fun e w' => e = .returned (.float .f64 z) ∧ Kp W w') (fun x y z r => ∀ W : World, Kp w W → Calls Tryz.prog 11 #[.int .i64 d, .float .f64 x, .float .f64 y, .float .f64 z] W fun e w' => e = .returned (.float .f64 r) ∧ Kp W w') (fun x r => ∀ W : World, Kp w W → Calls Tryz.prog 13 #[.int .i64 d, .float .f64 x] W fun e w' => e = .returned (.float .f32 r) ∧ Kp W w') (fun X Y => ∀ W : World, Calls Tryz.prog 6 #[.float .f64 X] W fun e w' => e = .returned (.int .u64 Y) ∧ w' = W) (fun X Y => ∀ W : World, Calls Tryz.prog 5 #[.int .u64 X, .int .u64 Y] W fun e w' => e = .returned (.bool true) ∧ w' = W) (fun X B => ∀ W : World, Calls Tryz.prog 4 #[.int .u64 X] W fun e w' => e = .returned (.bool B) ∧ w' = W) (fun X Y h W => by rw [h]; exact fl_ Y W) (fun g x y z h => h) (fun x y z r h => h) (fun x r h => h) (fun X Y h => h) (fun X Y h => h) (fun X B h => h) hli c0 c1 c2 rfl rfl rfl rfl (fun W g => addG_ d n1 n2 m1 m2 h1 h2 hd1 hd2 W (tT W g) (tQ W g)) (fun W g => addG_ d n0 n2 m0 m2 h0 h2 hd1 hd2 W (tT W g) (tQ W g)) (fun W g => subG_ d n1 n2 m1 m2 h1 h2 hd1 hd2 W (tT W g) (tQ W g)) (fun W g => subG_ d n0 n2 m0 m2 h0 h2 hd1 hd2 W (tT W g) (tQ W g)) (fun W g => mulG_ K hK d n1 false m1 m2 h1 h2 hd1 hd2 W (tT W g) (tQ W g)) (fun W g => mulG_ K hK d n0 false m0 m2 h0 h2 hd1 hd2 W (tT W g) (tQ W g)) (fun W g => fmaG_ K hK d n1 false n2 m1 m2 m2 h1 h2 h2 hd1 hd2 W (tT W g) (tQ W g)) (fun W g => fmaG_ K hK d n0 false n2 m0 m2 m2 h0 h2 h2 hd1 hd2 W (tT W g) (tQ W g)) (fun W g => narG_ L hL d n1 m1 h1 hd1 hd2 W (tQ W g)) (fun W g => narG_ L hL d n0 m0 h0 hd1 hd2 W (tQ W g)) (hbt _ (g53_le _ _ _ _)) (hbt _ (g53_le _ _ _ _)) (hbt _ (g53_le _ _ _ _)) (hbt _ (g53_le _ _ _ _)) (hbt _ (g53_le _ _ _ _)) (hbt _ (g53_le _ _ _ _)) (hbt _ (g53_le _ _ _ _)) (hbt _ (g53_le _ _ _ _)) (hbe _ _ (g53_le _ _ _ _) (g53_le _ _ _ _) (g53_mono d 1 1 (by decide) _ _ (by omega))) (hbe _ _ (g53_le _ _ _ _) (g53_le _ _ _ _) (g53_mono d 1 1 (by decide) _ _ (by omega))) (hbe _ _ (g53_le _ _ _ _) (g53_le _ _ _ _) (g53_mono d 1 (2 ^ K) pK _ _ hml)) (hbe _ _ (g53_le _ _ _ _) (g53_le _ _ _ _) (g53_mono d 1 (2 ^ K) pK _ _ (by omega))) i0 i1 i2 (pgt_pzS _ _ (g24_le _ _ _ _) (g24_le _ _ _ _) (g24_mono d 1 (2 ^ L) pL _ _ hle)) hbl e1 tz
    · have tz : (((m2 : Nat) : Int) != 0) = true := by simp; omega
      exact rises00_ d (X : Int) (Y : Int) (Z : Int) ((Fq.wD n0 m0 : Nat) : Int) ((Fq.wD n1 m1 : Nat) : Int) ((Fq.wD n2 m2 : Nat) : Int) ((m2 : Nat) : Int) F0 F1 F2 (Fq.wD n1 m1) (Fq.wD n0 m0) (Fq.wD n2 m2) (Fq.wD false m2) _ _ (pz (g53 d 1 1 (Iv n1 m1 + Iv n2 m2))) (pz (g53 d 1 1 (Iv n0 m0 + Iv n2 m2))) (pz (g53 d 1 1 (Iv n1 m1 - Iv n2 m2))) (pz (g53 d 1 1 (Iv n0 m0 - Iv n2 m2))) (pz (g53 d 1 (2 ^ K) (Iv n1 m1 * Iv false m2))) (pz (g53 d 1 (2 ^ K) (Iv n0 m0 * Iv false m2))) (pz (g53 d 1 (2 ^ K) (Iv n1 m1 * Iv false m2 + Iv n2 m2 * ((2 ^ K : Nat) : Int)))) (pz (g53 d 1 (2 ^ K) (Iv n0 m0 * Iv false m2 + Iv n2 m2 * ((2 ^ K : Nat) : Int)))) (pz (g53 d (2 ^ K) (Fq.vV Ieee.double m2) (Iv n1 m1))) (pz (g53 d (2 ^ K) (Fq.vV Ieee.double m2) (Iv n0 m0))) ((pz (g53 d 1 1 (Iv n1 m1 + Iv n2 m2)) : Nat) : Int) ((pz (g53 d 1 1 (Iv n0 m0 + Iv n2 m2)) : Nat) : Int) ((pz (g53 d 1 1 (Iv n1 m1 - Iv n2 m2)) : Nat) : Int) ((pz (g53 d 1 1 (Iv n0 m0 - Iv n2 m2)) : Nat) : Int) ((pz (g53 d 1 (2 ^ K) (Iv n1 m1 * Iv false m2)) : Nat) : Int) ((pz (g53 d 1 (2 ^ K) (Iv n0 m0 * Iv false m2)) : Nat) : Int) ((pz (g53 d 1 (2 ^ K) (Iv n1 m1 * Iv false m2 + Iv n2 m2 * ((2 ^ K : Nat) : Int))) : Nat) : Int) ((pz (g53 d 1 (2 ^ K) (Iv n0 m0 * Iv false m2 + Iv n2 m2 * ((2 ^ K : Nat) : Int))) : Nat) : Int) ((pz (g53 d (2 ^ K) (Fq.vV Ieee.double m2) (Iv n1 m1)) : Nat) : Int) ((pz (g53 d (2 ^ K) (Fq.vV Ieee.double m2) (Iv n0 m0)) : Nat) : Int) w (fun X Y => X = ((Y : Nat) : Int)) (fun g x y z => ∀ W : World, Kp w W → Calls Tryz.prog g #[.int .i64 d, .float .f64 x, .float .f64 y] W fun e w' => e = .returned (.float .f64 z) ∧ Kp W w') (fun x y z r => ∀ W : World, Kp w W → Calls Tryz.prog 11 #[.int .i64 d, .float .f64 x, .float .f64 y, .float .f64 z] W fun e w' => e = .returned (.float .f64 r) ∧ Kp W w') (fun x r => ∀ W : World, Kp w W → Calls Tryz.prog 13 #[.int .i64 d, .float .f64 x] W fun e w' => e = .returned (.float .f32 r) ∧ Kp W w') (fun X Y => ∀ W : World, Calls Tryz.prog 6 #[.float .f64 X] W fun e w' => e = .returned (.int .u64 Y) ∧ w' = W) (fun X Y => ∀ W : World, Calls Tryz.prog 5 #[.int .u64 X, .int .u64 Y] W fun e w' => e = .returned (.bool true) ∧ w' = W) (fun X B => ∀ W : World, Calls Tryz.prog 4 #[.int .u64 X] W fun e w' => e = .returned (.bool B) ∧ w' = W) (fun X Y h W => by rw [h]; exact fl_ Y W) (fun g x y z h => h) (fun x y z r h => h) (fun x r h => h) (fun X Y h => h) (fun X Y h => h) (fun X B h => h) hli c0 c1 c2 rfl rfl rfl rfl (fun W g => addG_ d n1 n2 m1 m2 h1 h2 hd1 hd2 W (tT W g) (tQ W g)) (fun W g => addG_ d n0 n2 m0 m2 h0 h2 hd1 hd2 W (tT W g) (tQ W g)) (fun W g => subG_ d n1 n2 m1 m2 h1 h2 hd1 hd2 W (tT W g) (tQ W g)) (fun W g => subG_ d n0 n2 m0 m2 h0 h2 hd1 hd2 W (tT W g) (tQ W g)) (fun W g => mulG_ K hK d n1 false m1 m2 h1 h2 hd1 hd2 W (tT W g) (tQ W g)) (fun W g => mulG_ K hK d n0 false m0 m2 h0 h2 hd1 hd2 W (tT W g) (tQ W g)) (fun W g => divG_ K hK d n1 m1 m2 h1 h2 ez hd1 hd2 W (tT W g) (tQ W g)) (fun W g => divG_ K hK d n0 m0 m2 h0 h2 ez hd1 hd2 W (tT W g) (tQ W g)) (fun W g => fmaG_ K hK d n1 false n2 m1 m2 m2 h1 h2 h2 hd1 hd2 W (tT W g) (tQ W g)) (fun W g => fmaG_ K hK d n0 false n2 m0 m2 m2 h0 h2 h2 hd1 hd2 W (tT W g) (tQ W g)) (fun W g => narG_ L hL d n1 m1 h1 hd1 hd2 W (tQ W g)) (fun W g => narG_ L hL d n0 m0 h0 hd1 hd2 W (tQ W g)) (hbt _ (g53_le _ _ _ _)) (hbt _ (g53_le _ _ _ _)) (hbt _ (g53_le _ _ _ _)) (hbt _ (g53_le _ _ _ _)) (hbt _ (g53_le _ _ _ _)) (hbt _ (g53_le _ _ _ _)) (hbt _ (g53_le _ _ _ _)) (hbt _ (g53_le _ _ _ _)) (hbt _ (g53_le _ _ _ _)) (hbt _ (g53_le _ _ _ _)) (hbe _ _ (g53_le _ _ _ _) (g53_le _ _ _ _) (g53_mono d 1 1 (by decide) _ _ (by omega))) (hbe _ _ (g53_le _ _ _ _) (g53_le _ _ _ _) (g53_mono d 1 1 (by decide) _ _ (by omega))) (hbe _ _ (g53_le _ _ _ _) (g53_le _ _ _ _) (g53_mono d 1 (2 ^ K) pK _ _ hml)) (hbe _ _ (g53_le _ _ _ _) (g53_le _ _ _ _) (g53_mono d 1 (2 ^ K) pK _ _ (by omega))) (hbe _ _ (g53_le _ _ _ _) (g53_le _ _ _ _) (g53_mono d (2 ^ K) _ (by have := vV_zero m2; omega) _ _ hle)) i0 i1 i2 (pgt_pzS _ _ (g24_le _ _ _ _) (g24_le _ _ _ _) (g24_mono d 1 (2 ^ L) pL _ _ hle)) hbl e1 tz
end Go.Proofs.YtlnllkjbefekdaaGreatDoor
