import Derived.Test.YtbcjhmdkpkmieaaKPKh
import Derived.Test.YtbcjhmdkpkmieaaKPKq
import Derived.Test.YtbcjhmdkpkmieaaKPLb
namespace Go.Proofs.Ytbcjhmdkpkmieaa
open Go.RowKit
open Go
namespace B8
set_option maxRecDepth 20000 in
set_option maxHeartbeats 1000000 in
theorem rgdecN_ (p : Option Addr) (N c : Nat) (t : ((N : Int) != 17) = true) (w : World) : Calls Try.prog 22 #[.slice p N c] w fun e w' => e = .returned (.tuple #[.agg #[.int .u64 0, .int .u64 0, .int .i64 0], .int .i64 130]) ∧ Kp w w' := by
  go_enter Try.func22, Try.ntmps22
  go_wp2
  exact bodyPost_ret (v := .tuple #[.agg #[.int .u64 0, .int .u64 0, .int .i64 0], .int .i64 130]) (by simp [results, Try.results22, go_sem]) rfl ⟨rfl, (by repeat (with_reducible (first | assumption | exact Kp.refl _ | apply Kp.drew | apply Kp.alloc | apply Kp.drewN | (refine Kp.setCell ?_ (by first | omega | (simp <;> omega)) _) | (refine Kp.trans ?_ (by assumption)))))⟩
set_option maxRecDepth 20000 in
set_option maxHeartbeats 2000000 in
theorem rgdecV_ (b off c : Nat) (X Y D : Int) (hD0 : 0 ≤ D) (hD1 : D < 256) (w : World) (hcell : w.cell? ⟨b, off + 16, none⟩ = some (.int .u8 D)) (HT1 : ∀ W : World, Kp w W → Calls Try.prog 44 #[.slice (some ⟨b, off, none⟩) 17 c, .int .i64 0] W fun e w' => e = .returned (.int .u64 X) ∧ Kp W w') (HT2 : ∀ W : World, Kp w W → Calls Try.prog 44 #[.slice (some ⟨b, off, none⟩) 17 c, .int .i64 8] W fun e w' => e = .returned (.int .u64 Y) ∧ Kp W w') (hv : ∀ w : World, Calls Try.prog 47 #[.agg #[.int .u64 X, .int .u64 Y, .int .i64 D]] w fun e w' => e = .returned (.bool false) ∧ Kp w w') : Calls Try.prog 22 #[.slice (some ⟨b, off, none⟩) 17 c] w fun e w' => e = .returned (.tuple #[.agg #[.int .u64 0, .int .u64 0, .int .i64 0], .int .i64 130]) ∧ Kp w w' := by
  have hwD : IntKind.i64.wrap D = D := by rw [IntKind.wrap_i64]; omega
  go_enter Try.func22, Try.ntmps22
  go_upto_region 4 with fail
  have sr : H3c ((w.alloc (.cells #[.int .u64 0, .int .u64 0, .int .i64 0] 47)).alloc (.cells #[.int .u64 0, .int .u64 0, .int .i64 0] 47)) w.heap.size (.int .u64 0) (.int .u64 0) (.int .i64 0) := H3c.keep (H3c.new w (.int .u64 0) (.int .u64 0) (.int .i64 0) 47) ((Kp.refl _).alloc _)
  have sz := H3c.two w #[.int .u64 0, .int .u64 0, .int .i64 0] (.int .u64 0) (.int .u64 0) (.int .i64 0) 47 47
  have kw : Kp w ((w.alloc (.cells #[.int .u64 0, .int .u64 0, .int .i64 0] 47)).alloc (.cells #[.int .u64 0, .int .u64 0, .int .i64 0] 47)) := ((Kp.refl w).alloc _).alloc _
  generalize (w.alloc (.cells #[.int .u64 0, .int .u64 0, .int .i64 0] 47)).alloc (.cells #[.int .u64 0, .int .u64 0, .int .i64 0] 47) = W at sr sz kw ⊢
  have hc0 := kkeep kw hcell
  clear hcell
  go_cut [5] (fun s5 wx => ∃ g : Nat, s5 = .pointer (some ⟨g, 0, none⟩) ∧ H3c wx g (.int .u64 X) (.int .u64 Y) (.int .i64 D) ∧ Kp W wx)
  case first =>
    go_region_held3 (fun w' => w'.cell? ⟨b, off + 16, none⟩ = some (.int .u8 D)) (first | (with_reducible exact hc0) | (with_reducible exact cb0_0) | (with_reducible exact cb1_0) | (refine (kkeep (W := W) ?_ hc0) <;> ((repeat (first | with_reducible exact Kp.refl _ | with_reducible apply Kp.drew | with_reducible apply Kp.alloc)); done)) | (refine (kkeep (W := w1) ?_ cb0_0) <;> ((repeat (first | with_reducible exact Kp.refl _ | with_reducible apply Kp.drew | with_reducible apply Kp.alloc)); done)) | (refine (kkeep (W := w2) ?_ cb1_0) <;> ((repeat (first | with_reducible exact Kp.refl _ | with_reducible apply Kp.drew | with_reducible apply Kp.alloc)); done)) | (refine ?_ <;> (refine ((World.cell?_setCell_far _ _ _ _ ?_).trans ((World.cell?_setCell_far _ _ _ _ ?_).trans ((World.cell?_setCell_far _ _ _ _ ?_).trans ?_))) <;> first | assumption | (have h90 := cell_lt hc0; have h80 := Below.size KB0; have h81 := Below.size KB1; first | omega | (simp <;> omega))))) (first | (go_at_call_of 44 (Value.int .i64 0); refine (HT1 _ (Kp.trans kw ?qk)).mono ?_; (case qk => ((repeat (first | with_reducible exact KB1 | with_reducible exact KB0 | with_reducible exact Kp.refl _ | with_reducible refine Kp.drew ?_ | with_reducible refine Kp.alloc ?_ _)); done)); rintro e w1 ⟨rfl, g1⟩; have KB0 : Kp W w1 := Kp.trans (by (repeat (first | exact Kp.refl _ | apply Kp.drew | apply Kp.alloc)); done) g1; have cb0_0 := kkeep KB0 hc0) | (go_at_call_of 44 (Value.int .i64 8); refine (HT2 _ (Kp.trans kw ?ql)).mono ?_; (case ql => ((repeat (first | with_reducible exact KB1 | with_reducible exact KB0 | with_reducible exact Kp.refl _ | with_reducible refine Kp.drew ?_ | with_reducible refine Kp.alloc ?_ _)); done)); rintro e w2 ⟨rfl, g2⟩; have KB1 : Kp W w2 := Kp.trans (Kp.trans KB0 (by (repeat (first | exact Kp.refl _ | apply Kp.drew | apply Kp.alloc)); done)) g2; have cb1_0 := kkeep KB1 hc0; first | ((with_reducible have hb9 := (H3c.keep (H3c.keep (H3c.newD W (.int .u64 0) (.int .u64 0) (.int .i64 0) 47) g1) g2)); obtain ⟨mb0, mb1, mb2, mb3, mb4, mb5⟩ := id hb9) | ((with_reducible have hb9 := (H3c.keep (H3c.new w1 (.int .u64 0) (.int .u64 0) (.int .i64 0) 47) g2)); obtain ⟨mb0, mb1, mb2, mb3, mb4, mb5⟩ := id hb9) | skip))
    all_goals go_wp2_with fail
    all_goals (
      go_meet
      refine ⟨_, rfl, ?_, ?_⟩
      · first | (with_reducible exact H3c.put hb9 _ _ _) | (with_reducible exact H3c.put (H3c.new w2 (.int .u64 0) (.int .u64 0) (.int .i64 0) 47) _ _ _) | (with_reducible exact H3c.new w2 _ _ _ 47) | (unfold H3c; simp [go_sem]; done)
      · have h80 := Below.size KB0; have h81 := Below.size KB1
        first | (with_reducible exact (Kp.alloc KB1 _)) | ((with_reducible refine (Kp.setCell (Kp.setCell (Kp.setCell KB1 ?_ _) ?_ _) ?_ _)) <;> first | omega | (simp <;> omega)) | ((with_reducible refine (Kp.setCell (Kp.setCell (Kp.setCell (Kp.alloc KB1 _) ?_ _) ?_ _) ?_ _)) <;> first | omega | (simp <;> omega)))
  case rest =>
  obtain ⟨g5, rfl, q5, gc⟩ := hcut
  replace kw := Kp.trans kw gc
  replace sz := H3c.keep sz gc
  replace sr := H3c.keep sr gc
  obtain ⟨z0, z1, z2, z3, z4, z5⟩ := id sz
  obtain ⟨r0, r1, r2, r3, r4, r5⟩ := id sr
  obtain ⟨y0, y1, y2, y3, y4, y5⟩ := id q5
  go_wp2_with (first | (go_at_call 47; refine (hv _).mono ?_; rintro e w3 ⟨rfl, g3⟩; replace kw := Kp.trans kw g3; replace sz := H3c.keep sz g3; replace sr := H3c.keep sr g3; replace q5 := H3c.keep q5 g3; clear z0 z1 z2 z3 z4 z5 r0 r1 r2 r3 r4 r5 y0 y1 y2 y3 y4 y5; obtain ⟨z0, z1, z2, z3, z4, z5⟩ := id sz; obtain ⟨r0, r1, r2, r3, r4, r5⟩ := id sr; obtain ⟨y0, y1, y2, y3, y4, y5⟩ := id q5))
  exact bodyPost_ret (v := .tuple #[.agg #[.int .u64 0, .int .u64 0, .int .i64 0], .int .i64 130]) (by simp [results, Try.results22, go_sem, r0, r1, r2]) rfl ⟨rfl, (((kw.setCell (by simp) _).setCell (by simp) _).setCell (by simp) _)⟩
set_option maxRecDepth 20000 in
set_option maxHeartbeats 2000000 in
theorem rgdecY_ (b off c : Nat) (X Y D : Int) (hD0 : 0 ≤ D) (hD1 : D < 256) (w : World) (hcell : w.cell? ⟨b, off + 16, none⟩ = some (.int .u8 D)) (HT1 : ∀ W : World, Kp w W → Calls Try.prog 44 #[.slice (some ⟨b, off, none⟩) 17 c, .int .i64 0] W fun e w' => e = .returned (.int .u64 X) ∧ Kp W w') (HT2 : ∀ W : World, Kp w W → Calls Try.prog 44 #[.slice (some ⟨b, off, none⟩) 17 c, .int .i64 8] W fun e w' => e = .returned (.int .u64 Y) ∧ Kp W w') (hv : ∀ w : World, Calls Try.prog 47 #[.agg #[.int .u64 X, .int .u64 Y, .int .i64 D]] w fun e w' => e = .returned (.bool true) ∧ Kp w w') : Calls Try.prog 22 #[.slice (some ⟨b, off, none⟩) 17 c] w fun e w' => e = .returned (.tuple #[.agg #[.int .u64 X, .int .u64 Y, .int .i64 D], .int .i64 0]) ∧ Kp w w' := by
  have hwD : IntKind.i64.wrap D = D := by rw [IntKind.wrap_i64]; omega
  go_enter Try.func22, Try.ntmps22
  go_upto_region 4 with fail
  have sr : H3c ((w.alloc (.cells #[.int .u64 0, .int .u64 0, .int .i64 0] 47)).alloc (.cells #[.int .u64 0, .int .u64 0, .int .i64 0] 47)) w.heap.size (.int .u64 0) (.int .u64 0) (.int .i64 0) := H3c.keep (H3c.new w (.int .u64 0) (.int .u64 0) (.int .i64 0) 47) ((Kp.refl _).alloc _)
  have sz := H3c.two w #[.int .u64 0, .int .u64 0, .int .i64 0] (.int .u64 0) (.int .u64 0) (.int .i64 0) 47 47
  have kw : Kp w ((w.alloc (.cells #[.int .u64 0, .int .u64 0, .int .i64 0] 47)).alloc (.cells #[.int .u64 0, .int .u64 0, .int .i64 0] 47)) := ((Kp.refl w).alloc _).alloc _
  generalize (w.alloc (.cells #[.int .u64 0, .int .u64 0, .int .i64 0] 47)).alloc (.cells #[.int .u64 0, .int .u64 0, .int .i64 0] 47) = W at sr sz kw ⊢
  have hc0 := kkeep kw hcell
  clear hcell
  go_cut [5] (fun s5 wx => ∃ g : Nat, s5 = .pointer (some ⟨g, 0, none⟩) ∧ H3c wx g (.int .u64 X) (.int .u64 Y) (.int .i64 D) ∧ Kp W wx)
  case first =>
    go_region_held3 (fun w' => w'.cell? ⟨b, off + 16, none⟩ = some (.int .u8 D)) (first | (with_reducible exact hc0) | (with_reducible exact cb0_0) | (with_reducible exact cb1_0) | (refine (kkeep (W := W) ?_ hc0) <;> ((repeat (first | with_reducible exact Kp.refl _ | with_reducible apply Kp.drew | with_reducible apply Kp.alloc)); done)) | (refine (kkeep (W := w1) ?_ cb0_0) <;> ((repeat (first | with_reducible exact Kp.refl _ | with_reducible apply Kp.drew | with_reducible apply Kp.alloc)); done)) | (refine (kkeep (W := w2) ?_ cb1_0) <;> ((repeat (first | with_reducible exact Kp.refl _ | with_reducible apply Kp.drew | with_reducible apply Kp.alloc)); done)) | (refine ?_ <;> (refine ((World.cell?_setCell_far _ _ _ _ ?_).trans ((World.cell?_setCell_far _ _ _ _ ?_).trans ((World.cell?_setCell_far _ _ _ _ ?_).trans ?_))) <;> first | assumption | (have h90 := cell_lt hc0; have h80 := Below.size KB0; have h81 := Below.size KB1; first | omega | (simp <;> omega))))) (first | (go_at_call_of 44 (Value.int .i64 0); refine (HT1 _ (Kp.trans kw ?qk)).mono ?_; (case qk => ((repeat (first | with_reducible exact KB1 | with_reducible exact KB0 | with_reducible exact Kp.refl _ | with_reducible refine Kp.drew ?_ | with_reducible refine Kp.alloc ?_ _)); done)); rintro e w1 ⟨rfl, g1⟩; have KB0 : Kp W w1 := Kp.trans (by (repeat (first | exact Kp.refl _ | apply Kp.drew | apply Kp.alloc)); done) g1; have cb0_0 := kkeep KB0 hc0) | (go_at_call_of 44 (Value.int .i64 8); refine (HT2 _ (Kp.trans kw ?ql)).mono ?_; (case ql => ((repeat (first | with_reducible exact KB1 | with_reducible exact KB0 | with_reducible exact Kp.refl _ | with_reducible refine Kp.drew ?_ | with_reducible refine Kp.alloc ?_ _)); done)); rintro e w2 ⟨rfl, g2⟩; have KB1 : Kp W w2 := Kp.trans (Kp.trans KB0 (by (repeat (first | exact Kp.refl _ | apply Kp.drew | apply Kp.alloc)); done)) g2; have cb1_0 := kkeep KB1 hc0; first | ((with_reducible have hb9 := (H3c.keep (H3c.keep (H3c.newD W (.int .u64 0) (.int .u64 0) (.int .i64 0) 47) g1) g2)); obtain ⟨mb0, mb1, mb2, mb3, mb4, mb5⟩ := id hb9) | ((with_reducible have hb9 := (H3c.keep (H3c.new w1 (.int .u64 0) (.int .u64 0) (.int .i64 0) 47) g2)); obtain ⟨mb0, mb1, mb2, mb3, mb4, mb5⟩ := id hb9) | skip))
    all_goals go_wp2_with fail
    all_goals (
      go_meet
      refine ⟨_, rfl, ?_, ?_⟩
      · first | (with_reducible exact H3c.put hb9 _ _ _) | (with_reducible exact H3c.put (H3c.new w2 (.int .u64 0) (.int .u64 0) (.int .i64 0) 47) _ _ _) | (with_reducible exact H3c.new w2 _ _ _ 47) | (unfold H3c; simp [go_sem]; done)
      · have h80 := Below.size KB0; have h81 := Below.size KB1
        first | (with_reducible exact (Kp.alloc KB1 _)) | ((with_reducible refine (Kp.setCell (Kp.setCell (Kp.setCell KB1 ?_ _) ?_ _) ?_ _)) <;> first | omega | (simp <;> omega)) | ((with_reducible refine (Kp.setCell (Kp.setCell (Kp.setCell (Kp.alloc KB1 _) ?_ _) ?_ _) ?_ _)) <;> first | omega | (simp <;> omega)))
  case rest =>
  obtain ⟨g5, rfl, q5, gc⟩ := hcut
  replace kw := Kp.trans kw gc
  replace sz := H3c.keep sz gc
  replace sr := H3c.keep sr gc
  obtain ⟨z0, z1, z2, z3, z4, z5⟩ := id sz
  obtain ⟨r0, r1, r2, r3, r4, r5⟩ := id sr
  obtain ⟨y0, y1, y2, y3, y4, y5⟩ := id q5
  go_wp2_with (first | (go_at_call 47; refine (hv _).mono ?_; rintro e w3 ⟨rfl, g3⟩; replace kw := Kp.trans kw g3; replace sz := H3c.keep sz g3; replace sr := H3c.keep sr g3; replace q5 := H3c.keep q5 g3; clear z0 z1 z2 z3 z4 z5 r0 r1 r2 r3 r4 r5 y0 y1 y2 y3 y4 y5; obtain ⟨z0, z1, z2, z3, z4, z5⟩ := id sz; obtain ⟨r0, r1, r2, r3, r4, r5⟩ := id sr; obtain ⟨y0, y1, y2, y3, y4, y5⟩ := id q5))
  exact bodyPost_ret (v := .tuple #[.agg #[.int .u64 X, .int .u64 Y, .int .i64 D], .int .i64 0]) (by simp [results, Try.results22, go_sem, r0, r1, r2]) rfl ⟨rfl, (((kw.setCell (by simp) _).setCell (by simp) _).setCell (by simp) _)⟩
theorem rgetdeco_ (p : Option Addr) (c N : Nat) (xs : List Int) (w : World) (hx : Arr w p xs) (hl : xs.length = N) (hw : Wb xs) : Calls Try.prog 22 #[.slice p N c] w fun e w' => e = .returned (.tuple #[.agg #[.int .u64 ((gdX xs : Nat) : Int), .int .u64 ((gdY xs : Nat) : Int), .int .i64 (gdD xs)], .int .i64 (gdE xs)]) ∧ Kp w w' := by
  subst hl
  by_cases h : xs.length = 17
  · obtain ⟨b, off, rfl, hcell⟩ := hx.at (k := 0) (by omega)
    have HT1 : ∀ W : World, Kp w W → Calls Try.prog 44 #[.slice (some ⟨b, off, none⟩) 17 c, .int .i64 0] W fun e w' => e = .returned (.int .u64 ((bv (xs.take 8) : Nat) : Int)) ∧ Kp W w' := by
      intro W k
      have := taken_ (some ⟨b, off, none⟩) c 0 17 xs W (hx.grown k) h hw (by decide) (by decide)
      rw [List.drop_zero] at this
      exact this.mono (fun e w' h => ⟨h.1, by rw [h.2]; exact Kp.refl _⟩)
    have HT2 : ∀ W : World, Kp w W → Calls Try.prog 44 #[.slice (some ⟨b, off, none⟩) 17 c, .int .i64 8] W fun e w' => e = .returned (.int .u64 ((bv ((xs.drop 8).take 8) : Nat) : Int)) ∧ Kp W w' := by
      intro W k
      exact (taken_ (some ⟨b, off, none⟩) c 8 17 xs W (hx.grown k) h hw (by decide) (by decide)).mono (fun e w' h => ⟨h.1, by rw [h.2]; exact Kp.refl _⟩)
    have hD := hw 16
    have hc16 := hcell 16 (by omega)
    have lx : (xs.take 8).length = 8 := by rw [List.length_take]; omega
    have ly : ((xs.drop 8).take 8).length = 8 := by rw [List.length_take, List.length_drop]; omega
    have bx := bv_lt8 _ lx (hw.take 8)
    have bY := bv_lt8 _ ly ((hw.drop 8).take 8)
    rw [h]
    unfold gdX gdY gdD gdE gdOk
    rw [decide_eq_true h, Bool.true_and]
    generalize bv (xs.take 8) = X at HT1 bx ⊢
    generalize bv ((xs.drop 8).take 8) = Y at HT2 bY ⊢
    generalize xs.getD 16 0 = D at hD hc16 ⊢
    have hv := rval13_ X Y D bx bY
    cases hvv : vdD X Y D
    · rw [hvv] at hv
      exact rgdecV_ b off c _ _ D hD.1 hD.2 w hc16 HT1 HT2 hv
    · rw [hvv] at hv
      exact rgdecY_ b off c _ _ D hD.1 hD.2 w hc16 HT1 HT2 hv
  · unfold gdX gdY gdD gdE gdOk
    rw [decide_eq_false h, Bool.false_and]
    exact rgdecN_ p _ c (by simp; omega) w
end B8
end Go.Proofs.Ytbcjhmdkpkmieaa
