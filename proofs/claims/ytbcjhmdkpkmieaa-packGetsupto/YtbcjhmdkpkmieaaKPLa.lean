import Derived.Test.YtbcjhmdkpkmieaaKDCd
import Derived.Test.YtbcjhmdkpkmieaaKPKw
namespace Go.Proofs.Ytbcjhmdkpkmieaa
open Go.RowKit
open Go
namespace B8
set_option linter.unusedVariables false
theorem eqIn8 (a c : Nat) (w : World) : (Op.equalIn 9998 23 (.float .f64 a) (.float .f64 c)).run Try.prog w = .ok (FloatKind.f64.format.order a c == some Ordering.eq) w := by kernel_rfl
set_option maxRecDepth 20000 in
set_option maxHeartbeats 1000000 in
theorem gdecN_ (p : Option Addr) (N c : Nat) (t : ((N : Int) != 17) = true) (w : World) : Calls Try.prog 27 #[.slice p N c] w fun e w' => e = .returned (.tuple #[.agg #[.float .f64 0, .float .f64 0, .int .i64 0], .int .i64 130]) ∧ Kp w w' := by
  go_enter Try.func27, Try.ntmps27
  go_wp2
  exact bodyPost_ret (v := .tuple #[.agg #[.float .f64 0, .float .f64 0, .int .i64 0], .int .i64 130]) (by simp [results, Try.results27, go_sem]) rfl ⟨rfl, (by repeat (with_reducible (first | assumption | exact Kp.refl _ | apply Kp.drew | apply Kp.alloc | apply Kp.drewN | (refine Kp.setCell ?_ (by first | omega | (simp <;> omega)) _) | (refine Kp.trans ?_ (by assumption)))))⟩
set_option maxRecDepth 20000 in
set_option maxHeartbeats 2000000 in
theorem gdecA_ (b off c X Y : Nat) (D : Int) (hD0 : 0 ≤ D) (hD1 : D < 256) (HC1 : ∀ w : World, Calls Try.prog 35 #[.slice (some ⟨b, off, none⟩) 17 c, .int .i64 0, .int .i64 16] w fun e w' => e = .returned (.slice (some ⟨b, off, none⟩) 16 16) ∧ w' = w) (w : World) (hcell : w.cell? ⟨b, off + 16, none⟩ = some (.int .u8 D)) (hg : ∀ W : World, Kp w W → Calls Try.prog 24 #[.slice (some ⟨b, off, none⟩) 16 16] W fun e w' => e = .returned (.tuple #[.agg #[.float .f64 X, .float .f64 Y], .int .i64 130]) ∧ Kp W w') (L H : Nat) (R : Int) (hr : ∀ w : World, Calls Try.prog 36 #[.agg #[.float .f64 X, .float .f64 Y, .int .i64 D]] w fun e w' => e = .returned (.agg #[.float .f64 L, .float .f64 H, .int .i64 R]) ∧ Kp w w') : Calls Try.prog 27 #[.slice (some ⟨b, off, none⟩) 17 c] w fun e w' => e = .returned (.tuple #[.agg #[.float .f64 0, .float .f64 0, .int .i64 0], .int .i64 130]) ∧ Kp w w' := by
  have hwD : IntKind.i64.wrap D = D := by rw [IntKind.wrap_i64]; omega
  go_enter Try.func27, Try.ntmps27
  go_upto_region 4 with (first | (go_at_call 35; refine (HC1 _).mono ?_; rintro e w' ⟨rfl, rfl⟩) | (go_at_call 24; refine (hg _ ?qk).mono ?_; (case qk => ((repeat (first | with_reducible exact Kp.refl _ | with_reducible refine Kp.drew ?_ | with_reducible refine Kp.alloc ?_ _)); done)); rintro e w1 ⟨rfl, g1⟩; have k1 : Kp w w1 := Kp.trans ((Kp.refl w).alloc _) g1; have sr := H3c.keep (H3c.new w (.float .f64 0) (.float .f64 0) (.int .i64 0) 31) g1))
  have s4 := Fq.H2.new w1 (.float .f64 X) (.float .f64 Y) 25
  replace sr := H3c.keep sr ((Kp.refl w1).alloc (.cells #[.float .f64 X, .float .f64 Y] 25))
  replace k1 := k1.alloc (.cells #[.float .f64 X, .float .f64 Y] 25)
  generalize w1.alloc (.cells #[.float .f64 X, .float .f64 Y] 25) = W at s4 sr k1 ⊢
  generalize w1.heap.size = B4 at s4 ⊢
  obtain ⟨y0, y1, y2, y3⟩ := id s4
  replace hcell := kkeep k1 hcell
  have hltb := cell_lt hcell
  have hlt4 := cell_lt y0
  clear g1 hg HC1
  go_cut [6] (fun s6 wx => ∃ g : Nat, s6 = .pointer (some ⟨g, 0, none⟩) ∧ H3c wx g (.float .f64 X) (.float .f64 Y) (.int .i64 D) ∧ Kp W wx)
  case first =>
    go_region_held3 (fun w' => w'.cell? ⟨b, off + 16, none⟩ = some (.int .u8 D) ∧ w'.cell? ⟨B4, 0, none⟩ = some (.float .f64 X) ∧ w'.cell? ⟨B4, 1, none⟩ = some (.float .f64 Y)) (first | (refine ⟨kkeep (W := W) ?_ hcell, kkeep (W := W) ?_ y0, kkeep (W := W) ?_ y1⟩ <;> ((repeat (first | with_reducible exact Kp.refl _ | with_reducible refine Kp.drew ?_ | with_reducible refine Kp.alloc ?_ _)); done)) | (refine ⟨?_, ?_, ?_⟩ <;> (refine ((World.cell?_setCell_far _ _ _ _ ?_).trans ((World.cell?_setCell_far _ _ _ _ ?_).trans ((World.cell?_setCell_far _ _ _ _ ?_).trans ?_))) <;> first | (simp; omega) | (refine kkeep (W := W) ?_ (by assumption); ((repeat (first | with_reducible exact Kp.refl _ | with_reducible refine Kp.drew ?_ | with_reducible refine Kp.alloc ?_ _)); done))))) (fail)
    all_goals go_wp2_with fail
    all_goals (
      go_meet
      refine ⟨_, rfl, ?_, ?_⟩
      · first | (with_reducible exact H3c.new W _ _ _ 31) | (unfold H3c; simp [go_sem]; done)
      · first | (with_reducible exact (Kp.refl W).alloc _) | (exact ((Kp.refl W).alloc _).drew) | (exact ((Kp.refl W).drew).alloc _) | (refine ((((Kp.drew (Kp.refl W)).alloc _).setCell ?_ _).setCell ?_ _).setCell ?_ _ <;> simp))
  case rest =>
  obtain ⟨g6, rfl, q6, gc⟩ := hcut
  replace sr := H3c.keep sr gc
  replace k1 := Kp.trans k1 gc
  obtain ⟨x0, x1, x2, x3, x4, x5⟩ := id q6
  clear s4 y0 y1 y2 y3 hcell hltb hlt4
  go_upto_region 5 with fail
  refine Fq.wp_region_grow (by kernel_rfl) (by kernel_rfl) (fun ι _ G hG hall => ?_)
  have cc0 : ∀ n, (G n).cell? ⟨g6, 0, none⟩ = some (.float .f64 X) := fun n => Fq.gkeep (hG n) x0
  have cc1 : ∀ n, (G n).cell? ⟨g6, 1, none⟩ = some (.float .f64 Y) := fun n => Fq.gkeep (hG n) x1
  have cc2 : ∀ n, (G n).cell? ⟨g6, 2, none⟩ = some (.int .i64 D) := fun n => Fq.gkeep (hG n) x2
  repeat (go_big_quiet_step (first | (go_at_call 36; exact (hr _).mono (fun e w' h => ⟨h.1, hall _ (Fq.gtrans (hG _) h.2)⟩))))
  refine wpQuiet_nil ?_
  rintro _ ⟨nq, rfl⟩
  have gq : Kp wc (G nq) := hG nq
  clear cc0 cc1 cc2 hall hG
  replace sr := H3c.keep sr gq
  replace q6 := H3c.keep q6 gq
  replace k1 := Kp.trans k1 gq
  clear x0 x1 x2 x3 x4 x5
  obtain ⟨x0, x1, x2, x3, x4, x5⟩ := id q6
  obtain ⟨r0, r1, r2, r3, r4, r5⟩ := id sr
  go_wp2
  exact bodyPost_ret (v := .tuple #[.agg #[.float .f64 0, .float .f64 0, .int .i64 0], .int .i64 130]) (by simp [results, Try.results27, go_sem, r0, r1, r2]) rfl ⟨rfl, (((k1.setCell (by simp) _).setCell (by simp) _).setCell (by simp) _)⟩
set_option maxRecDepth 20000 in
set_option maxHeartbeats 2000000 in
theorem gdecB_ (b off c X Y : Nat) (D : Int) (hD0 : 0 ≤ D) (hD1 : D < 256) (HC1 : ∀ w : World, Calls Try.prog 35 #[.slice (some ⟨b, off, none⟩) 17 c, .int .i64 0, .int .i64 16] w fun e w' => e = .returned (.slice (some ⟨b, off, none⟩) 16 16) ∧ w' = w) (w : World) (hcell : w.cell? ⟨b, off + 16, none⟩ = some (.int .u8 D)) (hg : ∀ W : World, Kp w W → Calls Try.prog 24 #[.slice (some ⟨b, off, none⟩) 16 16] W fun e w' => e = .returned (.tuple #[.agg #[.float .f64 X, .float .f64 Y], .int .i64 0]) ∧ Kp W w') (L H : Nat) (R : Int) (hr : ∀ w : World, Calls Try.prog 36 #[.agg #[.float .f64 X, .float .f64 Y, .int .i64 D]] w fun e w' => e = .returned (.agg #[.float .f64 L, .float .f64 H, .int .i64 R]) ∧ Kp w w') (E1 E2 E3 : Bool) (u1 : (FloatKind.f64.format.order X L == some Ordering.eq) = E1) (u2 : (FloatKind.f64.format.order Y H == some Ordering.eq) = E2) (t3 : (D == R) = E3) (u : ((E1 && E2) && E3) = false) : Calls Try.prog 27 #[.slice (some ⟨b, off, none⟩) 17 c] w fun e w' => e = .returned (.tuple #[.agg #[.float .f64 0, .float .f64 0, .int .i64 0], .int .i64 130]) ∧ Kp w w' := by
  have q1 := eqIn8 X L
  have q2 := eqIn8 Y H
  rw [u1] at q1
  rw [u2] at q2
  clear u1 u2
  cases E1 <;> cases E2 <;> cases E3
  case true.true.true => cases u
  all_goals first | (exact absurd u (by decide)) | (
    clear u
    have hwD : IntKind.i64.wrap D = D := by rw [IntKind.wrap_i64]; omega
    go_enter Try.func27, Try.ntmps27
    go_upto_region 4 with (first | (go_at_call 35; refine (HC1 _).mono ?_; rintro e w' ⟨rfl, rfl⟩) | (go_at_call 24; refine (hg _ ?qk).mono ?_; (case qk => ((repeat (first | with_reducible exact Kp.refl _ | with_reducible refine Kp.drew ?_ | with_reducible refine Kp.alloc ?_ _)); done)); rintro e w1 ⟨rfl, g1⟩; have k1 : Kp w w1 := Kp.trans ((Kp.refl w).alloc _) g1; have sr := H3c.keep (H3c.new w (.float .f64 0) (.float .f64 0) (.int .i64 0) 31) g1))
    have s4 := Fq.H2.new w1 (.float .f64 X) (.float .f64 Y) 25
    replace sr := H3c.keep sr ((Kp.refl w1).alloc (.cells #[.float .f64 X, .float .f64 Y] 25))
    replace k1 := k1.alloc (.cells #[.float .f64 X, .float .f64 Y] 25)
    generalize w1.alloc (.cells #[.float .f64 X, .float .f64 Y] 25) = W at s4 sr k1 ⊢
    generalize w1.heap.size = B4 at s4 ⊢
    obtain ⟨y0, y1, y2, y3⟩ := id s4
    replace hcell := kkeep k1 hcell
    have hltb := cell_lt hcell
    have hlt4 := cell_lt y0
    clear g1 hg HC1
    go_cut [6] (fun s6 wx => ∃ g : Nat, s6 = .pointer (some ⟨g, 0, none⟩) ∧ H3c wx g (.float .f64 X) (.float .f64 Y) (.int .i64 D) ∧ Kp W wx)
    case first =>
      go_region_held3 (fun w' => w'.cell? ⟨b, off + 16, none⟩ = some (.int .u8 D) ∧ w'.cell? ⟨B4, 0, none⟩ = some (.float .f64 X) ∧ w'.cell? ⟨B4, 1, none⟩ = some (.float .f64 Y)) (first | (refine ⟨kkeep (W := W) ?_ hcell, kkeep (W := W) ?_ y0, kkeep (W := W) ?_ y1⟩ <;> ((repeat (first | with_reducible exact Kp.refl _ | with_reducible refine Kp.drew ?_ | with_reducible refine Kp.alloc ?_ _)); done)) | (refine ⟨?_, ?_, ?_⟩ <;> (refine ((World.cell?_setCell_far _ _ _ _ ?_).trans ((World.cell?_setCell_far _ _ _ _ ?_).trans ((World.cell?_setCell_far _ _ _ _ ?_).trans ?_))) <;> first | (simp; omega) | (refine kkeep (W := W) ?_ (by assumption); ((repeat (first | with_reducible exact Kp.refl _ | with_reducible refine Kp.drew ?_ | with_reducible refine Kp.alloc ?_ _)); done))))) (fail)
      all_goals go_wp2_with fail
      all_goals (
        go_meet
        refine ⟨_, rfl, ?_, ?_⟩
        · first | (with_reducible exact H3c.new W _ _ _ 31) | (unfold H3c; simp [go_sem]; done)
        · first | (with_reducible exact (Kp.refl W).alloc _) | (exact ((Kp.refl W).alloc _).drew) | (exact ((Kp.refl W).drew).alloc _) | (refine ((((Kp.drew (Kp.refl W)).alloc _).setCell ?_ _).setCell ?_ _).setCell ?_ _ <;> simp))
    case rest =>
    obtain ⟨g6, rfl, q6, gc⟩ := hcut
    replace sr := H3c.keep sr gc
    replace k1 := Kp.trans k1 gc
    obtain ⟨x0, x1, x2, x3, x4, x5⟩ := id q6
    clear s4 y0 y1 y2 y3 hcell hltb hlt4
    go_upto_region 5 with fail
    refine Fq.wp_region_grow (by kernel_rfl) (by kernel_rfl) (fun ι _ G hG hall => ?_)
    have cc0 : ∀ n, (G n).cell? ⟨g6, 0, none⟩ = some (.float .f64 X) := fun n => Fq.gkeep (hG n) x0
    have cc1 : ∀ n, (G n).cell? ⟨g6, 1, none⟩ = some (.float .f64 Y) := fun n => Fq.gkeep (hG n) x1
    have cc2 : ∀ n, (G n).cell? ⟨g6, 2, none⟩ = some (.int .i64 D) := fun n => Fq.gkeep (hG n) x2
    repeat (go_big_quiet_step (first | (go_at_call 36; exact (hr _).mono (fun e w' h => ⟨h.1, hall _ (Fq.gtrans (hG _) h.2)⟩))))
    refine wpQuiet_nil ?_
    rintro _ ⟨nq, rfl⟩
    have gq : Kp wc (G nq) := hG nq
    clear cc0 cc1 cc2 hall hG
    replace sr := H3c.keep sr gq
    replace q6 := H3c.keep q6 gq
    replace k1 := Kp.trans k1 gq
    clear x0 x1 x2 x3 x4 x5
    obtain ⟨x0, x1, x2, x3, x4, x5⟩ := id q6
    obtain ⟨r0, r1, r2, r3, r4, r5⟩ := id sr
    go_wp2
    exact bodyPost_ret (v := .tuple #[.agg #[.float .f64 0, .float .f64 0, .int .i64 0], .int .i64 130]) (by simp [results, Try.results27, go_sem, r0, r1, r2]) rfl ⟨rfl, (((k1.setCell (by simp) _).setCell (by simp) _).setCell (by simp) _)⟩)
set_option maxRecDepth 20000 in
set_option maxHeartbeats 2000000 in
theorem gdecC_ (b off c X Y : Nat) (D : Int) (hD0 : 0 ≤ D) (hD1 : D < 256) (HC1 : ∀ w : World, Calls Try.prog 35 #[.slice (some ⟨b, off, none⟩) 17 c, .int .i64 0, .int .i64 16] w fun e w' => e = .returned (.slice (some ⟨b, off, none⟩) 16 16) ∧ w' = w) (w : World) (hcell : w.cell? ⟨b, off + 16, none⟩ = some (.int .u8 D)) (hg : ∀ W : World, Kp w W → Calls Try.prog 24 #[.slice (some ⟨b, off, none⟩) 16 16] W fun e w' => e = .returned (.tuple #[.agg #[.float .f64 X, .float .f64 Y], .int .i64 0]) ∧ Kp W w') (L H : Nat) (R : Int) (hr : ∀ w : World, Calls Try.prog 36 #[.agg #[.float .f64 X, .float .f64 Y, .int .i64 D]] w fun e w' => e = .returned (.agg #[.float .f64 L, .float .f64 H, .int .i64 R]) ∧ Kp w w') (E1 E2 E3 : Bool) (u1 : (FloatKind.f64.format.order X L == some Ordering.eq) = E1) (u2 : (FloatKind.f64.format.order Y H == some Ordering.eq) = E2) (t3 : (D == R) = E3) (u : ((E1 && E2) && E3) = true) : Calls Try.prog 27 #[.slice (some ⟨b, off, none⟩) 17 c] w fun e w' => e = .returned (.tuple #[.agg #[.float .f64 X, .float .f64 Y, .int .i64 D], .int .i64 0]) ∧ Kp w w' := by
  have q1 := eqIn8 X L
  have q2 := eqIn8 Y H
  rw [u1] at q1
  rw [u2] at q2
  clear u1 u2
  cases E1 <;> cases E2 <;> cases E3

  all_goals first | (exact absurd u (by decide)) | (
    clear u
    have hwD : IntKind.i64.wrap D = D := by rw [IntKind.wrap_i64]; omega
    go_enter Try.func27, Try.ntmps27
    go_upto_region 4 with (first | (go_at_call 35; refine (HC1 _).mono ?_; rintro e w' ⟨rfl, rfl⟩) | (go_at_call 24; refine (hg _ ?qk).mono ?_; (case qk => ((repeat (first | with_reducible exact Kp.refl _ | with_reducible refine Kp.drew ?_ | with_reducible refine Kp.alloc ?_ _)); done)); rintro e w1 ⟨rfl, g1⟩; have k1 : Kp w w1 := Kp.trans ((Kp.refl w).alloc _) g1; have sr := H3c.keep (H3c.new w (.float .f64 0) (.float .f64 0) (.int .i64 0) 31) g1))
    have s4 := Fq.H2.new w1 (.float .f64 X) (.float .f64 Y) 25
    replace sr := H3c.keep sr ((Kp.refl w1).alloc (.cells #[.float .f64 X, .float .f64 Y] 25))
    replace k1 := k1.alloc (.cells #[.float .f64 X, .float .f64 Y] 25)
    generalize w1.alloc (.cells #[.float .f64 X, .float .f64 Y] 25) = W at s4 sr k1 ⊢
    generalize w1.heap.size = B4 at s4 ⊢
    obtain ⟨y0, y1, y2, y3⟩ := id s4
    replace hcell := kkeep k1 hcell
    have hltb := cell_lt hcell
    have hlt4 := cell_lt y0
    clear g1 hg HC1
    go_cut [6] (fun s6 wx => ∃ g : Nat, s6 = .pointer (some ⟨g, 0, none⟩) ∧ H3c wx g (.float .f64 X) (.float .f64 Y) (.int .i64 D) ∧ Kp W wx)
    case first =>
      go_region_held3 (fun w' => w'.cell? ⟨b, off + 16, none⟩ = some (.int .u8 D) ∧ w'.cell? ⟨B4, 0, none⟩ = some (.float .f64 X) ∧ w'.cell? ⟨B4, 1, none⟩ = some (.float .f64 Y)) (first | (refine ⟨kkeep (W := W) ?_ hcell, kkeep (W := W) ?_ y0, kkeep (W := W) ?_ y1⟩ <;> ((repeat (first | with_reducible exact Kp.refl _ | with_reducible refine Kp.drew ?_ | with_reducible refine Kp.alloc ?_ _)); done)) | (refine ⟨?_, ?_, ?_⟩ <;> (refine ((World.cell?_setCell_far _ _ _ _ ?_).trans ((World.cell?_setCell_far _ _ _ _ ?_).trans ((World.cell?_setCell_far _ _ _ _ ?_).trans ?_))) <;> first | (simp; omega) | (refine kkeep (W := W) ?_ (by assumption); ((repeat (first | with_reducible exact Kp.refl _ | with_reducible refine Kp.drew ?_ | with_reducible refine Kp.alloc ?_ _)); done))))) (fail)
      all_goals go_wp2_with fail
      all_goals (
        go_meet
        refine ⟨_, rfl, ?_, ?_⟩
        · first | (with_reducible exact H3c.new W _ _ _ 31) | (unfold H3c; simp [go_sem]; done)
        · first | (with_reducible exact (Kp.refl W).alloc _) | (exact ((Kp.refl W).alloc _).drew) | (exact ((Kp.refl W).drew).alloc _) | (refine ((((Kp.drew (Kp.refl W)).alloc _).setCell ?_ _).setCell ?_ _).setCell ?_ _ <;> simp))
    case rest =>
    obtain ⟨g6, rfl, q6, gc⟩ := hcut
    replace sr := H3c.keep sr gc
    replace k1 := Kp.trans k1 gc
    obtain ⟨x0, x1, x2, x3, x4, x5⟩ := id q6
    clear s4 y0 y1 y2 y3 hcell hltb hlt4
    go_upto_region 5 with fail
    refine Fq.wp_region_grow (by kernel_rfl) (by kernel_rfl) (fun ι _ G hG hall => ?_)
    have cc0 : ∀ n, (G n).cell? ⟨g6, 0, none⟩ = some (.float .f64 X) := fun n => Fq.gkeep (hG n) x0
    have cc1 : ∀ n, (G n).cell? ⟨g6, 1, none⟩ = some (.float .f64 Y) := fun n => Fq.gkeep (hG n) x1
    have cc2 : ∀ n, (G n).cell? ⟨g6, 2, none⟩ = some (.int .i64 D) := fun n => Fq.gkeep (hG n) x2
    repeat (go_big_quiet_step (first | (go_at_call 36; exact (hr _).mono (fun e w' h => ⟨h.1, hall _ (Fq.gtrans (hG _) h.2)⟩))))
    refine wpQuiet_nil ?_
    rintro _ ⟨nq, rfl⟩
    have gq : Kp wc (G nq) := hG nq
    clear cc0 cc1 cc2 hall hG
    replace sr := H3c.keep sr gq
    replace q6 := H3c.keep q6 gq
    replace k1 := Kp.trans k1 gq
    clear x0 x1 x2 x3 x4 x5
    obtain ⟨x0, x1, x2, x3, x4, x5⟩ := id q6
    obtain ⟨r0, r1, r2, r3, r4, r5⟩ := id sr
    go_wp2
    exact bodyPost_ret (v := .tuple #[.agg #[.float .f64 X, .float .f64 Y, .int .i64 D], .int .i64 0]) (by simp [results, Try.results27, go_sem, r0, r1, r2]) rfl ⟨rfl, (((k1.setCell (by simp) _).setCell (by simp) _).setCell (by simp) _)⟩)
end B8
end Go.Proofs.Ytbcjhmdkpkmieaa
