import Derived.Test.YtinohggonicjhaaGreatDoorKEGs
import Derived.Deep.CutRange
namespace Go.Proofs.YtinohggonicjhaaGreatDoor
open Go.RowKit

def H48 (w : World) (B : Nat) (a b c d : Value) : Prop := Fq.H2 w B a b ∧ Fq.H2 w (B + 1) c d
theorem H48.keep {W w : World} {B : Nat} {a b c d : Value} (h : H48 W B a b c d) (g : Kp W w) : H48 w B a b c d := ⟨Fq.H2.keep h.1 g, Fq.H2.keep h.2 g⟩
theorem H48.new (w : World) (a b c d : Value) (s t : TypeId) : H48 ((w.alloc (.cells #[a, b] s)).alloc (.cells #[c, d] t)) w.heap.size a b c d := by
  refine ⟨?_, ?_⟩ <;> (unfold Fq.H2; simp [go_sem])
theorem H48.put {w : World} {B : Nat} {a b c d : Value} (h : H48 w B a b c d) (a' b' c' d' : Value) : H48 ((((w.setCell ⟨B, 0, none⟩ a').setCell ⟨B, 1, none⟩ b').setCell ⟨B + 1, 0, none⟩ c').setCell ⟨B + 1, 1, none⟩ d') B a' b' c' d' := by
  refine ⟨?_, ?_⟩
  · exact Fq.H2.far (Fq.H2.put h.1 a' b') (by omega) c' d'
  · exact Fq.H2.put (Fq.H2.far h.2 (by omega) a' b') c' d'
set_option linter.unusedVariables false
set_option maxRecDepth 20000 in
set_option maxHeartbeats 1000000 in
theorem lsF1_ (a b c d Z1 Z2 Z : Nat) (bp : Nat) (A1 B1 C1 D1 : Bool) (tA1 : (FloatKind.f64.format.order a 0 == some Ordering.lt) = A1) (tB1 : (FloatKind.f64.format.order b 0 == some Ordering.gt) = B1) (tC1 : (FloatKind.f64.format.order c 0 == some Ordering.lt) = C1) (tD1 : (FloatKind.f64.format.order d 0 == some Ordering.gt) = D1) (q : (A1 && B1 && C1 && D1) = true) (w : World) (PL : Nat → Nat → Nat → Prop) (hL : ∀ x y z, PL x y z → ∀ W : World, Kp w W → Calls Tryz.prog 49 #[.float .f64 x, .float .f64 y, .pointer (some ⟨bp, 0, none⟩)] W fun e w' => e = .returned (.float .f64 z) ∧ Kp W w') (f1 : PL b c Z1) (f2 : PL a d Z2) (hm : ∀ (ts : Array TypeId) (t : TypeId) (w : World), (Builtin.min_ ts t #[.float .f64 Z1, .float .f64 Z2]).run Tryz.prog w = .ok (.float .f64 Z) w) : Calls Tryz.prog 38 #[.agg #[.float .f64 a, .float .f64 b], .agg #[.float .f64 c, .float .f64 d], .func (.func 49) #[] #[.pointer (some ⟨bp, 0, none⟩)]] w fun e w' => e = .returned (.float .f64 Z) ∧ Kp w w' := by
  go_enter Tryz.func38, Tryz.ntmps38
  go_upto_region 2 with (first | (go_at_call 32; refine (Fq.inf1_ _).mono ?_; rintro e w1 ⟨rfl, g1⟩; have kw : Kp w w1 := (by rw [g1]; exact (((Kp.refl w).alloc _).alloc _)); have sw : H48 w1 w.heap.size (.float .f64 a) (.float .f64 b) (.float .f64 c) (.float .f64 d) := (by rw [g1]; exact H48.new w (.float .f64 a) (.float .f64 b) (.float .f64 c) (.float .f64 d) 28 28); clear g1; obtain ⟨⟨p0, p1, p2, p3⟩, ⟨p4, p5, p6, p7⟩⟩ := id sw))
  go_cut [9] (fun s9 wx => s9 = .bool true ∧ wx = w1)
  case first =>
    cases A1 <;> cases B1 <;> cases C1 <;> cases D1 <;> first | (exfalso; revert q; decide) | skip
    all_goals (
      go_wp2_with fail
      go_meet
      exact ⟨rfl, rfl⟩)
  case rest =>
  obtain ⟨rfl, hwc⟩ := hcut
  replace kw : Kp w wc := (by rw [hwc]; exact kw)
  replace sw := (show H48 wc w.heap.size (.float .f64 a) (.float .f64 b) (.float .f64 c) (.float .f64 d) by rw [hwc]; exact sw)
  clear hwc
  generalize wc = w1 at kw sw ⊢
  obtain ⟨⟨p0, p1, p2, p3⟩, ⟨p4, p5, p6, p7⟩⟩ := id sw
  go_wp2_with (first | (go_at_call 49; refine (hL _ _ _ (by with_reducible first | exact f1 | exact f2) _ kw).mono ?_; rintro e wx ⟨rfl, gx⟩; replace kw := Kp.trans kw gx; replace sw := H48.keep sw gx; clear gx; obtain ⟨⟨p0, p1, p2, p3⟩, ⟨p4, p5, p6, p7⟩⟩ := id sw))
  exact bodyPost_ret (v := .float .f64 Z) (by simp [results, Tryz.results38, go_sem]) rfl ⟨rfl, kw⟩
set_option maxRecDepth 20000 in
set_option maxHeartbeats 1000000 in
theorem lsF2_ (a b c d Z2 Z : Nat) (bp : Nat) (A1 B1 C1 D1 : Bool) (tA1 : (FloatKind.f64.format.order a 0 == some Ordering.lt) = A1) (tB1 : (FloatKind.f64.format.order b 0 == some Ordering.gt) = B1) (tC1 : (FloatKind.f64.format.order c 0 == some Ordering.lt) = C1) (tD1 : (FloatKind.f64.format.order d 0 == some Ordering.gt) = D1) (q : (A1 && B1 && C1 && D1) = false) (q2 : (A1 && D1) = true) (w : World) (PL : Nat → Nat → Nat → Prop) (hL : ∀ x y z, PL x y z → ∀ W : World, Kp w W → Calls Tryz.prog 49 #[.float .f64 x, .float .f64 y, .pointer (some ⟨bp, 0, none⟩)] W fun e w' => e = .returned (.float .f64 z) ∧ Kp W w') (f1 : PL a d Z2) (f2 : True) (hm : ∀ (ts : Array TypeId) (t : TypeId) (w : World), (Builtin.min_ ts t #[.float .f64 9218868437227405312, .float .f64 Z2]).run Tryz.prog w = .ok (.float .f64 Z) w) : Calls Tryz.prog 38 #[.agg #[.float .f64 a, .float .f64 b], .agg #[.float .f64 c, .float .f64 d], .func (.func 49) #[] #[.pointer (some ⟨bp, 0, none⟩)]] w fun e w' => e = .returned (.float .f64 Z) ∧ Kp w w' := by
  go_enter Tryz.func38, Tryz.ntmps38
  go_upto_region 2 with (first | (go_at_call 32; refine (Fq.inf1_ _).mono ?_; rintro e w1 ⟨rfl, g1⟩; have kw : Kp w w1 := (by rw [g1]; exact (((Kp.refl w).alloc _).alloc _)); have sw : H48 w1 w.heap.size (.float .f64 a) (.float .f64 b) (.float .f64 c) (.float .f64 d) := (by rw [g1]; exact H48.new w (.float .f64 a) (.float .f64 b) (.float .f64 c) (.float .f64 d) 28 28); clear g1; obtain ⟨⟨p0, p1, p2, p3⟩, ⟨p4, p5, p6, p7⟩⟩ := id sw))
  go_cut [9] (fun s9 wx => s9 = .bool false ∧ wx = w1)
  case first =>
    cases A1 <;> cases B1 <;> cases C1 <;> cases D1 <;> first | (exfalso; revert q; decide) | skip
    all_goals (
      go_wp2_with fail
      go_meet
      exact ⟨rfl, rfl⟩)
  case rest =>
  obtain ⟨rfl, hwc⟩ := hcut
  replace kw : Kp w wc := (by rw [hwc]; exact kw)
  replace sw := (show H48 wc w.heap.size (.float .f64 a) (.float .f64 b) (.float .f64 c) (.float .f64 d) by rw [hwc]; exact sw)
  clear hwc
  generalize wc = w1 at kw sw ⊢
  obtain ⟨⟨p0, p1, p2, p3⟩, ⟨p4, p5, p6, p7⟩⟩ := id sw
  go_upto_region 3 with (first | fail)
  go_cut [28] (fun s28 wx => s28 = .bool true ∧ wx = w1)
  case first =>
    cases A1 <;> cases D1 <;> first | (exfalso; revert q2; decide) | skip
    all_goals (
      go_wp2_with fail
      go_meet
      exact ⟨rfl, rfl⟩)
  case rest =>
  obtain ⟨rfl, hwc⟩ := hcut
  replace kw : Kp w wc := (by rw [hwc]; exact kw)
  replace sw := (show H48 wc w.heap.size (.float .f64 a) (.float .f64 b) (.float .f64 c) (.float .f64 d) by rw [hwc]; exact sw)
  clear hwc
  generalize wc = w1 at kw sw ⊢
  obtain ⟨⟨p0, p1, p2, p3⟩, ⟨p4, p5, p6, p7⟩⟩ := id sw
  go_wp2_with (first | (go_at_call 49; refine (hL _ _ _ (by with_reducible first | exact f1 | exact f2) _ kw).mono ?_; rintro e wx ⟨rfl, gx⟩; replace kw := Kp.trans kw gx; replace sw := H48.keep sw gx; clear gx; obtain ⟨⟨p0, p1, p2, p3⟩, ⟨p4, p5, p6, p7⟩⟩ := id sw))
  exact bodyPost_ret (v := .float .f64 Z) (by simp [results, Tryz.results38, go_sem]) rfl ⟨rfl, kw⟩
set_option maxRecDepth 20000 in
set_option maxHeartbeats 1000000 in
theorem lsF3_ (a b c d Z : Nat) (bp : Nat) (A1 B1 C1 D1 : Bool) (tA1 : (FloatKind.f64.format.order a 0 == some Ordering.lt) = A1) (tB1 : (FloatKind.f64.format.order b 0 == some Ordering.gt) = B1) (tC1 : (FloatKind.f64.format.order c 0 == some Ordering.lt) = C1) (tD1 : (FloatKind.f64.format.order d 0 == some Ordering.gt) = D1) (q : (A1 && B1 && C1 && D1) = false) (q2 : (A1 && D1) = false) (q3 : (B1 && C1) = true) (w : World) (PL : Nat → Nat → Nat → Prop) (hL : ∀ x y z, PL x y z → ∀ W : World, Kp w W → Calls Tryz.prog 49 #[.float .f64 x, .float .f64 y, .pointer (some ⟨bp, 0, none⟩)] W fun e w' => e = .returned (.float .f64 z) ∧ Kp W w') (f1 : PL b c Z) (f2 : True) : Calls Tryz.prog 38 #[.agg #[.float .f64 a, .float .f64 b], .agg #[.float .f64 c, .float .f64 d], .func (.func 49) #[] #[.pointer (some ⟨bp, 0, none⟩)]] w fun e w' => e = .returned (.float .f64 Z) ∧ Kp w w' := by
  go_enter Tryz.func38, Tryz.ntmps38
  go_upto_region 2 with (first | (go_at_call 32; refine (Fq.inf1_ _).mono ?_; rintro e w1 ⟨rfl, g1⟩; have kw : Kp w w1 := (by rw [g1]; exact (((Kp.refl w).alloc _).alloc _)); have sw : H48 w1 w.heap.size (.float .f64 a) (.float .f64 b) (.float .f64 c) (.float .f64 d) := (by rw [g1]; exact H48.new w (.float .f64 a) (.float .f64 b) (.float .f64 c) (.float .f64 d) 28 28); clear g1; obtain ⟨⟨p0, p1, p2, p3⟩, ⟨p4, p5, p6, p7⟩⟩ := id sw))
  go_cut [9] (fun s9 wx => s9 = .bool false ∧ wx = w1)
  case first =>
    cases A1 <;> cases B1 <;> cases C1 <;> cases D1 <;> first | (exfalso; revert q; decide) | skip
    all_goals (
      go_wp2_with fail
      go_meet
      exact ⟨rfl, rfl⟩)
  case rest =>
  obtain ⟨rfl, hwc⟩ := hcut
  replace kw : Kp w wc := (by rw [hwc]; exact kw)
  replace sw := (show H48 wc w.heap.size (.float .f64 a) (.float .f64 b) (.float .f64 c) (.float .f64 d) by rw [hwc]; exact sw)
  clear hwc
  generalize wc = w1 at kw sw ⊢
  obtain ⟨⟨p0, p1, p2, p3⟩, ⟨p4, p5, p6, p7⟩⟩ := id sw
  go_upto_region 3 with (first | fail)
  go_cut [28] (fun s28 wx => s28 = .bool false ∧ wx = w1)
  case first =>
    cases A1 <;> cases D1 <;> first | (exfalso; revert q2; decide) | skip
    all_goals (
      go_wp2_with fail
      go_meet
      exact ⟨rfl, rfl⟩)
  case rest =>
  obtain ⟨rfl, hwc⟩ := hcut
  replace kw : Kp w wc := (by rw [hwc]; exact kw)
  replace sw := (show H48 wc w.heap.size (.float .f64 a) (.float .f64 b) (.float .f64 c) (.float .f64 d) by rw [hwc]; exact sw)
  clear hwc
  generalize wc = w1 at kw sw ⊢
  obtain ⟨⟨p0, p1, p2, p3⟩, ⟨p4, p5, p6, p7⟩⟩ := id sw
  go_upto_region 4 with (first | fail)
  go_cut [37] (fun s37 wx => s37 = .bool true ∧ wx = w1)
  case first =>
    cases B1 <;> cases C1 <;> first | (exfalso; revert q3; decide) | skip
    all_goals (
      go_wp2_with fail
      go_meet
      exact ⟨rfl, rfl⟩)
  case rest =>
  obtain ⟨rfl, hwc⟩ := hcut
  replace kw : Kp w wc := (by rw [hwc]; exact kw)
  replace sw := (show H48 wc w.heap.size (.float .f64 a) (.float .f64 b) (.float .f64 c) (.float .f64 d) by rw [hwc]; exact sw)
  clear hwc
  generalize wc = w1 at kw sw ⊢
  obtain ⟨⟨p0, p1, p2, p3⟩, ⟨p4, p5, p6, p7⟩⟩ := id sw
  go_wp2_with (first | (go_at_call 49; refine (hL _ _ _ (by with_reducible first | exact f1 | exact f2) _ kw).mono ?_; rintro e wx ⟨rfl, gx⟩; replace kw := Kp.trans kw gx; replace sw := H48.keep sw gx; clear gx; obtain ⟨⟨p0, p1, p2, p3⟩, ⟨p4, p5, p6, p7⟩⟩ := id sw))
  exact bodyPost_ret (v := .float .f64 Z) (by simp [results, Tryz.results38, go_sem]) rfl ⟨rfl, kw⟩
set_option maxRecDepth 20000 in
set_option maxHeartbeats 1000000 in
theorem lsF4_ (a b c d Z : Nat) (bp : Nat) (A1 B1 C1 D1 B2 D2 : Bool) (tA1 : (FloatKind.f64.format.order a 0 == some Ordering.lt) = A1) (tB1 : (FloatKind.f64.format.order b 0 == some Ordering.gt) = B1) (tC1 : (FloatKind.f64.format.order c 0 == some Ordering.lt) = C1) (tD1 : (FloatKind.f64.format.order d 0 == some Ordering.gt) = D1) (tB2 : (FloatKind.f64.format.order b 0 == some Ordering.lt || FloatKind.f64.format.order b 0 == some Ordering.eq) = B2) (tD2 : (FloatKind.f64.format.order d 0 == some Ordering.lt || FloatKind.f64.format.order d 0 == some Ordering.eq) = D2) (q : (A1 && B1 && C1 && D1) = false) (q2 : (A1 && D1) = false) (q3 : (B1 && C1) = false) (q4 : (B2 && D2) = true) (w : World) (PL : Nat → Nat → Nat → Prop) (hL : ∀ x y z, PL x y z → ∀ W : World, Kp w W → Calls Tryz.prog 49 #[.float .f64 x, .float .f64 y, .pointer (some ⟨bp, 0, none⟩)] W fun e w' => e = .returned (.float .f64 z) ∧ Kp W w') (f1 : PL b d Z) (f2 : True) : Calls Tryz.prog 38 #[.agg #[.float .f64 a, .float .f64 b], .agg #[.float .f64 c, .float .f64 d], .func (.func 49) #[] #[.pointer (some ⟨bp, 0, none⟩)]] w fun e w' => e = .returned (.float .f64 Z) ∧ Kp w w' := by
  go_enter Tryz.func38, Tryz.ntmps38
  go_upto_region 2 with (first | (go_at_call 32; refine (Fq.inf1_ _).mono ?_; rintro e w1 ⟨rfl, g1⟩; have kw : Kp w w1 := (by rw [g1]; exact (((Kp.refl w).alloc _).alloc _)); have sw : H48 w1 w.heap.size (.float .f64 a) (.float .f64 b) (.float .f64 c) (.float .f64 d) := (by rw [g1]; exact H48.new w (.float .f64 a) (.float .f64 b) (.float .f64 c) (.float .f64 d) 28 28); clear g1; obtain ⟨⟨p0, p1, p2, p3⟩, ⟨p4, p5, p6, p7⟩⟩ := id sw))
  go_cut [9] (fun s9 wx => s9 = .bool false ∧ wx = w1)
  case first =>
    cases A1 <;> cases B1 <;> cases C1 <;> cases D1 <;> first | (exfalso; revert q; decide) | skip
    all_goals (
      go_wp2_with fail
      go_meet
      exact ⟨rfl, rfl⟩)
  case rest =>
  obtain ⟨rfl, hwc⟩ := hcut
  replace kw : Kp w wc := (by rw [hwc]; exact kw)
  replace sw := (show H48 wc w.heap.size (.float .f64 a) (.float .f64 b) (.float .f64 c) (.float .f64 d) by rw [hwc]; exact sw)
  clear hwc
  generalize wc = w1 at kw sw ⊢
  obtain ⟨⟨p0, p1, p2, p3⟩, ⟨p4, p5, p6, p7⟩⟩ := id sw
  go_upto_region 3 with (first | fail)
  go_cut [28] (fun s28 wx => s28 = .bool false ∧ wx = w1)
  case first =>
    cases A1 <;> cases D1 <;> first | (exfalso; revert q2; decide) | skip
    all_goals (
      go_wp2_with fail
      go_meet
      exact ⟨rfl, rfl⟩)
  case rest =>
  obtain ⟨rfl, hwc⟩ := hcut
  replace kw : Kp w wc := (by rw [hwc]; exact kw)
  replace sw := (show H48 wc w.heap.size (.float .f64 a) (.float .f64 b) (.float .f64 c) (.float .f64 d) by rw [hwc]; exact sw)
  clear hwc
  generalize wc = w1 at kw sw ⊢
  obtain ⟨⟨p0, p1, p2, p3⟩, ⟨p4, p5, p6, p7⟩⟩ := id sw
  go_upto_region 4 with (first | fail)
  go_cut [37] (fun s37 wx => s37 = .bool false ∧ wx = w1)
  case first =>
    cases B1 <;> cases C1 <;> first | (exfalso; revert q3; decide) | skip
    all_goals (
      go_wp2_with fail
      go_meet
      exact ⟨rfl, rfl⟩)
  case rest =>
  obtain ⟨rfl, hwc⟩ := hcut
  replace kw : Kp w wc := (by rw [hwc]; exact kw)
  replace sw := (show H48 wc w.heap.size (.float .f64 a) (.float .f64 b) (.float .f64 c) (.float .f64 d) by rw [hwc]; exact sw)
  clear hwc
  generalize wc = w1 at kw sw ⊢
  obtain ⟨⟨p0, p1, p2, p3⟩, ⟨p4, p5, p6, p7⟩⟩ := id sw
  go_upto_region 5 with (first | fail)
  go_cut [46] (fun s46 wx => s46 = .bool true ∧ wx = w1)
  case first =>
    cases B2 <;> cases D2 <;> first | (exfalso; revert q4; decide) | skip
    all_goals (
      go_wp2_with fail
      go_meet
      exact ⟨rfl, rfl⟩)
  case rest =>
  obtain ⟨rfl, hwc⟩ := hcut
  replace kw : Kp w wc := (by rw [hwc]; exact kw)
  replace sw := (show H48 wc w.heap.size (.float .f64 a) (.float .f64 b) (.float .f64 c) (.float .f64 d) by rw [hwc]; exact sw)
  clear hwc
  generalize wc = w1 at kw sw ⊢
  obtain ⟨⟨p0, p1, p2, p3⟩, ⟨p4, p5, p6, p7⟩⟩ := id sw
  go_wp2_with (first | (go_at_call 49; refine (hL _ _ _ (by with_reducible first | exact f1 | exact f2) _ kw).mono ?_; rintro e wx ⟨rfl, gx⟩; replace kw := Kp.trans kw gx; replace sw := H48.keep sw gx; clear gx; obtain ⟨⟨p0, p1, p2, p3⟩, ⟨p4, p5, p6, p7⟩⟩ := id sw))
  exact bodyPost_ret (v := .float .f64 Z) (by simp [results, Tryz.results38, go_sem]) rfl ⟨rfl, kw⟩
set_option maxRecDepth 20000 in
set_option maxHeartbeats 1000000 in
theorem lsF5_ (a b c d Z : Nat) (bp : Nat) (A1 B1 C1 D1 B2 D2 : Bool) (tA1 : (FloatKind.f64.format.order a 0 == some Ordering.lt) = A1) (tB1 : (FloatKind.f64.format.order b 0 == some Ordering.gt) = B1) (tC1 : (FloatKind.f64.format.order c 0 == some Ordering.lt) = C1) (tD1 : (FloatKind.f64.format.order d 0 == some Ordering.gt) = D1) (tB2 : (FloatKind.f64.format.order b 0 == some Ordering.lt || FloatKind.f64.format.order b 0 == some Ordering.eq) = B2) (tD2 : (FloatKind.f64.format.order d 0 == some Ordering.lt || FloatKind.f64.format.order d 0 == some Ordering.eq) = D2) (q : (A1 && B1 && C1 && D1) = false) (q2 : (A1 && D1) = false) (q3 : (B1 && C1) = false) (q4 : (B2 && D2) = false) (w : World) (PL : Nat → Nat → Nat → Prop) (hL : ∀ x y z, PL x y z → ∀ W : World, Kp w W → Calls Tryz.prog 49 #[.float .f64 x, .float .f64 y, .pointer (some ⟨bp, 0, none⟩)] W fun e w' => e = .returned (.float .f64 z) ∧ Kp W w') (f1 : PL a c Z) (f2 : True) : Calls Tryz.prog 38 #[.agg #[.float .f64 a, .float .f64 b], .agg #[.float .f64 c, .float .f64 d], .func (.func 49) #[] #[.pointer (some ⟨bp, 0, none⟩)]] w fun e w' => e = .returned (.float .f64 Z) ∧ Kp w w' := by
  go_enter Tryz.func38, Tryz.ntmps38
  go_upto_region 2 with (first | (go_at_call 32; refine (Fq.inf1_ _).mono ?_; rintro e w1 ⟨rfl, g1⟩; have kw : Kp w w1 := (by rw [g1]; exact (((Kp.refl w).alloc _).alloc _)); have sw : H48 w1 w.heap.size (.float .f64 a) (.float .f64 b) (.float .f64 c) (.float .f64 d) := (by rw [g1]; exact H48.new w (.float .f64 a) (.float .f64 b) (.float .f64 c) (.float .f64 d) 28 28); clear g1; obtain ⟨⟨p0, p1, p2, p3⟩, ⟨p4, p5, p6, p7⟩⟩ := id sw))
  go_cut [9] (fun s9 wx => s9 = .bool false ∧ wx = w1)
  case first =>
    cases A1 <;> cases B1 <;> cases C1 <;> cases D1 <;> first | (exfalso; revert q; decide) | skip
    all_goals (
      go_wp2_with fail
      go_meet
      exact ⟨rfl, rfl⟩)
  case rest =>
  obtain ⟨rfl, hwc⟩ := hcut
  replace kw : Kp w wc := (by rw [hwc]; exact kw)
  replace sw := (show H48 wc w.heap.size (.float .f64 a) (.float .f64 b) (.float .f64 c) (.float .f64 d) by rw [hwc]; exact sw)
  clear hwc
  generalize wc = w1 at kw sw ⊢
  obtain ⟨⟨p0, p1, p2, p3⟩, ⟨p4, p5, p6, p7⟩⟩ := id sw
  go_upto_region 3 with (first | fail)
  go_cut [28] (fun s28 wx => s28 = .bool false ∧ wx = w1)
  case first =>
    cases A1 <;> cases D1 <;> first | (exfalso; revert q2; decide) | skip
    all_goals (
      go_wp2_with fail
      go_meet
      exact ⟨rfl, rfl⟩)
  case rest =>
  obtain ⟨rfl, hwc⟩ := hcut
  replace kw : Kp w wc := (by rw [hwc]; exact kw)
  replace sw := (show H48 wc w.heap.size (.float .f64 a) (.float .f64 b) (.float .f64 c) (.float .f64 d) by rw [hwc]; exact sw)
  clear hwc
  generalize wc = w1 at kw sw ⊢
  obtain ⟨⟨p0, p1, p2, p3⟩, ⟨p4, p5, p6, p7⟩⟩ := id sw
  go_upto_region 4 with (first | fail)
  go_cut [37] (fun s37 wx => s37 = .bool false ∧ wx = w1)
  case first =>
    cases B1 <;> cases C1 <;> first | (exfalso; revert q3; decide) | skip
    all_goals (
      go_wp2_with fail
      go_meet
      exact ⟨rfl, rfl⟩)
  case rest =>
  obtain ⟨rfl, hwc⟩ := hcut
  replace kw : Kp w wc := (by rw [hwc]; exact kw)
  replace sw := (show H48 wc w.heap.size (.float .f64 a) (.float .f64 b) (.float .f64 c) (.float .f64 d) by rw [hwc]; exact sw)
  clear hwc
  generalize wc = w1 at kw sw ⊢
  obtain ⟨⟨p0, p1, p2, p3⟩, ⟨p4, p5, p6, p7⟩⟩ := id sw
  go_upto_region 5 with (first | fail)
  go_cut [46] (fun s46 wx => s46 = .bool false ∧ wx = w1)
  case first =>
    cases B2 <;> cases D2 <;> first | (exfalso; revert q4; decide) | skip
    all_goals (
      go_wp2_with fail
      go_meet
      exact ⟨rfl, rfl⟩)
  case rest =>
  obtain ⟨rfl, hwc⟩ := hcut
  replace kw : Kp w wc := (by rw [hwc]; exact kw)
  replace sw := (show H48 wc w.heap.size (.float .f64 a) (.float .f64 b) (.float .f64 c) (.float .f64 d) by rw [hwc]; exact sw)
  clear hwc
  generalize wc = w1 at kw sw ⊢
  obtain ⟨⟨p0, p1, p2, p3⟩, ⟨p4, p5, p6, p7⟩⟩ := id sw
  go_wp2_with (first | (go_at_call 49; refine (hL _ _ _ (by with_reducible first | exact f1 | exact f2) _ kw).mono ?_; rintro e wx ⟨rfl, gx⟩; replace kw := Kp.trans kw gx; replace sw := H48.keep sw gx; clear gx; obtain ⟨⟨p0, p1, p2, p3⟩, ⟨p4, p5, p6, p7⟩⟩ := id sw))
  exact bodyPost_ret (v := .float .f64 Z) (by simp [results, Tryz.results38, go_sem]) rfl ⟨rfl, kw⟩
end Go.Proofs.YtinohggonicjhaaGreatDoor
