import Derived.Test.YtaidnpjgkkdloaaGreatDoorKIYo
import Derived.Deep.CutRange
set_option maxHeartbeats 2000000
set_option maxRecDepth 20000
namespace Go.Proofs.YtaidnpjgkkdloaaGreatDoor
open Go.RowKit

def H48 (w:World) (B:Nat) (a b c d:Value):Prop:=Fq.H2 w B a b∧Fq.H2 w (B + 1) c d
theorem H48.keep {W w:World} {B:Nat} {a b c d:Value} (h:H48 W B a b c d) (g:Kp W w):H48 w B a b c d:=⟨Fq.H2.keep h.1 g,Fq.H2.keep h.2 g⟩
theorem H48.new (w:World) (a b c d:Value) (s t:TypeId):H48 ((w.alloc (.cells #[a,b] s)).alloc (.cells #[c,d] t)) w.heap.size a b c d:=by
  refine ⟨?_, ?_⟩ <;> (unfold Fq.H2;simp [go_sem])
theorem H48.put {w:World} {B:Nat} {a b c d:Value} (h:H48 w B a b c d) (a' b' c' d':Value):H48 ((((w.setCell ⟨B,0,none⟩ a').setCell ⟨B,1,none⟩ b').setCell ⟨B + 1,0,none⟩ c').setCell ⟨B + 1,1,none⟩ d') B a' b' c' d':=by
  refine ⟨?_, ?_⟩
  · exact Fq.H2.far (Fq.H2.put h.1 a' b') (by omega) c' d'
  · exact Fq.H2.put (Fq.H2.far h.2 (by omega) a' b') c' d'
set_option linter.unusedVariables false
theorem lsP1_ (a b c d Z1 Z2 Z:Nat) (A1 B1 C1 D1:Bool) (tA1:(FloatKind.f64.format.order a 0 == some Ordering.lt) = A1) (tB1:(FloatKind.f64.format.order b 0 == some Ordering.gt) = B1) (tC1:(FloatKind.f64.format.order c 0 == some Ordering.lt) = C1) (tD1:(FloatKind.f64.format.order d 0 == some Ordering.gt) = D1) (q:(A1 && B1 && C1 && D1) = true) (w:World) (PL:Nat→Nat→Nat→Prop) (hL:∀ x y z,PL x y z→∀ W:World,Kp w W→Calls Tryz.prog 38 #[.float .f64 x,.float .f64 y] W fun e w'=>e = .returned (.float .f64 z)∧Kp W w') (f1:PL b c Z1) (f2:PL a d Z2) (hm:∀ (ts:Array TypeId) (t:TypeId) (w:World),(Builtin.min_ ts t #[.float .f64 Z1,.float .f64 Z2]).run Tryz.prog w = .ok (.float .f64 Z) w):Calls Tryz.prog 68 #[.agg #[.float .f64 a,.float .f64 b],.agg #[.float .f64 c,.float .f64 d],.func (.func 38) #[] #[]] w fun e w'=>e = .returned (.float .f64 Z)∧Kp w w':=by
  go_enter Tryz.func68,Tryz.ntmps68
  go_upto_region 2 with (first | (go_at_call 57;refine (Fq.inf1_ _).mono ?_;rintro e w1 ⟨rfl,g1⟩;have kw:Kp w w1:=(by rw [g1];exact (((Kp.refl w).alloc _).alloc _));have sw:H48 w1 w.heap.size (.float .f64 a) (.float .f64 b) (.float .f64 c) (.float .f64 d):=(by rw [g1];exact H48.new w (.float .f64 a) (.float .f64 b) (.float .f64 c) (.float .f64 d) 32 32);clear g1;obtain ⟨⟨p0,p1,p2,p3⟩,⟨p4,p5,p6,p7⟩⟩:=id sw))
  go_cut [9] (fun s9 wx=>s9 = .bool true∧wx = w1)
  case first =>
    cases A1 <;> cases B1 <;> cases C1 <;> cases D1 <;> first | (exfalso;revert q;decide) | skip
    all_goals (
      go_wp2_with fail
      go_meet
      exact ⟨rfl,rfl⟩)
  case rest =>
  obtain ⟨rfl,hwc⟩:=hcut
  replace kw:Kp w wc:=(by rw [hwc];exact kw)
  replace sw:=(show H48 wc w.heap.size (.float .f64 a) (.float .f64 b) (.float .f64 c) (.float .f64 d) by rw [hwc];exact sw)
  clear hwc
  generalize wc = w1 at kw sw ⊢
  obtain ⟨⟨p0,p1,p2,p3⟩,⟨p4,p5,p6,p7⟩⟩:=id sw
  go_wp2_with (first | (go_at_call 38;refine (hL _ _ _ (by with_reducible first | exact f1 | exact f2) _ kw).mono ?_;rintro e wx ⟨rfl,gx⟩;replace kw:=Kp.trans kw gx;replace sw:=H48.keep sw gx;clear gx;obtain ⟨⟨p0,p1,p2,p3⟩,⟨p4,p5,p6,p7⟩⟩:=id sw))
  exact bodyPost_ret (v:=.float .f64 Z) (by simp [results,Tryz.results68,go_sem]) rfl ⟨rfl,kw⟩
theorem lsP2_ (a b c d Z2 Z:Nat) (A1 B1 C1 D1:Bool) (tA1:(FloatKind.f64.format.order a 0 == some Ordering.lt) = A1) (tB1:(FloatKind.f64.format.order b 0 == some Ordering.gt) = B1) (tC1:(FloatKind.f64.format.order c 0 == some Ordering.lt) = C1) (tD1:(FloatKind.f64.format.order d 0 == some Ordering.gt) = D1) (q:(A1 && B1 && C1 && D1) = false) (q2:(A1 && D1) = true) (w:World) (PL:Nat→Nat→Nat→Prop) (hL:∀ x y z,PL x y z→∀ W:World,Kp w W→Calls Tryz.prog 38 #[.float .f64 x,.float .f64 y] W fun e w'=>e = .returned (.float .f64 z)∧Kp W w') (f1:PL a d Z2) (f2:True) (hm:∀ (ts:Array TypeId) (t:TypeId) (w:World),(Builtin.min_ ts t #[.float .f64 9218868437227405312,.float .f64 Z2]).run Tryz.prog w = .ok (.float .f64 Z) w):Calls Tryz.prog 68 #[.agg #[.float .f64 a,.float .f64 b],.agg #[.float .f64 c,.float .f64 d],.func (.func 38) #[] #[]] w fun e w'=>e = .returned (.float .f64 Z)∧Kp w w':=by
  go_enter Tryz.func68,Tryz.ntmps68
  go_upto_region 2 with (first | (go_at_call 57;refine (Fq.inf1_ _).mono ?_;rintro e w1 ⟨rfl,g1⟩;have kw:Kp w w1:=(by rw [g1];exact (((Kp.refl w).alloc _).alloc _));have sw:H48 w1 w.heap.size (.float .f64 a) (.float .f64 b) (.float .f64 c) (.float .f64 d):=(by rw [g1];exact H48.new w (.float .f64 a) (.float .f64 b) (.float .f64 c) (.float .f64 d) 32 32);clear g1;obtain ⟨⟨p0,p1,p2,p3⟩,⟨p4,p5,p6,p7⟩⟩:=id sw))
  go_cut [9] (fun s9 wx=>s9 = .bool false∧wx = w1)
  case first =>
    cases A1 <;> cases B1 <;> cases C1 <;> cases D1 <;> first | (exfalso;revert q;decide) | skip
    all_goals (
      go_wp2_with fail
      go_meet
      exact ⟨rfl,rfl⟩)
  case rest =>
  obtain ⟨rfl,hwc⟩:=hcut
  replace kw:Kp w wc:=(by rw [hwc];exact kw)
  replace sw:=(show H48 wc w.heap.size (.float .f64 a) (.float .f64 b) (.float .f64 c) (.float .f64 d) by rw [hwc];exact sw)
  clear hwc
  generalize wc = w1 at kw sw ⊢
  obtain ⟨⟨p0,p1,p2,p3⟩,⟨p4,p5,p6,p7⟩⟩:=id sw
  go_upto_region 3 with (first | fail)
  go_cut [28] (fun s28 wx=>s28 = .bool true∧wx = w1)
  case first =>
    cases A1 <;> cases D1 <;> first | (exfalso;revert q2;decide) | skip
    all_goals (
      go_wp2_with fail
      go_meet
      exact ⟨rfl,rfl⟩)
  case rest =>
  obtain ⟨rfl,hwc⟩:=hcut
  replace kw:Kp w wc:=(by rw [hwc];exact kw)
  replace sw:=(show H48 wc w.heap.size (.float .f64 a) (.float .f64 b) (.float .f64 c) (.float .f64 d) by rw [hwc];exact sw)
  clear hwc
  generalize wc = w1 at kw sw ⊢
  obtain ⟨⟨p0,p1,p2,p3⟩,⟨p4,p5,p6,p7⟩⟩:=id sw
  go_wp2_with (first | (go_at_call 38;refine (hL _ _ _ (by with_reducible first | exact f1 | exact f2) _ kw).mono ?_;rintro e wx ⟨rfl,gx⟩;replace kw:=Kp.trans kw gx;replace sw:=H48.keep sw gx;clear gx;obtain ⟨⟨p0,p1,p2,p3⟩,⟨p4,p5,p6,p7⟩⟩:=id sw))
  exact bodyPost_ret (v:=.float .f64 Z) (by simp [results,Tryz.results68,go_sem]) rfl ⟨rfl,kw⟩
theorem lsP3_ (a b c d Z:Nat) (A1 B1 C1 D1:Bool) (tA1:(FloatKind.f64.format.order a 0 == some Ordering.lt) = A1) (tB1:(FloatKind.f64.format.order b 0 == some Ordering.gt) = B1) (tC1:(FloatKind.f64.format.order c 0 == some Ordering.lt) = C1) (tD1:(FloatKind.f64.format.order d 0 == some Ordering.gt) = D1) (q:(A1 && B1 && C1 && D1) = false) (q2:(A1 && D1) = false) (q3:(B1 && C1) = true) (w:World) (PL:Nat→Nat→Nat→Prop) (hL:∀ x y z,PL x y z→∀ W:World,Kp w W→Calls Tryz.prog 38 #[.float .f64 x,.float .f64 y] W fun e w'=>e = .returned (.float .f64 z)∧Kp W w') (f1:PL b c Z) (f2:True):Calls Tryz.prog 68 #[.agg #[.float .f64 a,.float .f64 b],.agg #[.float .f64 c,.float .f64 d],.func (.func 38) #[] #[]] w fun e w'=>e = .returned (.float .f64 Z)∧Kp w w':=by
  go_enter Tryz.func68,Tryz.ntmps68
  go_upto_region 2 with (first | (go_at_call 57;refine (Fq.inf1_ _).mono ?_;rintro e w1 ⟨rfl,g1⟩;have kw:Kp w w1:=(by rw [g1];exact (((Kp.refl w).alloc _).alloc _));have sw:H48 w1 w.heap.size (.float .f64 a) (.float .f64 b) (.float .f64 c) (.float .f64 d):=(by rw [g1];exact H48.new w (.float .f64 a) (.float .f64 b) (.float .f64 c) (.float .f64 d) 32 32);clear g1;obtain ⟨⟨p0,p1,p2,p3⟩,⟨p4,p5,p6,p7⟩⟩:=id sw))
  go_cut [9] (fun s9 wx=>s9 = .bool false∧wx = w1)
  case first =>
    cases A1 <;> cases B1 <;> cases C1 <;> cases D1 <;> first | (exfalso;revert q;decide) | skip
    all_goals (
      go_wp2_with fail
      go_meet
      exact ⟨rfl,rfl⟩)
  case rest =>
  obtain ⟨rfl,hwc⟩:=hcut
  replace kw:Kp w wc:=(by rw [hwc];exact kw)
  replace sw:=(show H48 wc w.heap.size (.float .f64 a) (.float .f64 b) (.float .f64 c) (.float .f64 d) by rw [hwc];exact sw)
  clear hwc
  generalize wc = w1 at kw sw ⊢
  obtain ⟨⟨p0,p1,p2,p3⟩,⟨p4,p5,p6,p7⟩⟩:=id sw
  go_upto_region 3 with (first | fail)
  go_cut [28] (fun s28 wx=>s28 = .bool false∧wx = w1)
  case first =>
    cases A1 <;> cases D1 <;> first | (exfalso;revert q2;decide) | skip
    all_goals (
      go_wp2_with fail
      go_meet
      exact ⟨rfl,rfl⟩)
  case rest =>
  obtain ⟨rfl,hwc⟩:=hcut
  replace kw:Kp w wc:=(by rw [hwc];exact kw)
  replace sw:=(show H48 wc w.heap.size (.float .f64 a) (.float .f64 b) (.float .f64 c) (.float .f64 d) by rw [hwc];exact sw)
  clear hwc
  generalize wc = w1 at kw sw ⊢
  obtain ⟨⟨p0,p1,p2,p3⟩,⟨p4,p5,p6,p7⟩⟩:=id sw
  go_upto_region 4 with (first | fail)
  go_cut [37] (fun s37 wx=>s37 = .bool true∧wx = w1)
  case first =>
    cases B1 <;> cases C1 <;> first | (exfalso;revert q3;decide) | skip
    all_goals (
      go_wp2_with fail
      go_meet
      exact ⟨rfl,rfl⟩)
  case rest =>
  obtain ⟨rfl,hwc⟩:=hcut
  replace kw:Kp w wc:=(by rw [hwc];exact kw)
  replace sw:=(show H48 wc w.heap.size (.float .f64 a) (.float .f64 b) (.float .f64 c) (.float .f64 d) by rw [hwc];exact sw)
  clear hwc
  generalize wc = w1 at kw sw ⊢
  obtain ⟨⟨p0,p1,p2,p3⟩,⟨p4,p5,p6,p7⟩⟩:=id sw
  go_wp2_with (first | (go_at_call 38;refine (hL _ _ _ (by with_reducible first | exact f1 | exact f2) _ kw).mono ?_;rintro e wx ⟨rfl,gx⟩;replace kw:=Kp.trans kw gx;replace sw:=H48.keep sw gx;clear gx;obtain ⟨⟨p0,p1,p2,p3⟩,⟨p4,p5,p6,p7⟩⟩:=id sw))
  exact bodyPost_ret (v:=.float .f64 Z) (by simp [results,Tryz.results68,go_sem]) rfl ⟨rfl,kw⟩
theorem lsP4_ (a b c d Z:Nat) (A1 B1 C1 D1 B2 D2:Bool) (tA1:(FloatKind.f64.format.order a 0 == some Ordering.lt) = A1) (tB1:(FloatKind.f64.format.order b 0 == some Ordering.gt) = B1) (tC1:(FloatKind.f64.format.order c 0 == some Ordering.lt) = C1) (tD1:(FloatKind.f64.format.order d 0 == some Ordering.gt) = D1) (tB2:(FloatKind.f64.format.order b 0 == some Ordering.lt || FloatKind.f64.format.order b 0 == some Ordering.eq) = B2) (tD2:(FloatKind.f64.format.order d 0 == some Ordering.lt || FloatKind.f64.format.order d 0 == some Ordering.eq) = D2) (q:(A1 && B1 && C1 && D1) = false) (q2:(A1 && D1) = false) (q3:(B1 && C1) = false) (q4:(B2 && D2) = true) (w:World) (PL:Nat→Nat→Nat→Prop) (hL:∀ x y z,PL x y z→∀ W:World,Kp w W→Calls Tryz.prog 38 #[.float .f64 x,.float .f64 y] W fun e w'=>e = .returned (.float .f64 z)∧Kp W w') (f1:PL b d Z) (f2:True):Calls Tryz.prog 68 #[.agg #[.float .f64 a,.float .f64 b],.agg #[.float .f64 c,.float .f64 d],.func (.func 38) #[] #[]] w fun e w'=>e = .returned (.float .f64 Z)∧Kp w w':=by
  go_enter Tryz.func68,Tryz.ntmps68
  go_upto_region 2 with (first | (go_at_call 57;refine (Fq.inf1_ _).mono ?_;rintro e w1 ⟨rfl,g1⟩;have kw:Kp w w1:=(by rw [g1];exact (((Kp.refl w).alloc _).alloc _));have sw:H48 w1 w.heap.size (.float .f64 a) (.float .f64 b) (.float .f64 c) (.float .f64 d):=(by rw [g1];exact H48.new w (.float .f64 a) (.float .f64 b) (.float .f64 c) (.float .f64 d) 32 32);clear g1;obtain ⟨⟨p0,p1,p2,p3⟩,⟨p4,p5,p6,p7⟩⟩:=id sw))
  go_cut [9] (fun s9 wx=>s9 = .bool false∧wx = w1)
  case first =>
    cases A1 <;> cases B1 <;> cases C1 <;> cases D1 <;> first | (exfalso;revert q;decide) | skip
    all_goals (
      go_wp2_with fail
      go_meet
      exact ⟨rfl,rfl⟩)
  case rest =>
  obtain ⟨rfl,hwc⟩:=hcut
  replace kw:Kp w wc:=(by rw [hwc];exact kw)
  replace sw:=(show H48 wc w.heap.size (.float .f64 a) (.float .f64 b) (.float .f64 c) (.float .f64 d) by rw [hwc];exact sw)
  clear hwc
  generalize wc = w1 at kw sw ⊢
  obtain ⟨⟨p0,p1,p2,p3⟩,⟨p4,p5,p6,p7⟩⟩:=id sw
  go_upto_region 3 with (first | fail)
  go_cut [28] (fun s28 wx=>s28 = .bool false∧wx = w1)
  case first =>
    cases A1 <;> cases D1 <;> first | (exfalso;revert q2;decide) | skip
    all_goals (
      go_wp2_with fail
      go_meet
      exact ⟨rfl,rfl⟩)
  case rest =>
  obtain ⟨rfl,hwc⟩:=hcut
  replace kw:Kp w wc:=(by rw [hwc];exact kw)
  replace sw:=(show H48 wc w.heap.size (.float .f64 a) (.float .f64 b) (.float .f64 c) (.float .f64 d) by rw [hwc];exact sw)
  clear hwc
  generalize wc = w1 at kw sw ⊢
  obtain ⟨⟨p0,p1,p2,p3⟩,⟨p4,p5,p6,p7⟩⟩:=id sw
  go_upto_region 4 with (first | fail)
  go_cut [37] (fun s37 wx=>s37 = .bool false∧wx = w1)
  case first =>
    cases B1 <;> cases C1 <;> first | (exfalso;revert q3;decide) | skip
    all_goals (
      go_wp2_with fail
      go_meet
      exact ⟨rfl,rfl⟩)
  case rest =>
  obtain ⟨rfl,hwc⟩:=hcut
  replace kw:Kp w wc:=(by rw [hwc];exact kw)
  replace sw:=(show H48 wc w.heap.size (.float .f64 a) (.float .f64 b) (.float .f64 c) (.float .f64 d) by rw [hwc];exact sw)
  clear hwc
  generalize wc = w1 at kw sw ⊢
  obtain ⟨⟨p0,p1,p2,p3⟩,⟨p4,p5,p6,p7⟩⟩:=id sw
  go_upto_region 5 with (first | fail)
  go_cut [46] (fun s46 wx=>s46 = .bool true∧wx = w1)
  case first =>
    cases B2 <;> cases D2 <;> first | (exfalso;revert q4;decide) | skip
    all_goals (
      go_wp2_with fail
      go_meet
      exact ⟨rfl,rfl⟩)
  case rest =>
  obtain ⟨rfl,hwc⟩:=hcut
  replace kw:Kp w wc:=(by rw [hwc];exact kw)
  replace sw:=(show H48 wc w.heap.size (.float .f64 a) (.float .f64 b) (.float .f64 c) (.float .f64 d) by rw [hwc];exact sw)
  clear hwc
  generalize wc = w1 at kw sw ⊢
  obtain ⟨⟨p0,p1,p2,p3⟩,⟨p4,p5,p6,p7⟩⟩:=id sw
  go_wp2_with (first | (go_at_call 38;refine (hL _ _ _ (by with_reducible first | exact f1 | exact f2) _ kw).mono ?_;rintro e wx ⟨rfl,gx⟩;replace kw:=Kp.trans kw gx;replace sw:=H48.keep sw gx;clear gx;obtain ⟨⟨p0,p1,p2,p3⟩,⟨p4,p5,p6,p7⟩⟩:=id sw))
  exact bodyPost_ret (v:=.float .f64 Z) (by simp [results,Tryz.results68,go_sem]) rfl ⟨rfl,kw⟩
theorem lsP5_ (a b c d Z:Nat) (A1 B1 C1 D1 B2 D2:Bool) (tA1:(FloatKind.f64.format.order a 0 == some Ordering.lt) = A1) (tB1:(FloatKind.f64.format.order b 0 == some Ordering.gt) = B1) (tC1:(FloatKind.f64.format.order c 0 == some Ordering.lt) = C1) (tD1:(FloatKind.f64.format.order d 0 == some Ordering.gt) = D1) (tB2:(FloatKind.f64.format.order b 0 == some Ordering.lt || FloatKind.f64.format.order b 0 == some Ordering.eq) = B2) (tD2:(FloatKind.f64.format.order d 0 == some Ordering.lt || FloatKind.f64.format.order d 0 == some Ordering.eq) = D2) (q:(A1 && B1 && C1 && D1) = false) (q2:(A1 && D1) = false) (q3:(B1 && C1) = false) (q4:(B2 && D2) = false) (w:World) (PL:Nat→Nat→Nat→Prop) (hL:∀ x y z,PL x y z→∀ W:World,Kp w W→Calls Tryz.prog 38 #[.float .f64 x,.float .f64 y] W fun e w'=>e = .returned (.float .f64 z)∧Kp W w') (f1:PL a c Z) (f2:True):Calls Tryz.prog 68 #[.agg #[.float .f64 a,.float .f64 b],.agg #[.float .f64 c,.float .f64 d],.func (.func 38) #[] #[]] w fun e w'=>e = .returned (.float .f64 Z)∧Kp w w':=by
  go_enter Tryz.func68,Tryz.ntmps68
  go_upto_region 2 with (first | (go_at_call 57;refine (Fq.inf1_ _).mono ?_;rintro e w1 ⟨rfl,g1⟩;have kw:Kp w w1:=(by rw [g1];exact (((Kp.refl w).alloc _).alloc _));have sw:H48 w1 w.heap.size (.float .f64 a) (.float .f64 b) (.float .f64 c) (.float .f64 d):=(by rw [g1];exact H48.new w (.float .f64 a) (.float .f64 b) (.float .f64 c) (.float .f64 d) 32 32);clear g1;obtain ⟨⟨p0,p1,p2,p3⟩,⟨p4,p5,p6,p7⟩⟩:=id sw))
  go_cut [9] (fun s9 wx=>s9 = .bool false∧wx = w1)
  case first =>
    cases A1 <;> cases B1 <;> cases C1 <;> cases D1 <;> first | (exfalso;revert q;decide) | skip
    all_goals (
      go_wp2_with fail
      go_meet
      exact ⟨rfl,rfl⟩)
  case rest =>
  obtain ⟨rfl,hwc⟩:=hcut
  replace kw:Kp w wc:=(by rw [hwc];exact kw)
  replace sw:=(show H48 wc w.heap.size (.float .f64 a) (.float .f64 b) (.float .f64 c) (.float .f64 d) by rw [hwc];exact sw)
  clear hwc
  generalize wc = w1 at kw sw ⊢
  obtain ⟨⟨p0,p1,p2,p3⟩,⟨p4,p5,p6,p7⟩⟩:=id sw
  go_upto_region 3 with (first | fail)
  go_cut [28] (fun s28 wx=>s28 = .bool false∧wx = w1)
  case first =>
    cases A1 <;> cases D1 <;> first | (exfalso;revert q2;decide) | skip
    all_goals (
      go_wp2_with fail
      go_meet
      exact ⟨rfl,rfl⟩)
  case rest =>
  obtain ⟨rfl,hwc⟩:=hcut
  replace kw:Kp w wc:=(by rw [hwc];exact kw)
  replace sw:=(show H48 wc w.heap.size (.float .f64 a) (.float .f64 b) (.float .f64 c) (.float .f64 d) by rw [hwc];exact sw)
  clear hwc
  generalize wc = w1 at kw sw ⊢
  obtain ⟨⟨p0,p1,p2,p3⟩,⟨p4,p5,p6,p7⟩⟩:=id sw
  go_upto_region 4 with (first | fail)
  go_cut [37] (fun s37 wx=>s37 = .bool false∧wx = w1)
  case first =>
    cases B1 <;> cases C1 <;> first | (exfalso;revert q3;decide) | skip
    all_goals (
      go_wp2_with fail
      go_meet
      exact ⟨rfl,rfl⟩)
  case rest =>
  obtain ⟨rfl,hwc⟩:=hcut
  replace kw:Kp w wc:=(by rw [hwc];exact kw)
  replace sw:=(show H48 wc w.heap.size (.float .f64 a) (.float .f64 b) (.float .f64 c) (.float .f64 d) by rw [hwc];exact sw)
  clear hwc
  generalize wc = w1 at kw sw ⊢
  obtain ⟨⟨p0,p1,p2,p3⟩,⟨p4,p5,p6,p7⟩⟩:=id sw
  go_upto_region 5 with (first | fail)
  go_cut [46] (fun s46 wx=>s46 = .bool false∧wx = w1)
  case first =>
    cases B2 <;> cases D2 <;> first | (exfalso;revert q4;decide) | skip
    all_goals (
      go_wp2_with fail
      go_meet
      exact ⟨rfl,rfl⟩)
  case rest =>
  obtain ⟨rfl,hwc⟩:=hcut
  replace kw:Kp w wc:=(by rw [hwc];exact kw)
  replace sw:=(show H48 wc w.heap.size (.float .f64 a) (.float .f64 b) (.float .f64 c) (.float .f64 d) by rw [hwc];exact sw)
  clear hwc
  generalize wc = w1 at kw sw ⊢
  obtain ⟨⟨p0,p1,p2,p3⟩,⟨p4,p5,p6,p7⟩⟩:=id sw
  go_wp2_with (first | (go_at_call 38;refine (hL _ _ _ (by with_reducible first | exact f1 | exact f2) _ kw).mono ?_;rintro e wx ⟨rfl,gx⟩;replace kw:=Kp.trans kw gx;replace sw:=H48.keep sw gx;clear gx;obtain ⟨⟨p0,p1,p2,p3⟩,⟨p4,p5,p6,p7⟩⟩:=id sw))
  exact bodyPost_ret (v:=.float .f64 Z) (by simp [results,Tryz.results68,go_sem]) rfl ⟨rfl,kw⟩
set_option linter.unusedVariables false
theorem prod0_ (X Y:Nat) (E1 E2:Bool) (t1:(FloatKind.f64.format.order X 0 == some Ordering.eq) = E1) (t2:(FloatKind.f64.format.order Y 0 == some Ordering.eq) = E2) (q:(E1 || E2) = true) (w:World):Calls Tryz.prog 38 #[.float .f64 X,.float .f64 Y] w fun e w'=>e = .returned (.float .f64 0)∧Kp w w':=by
  cases E1 <;> cases E2 <;> first | (exfalso;revert q;decide) | skip
  all_goals (
    go_enter Tryz.func38,Tryz.ntmps38
    go_wp2
    exact bodyPost_ret (v:=.float .f64 0) (by simp [results,Tryz.results38,go_sem]) rfl ⟨rfl,(Kp.refl w)⟩)
theorem prod1_ (X Y Z:Nat) (t1:(FloatKind.f64.format.order X 0 == some Ordering.eq) = false) (t2:(FloatKind.f64.format.order Y 0 == some Ordering.eq) = false) (w:World) (hM:Calls Tryz.prog 40 #[.int .i64 (-1),.float .f64 X,.float .f64 Y] w fun e w'=>e = .returned (.float .f64 Z)∧Kp w w'):Calls Tryz.prog 38 #[.float .f64 X,.float .f64 Y] w fun e w'=>e = .returned (.float .f64 Z)∧Kp w w':=by
  go_enter Tryz.func38,Tryz.ntmps38
  go_wp2_with (first | (go_at_call 40;refine hM.mono ?_;rintro e w1 ⟨rfl,g1⟩))
  exact bodyPost_ret (v:=.float .f64 Z) (by simp [results,Tryz.results38,go_sem]) rfl ⟨rfl,g1⟩
theorem quo1_ (X Y Z:Nat) (w:World) (hM:Calls Tryz.prog 76 #[.int .i64 (-1),.float .f64 X,.float .f64 Y] w fun e w'=>e = .returned (.float .f64 Z)∧Kp w w'):Calls Tryz.prog 44 #[.float .f64 X,.float .f64 Y] w fun e w'=>e = .returned (.float .f64 Z)∧Kp w w':=by
  go_enter Tryz.func44,Tryz.ntmps44
  go_wp2_with (first | (go_at_call 76;refine hM.mono ?_;rintro e w1 ⟨rfl,g1⟩))
  exact bodyPost_ret (v:=.float .f64 Z) (by simp [results,Tryz.results44,go_sem]) rfl ⟨rfl,g1⟩
theorem clo0_ (X Y E bp:Nat) (E1 E2:Bool) (t1:(FloatKind.f64.format.order X 0 == some Ordering.eq) = E1) (t2:(FloatKind.f64.format.order Y 0 == some Ordering.eq) = E2) (q:(E1 || E2) = true) (w:World) (hc:w.cell? ⟨bp,0,none⟩ = some (.float .f64 E)):Calls Tryz.prog 78 #[.float .f64 X,.float .f64 Y,.pointer (some ⟨bp,0,none⟩)] w fun e w'=>e = .returned (.float .f64 E)∧Kp w w':=by
  cases E1 <;> cases E2 <;> first | (exfalso;revert q;decide) | skip
  all_goals (
    go_enter Tryz.func78,Tryz.ntmps78
    go_wp2
    exact bodyPost_ret (v:=.float .f64 E) (by simp [results,Tryz.results78,go_sem]) rfl ⟨rfl,(Kp.refl w)⟩)
theorem clo1_ (X Y Z E bp:Nat) (t1:(FloatKind.f64.format.order X 0 == some Ordering.eq) = false) (t2:(FloatKind.f64.format.order Y 0 == some Ordering.eq) = false) (w:World) (hc:w.cell? ⟨bp,0,none⟩ = some (.float .f64 E)) (hM:Calls Tryz.prog 79 #[.int .i64 (-1),.float .f64 X,.float .f64 Y,.float .f64 E] w fun e w'=>e = .returned (.float .f64 Z)∧Kp w w'):Calls Tryz.prog 78 #[.float .f64 X,.float .f64 Y,.pointer (some ⟨bp,0,none⟩)] w fun e w'=>e = .returned (.float .f64 Z)∧Kp w w':=by
  go_enter Tryz.func78,Tryz.ntmps78
  go_wp2_with (first | (go_at_call 79;refine hM.mono ?_;rintro e w1 ⟨rfl,g1⟩))
  exact bodyPost_ret (v:=.float .f64 Z) (by simp [results,Tryz.results78,go_sem]) rfl ⟨rfl,g1⟩
theorem eq0_pw (x:Int) (hx:BdZ x):(FloatKind.f64.format.order (pw x) 0 == some Ordering.eq) = decide (x = 0):=by
  have h:=peq9 x 0 hx (by unfold BdZ;omega)
  rw [show pw 0 = 0 from rfl] at h
  exact h
theorem lt0_pw (x:Int) (hx:BdZ x):(FloatKind.f64.format.order (pw x) 0 == some Ordering.lt) = decide (x < 0):=by
  have h:=plt9 x 0 hx (by unfold BdZ;omega)
  rw [show pw 0 = 0 from rfl] at h
  exact h
theorem gt0_pw (x:Int) (hx:BdZ x):(FloatKind.f64.format.order (pw x) 0 == some Ordering.gt) = decide (0 < x):=by
  have h:=pgt9 x 0 hx (by unfold BdZ;omega)
  rw [show pw 0 = 0 from rfl] at h
  exact h
theorem le0_pw (x:Int) (hx:BdZ x):(FloatKind.f64.format.order (pw x) 0 == some Ordering.lt || FloatKind.f64.format.order (pw x) 0 == some Ordering.eq) = decide (x≤0):=by
  have h:=ple9 x 0 hx (by unfold BdZ;omega)
  rw [show pw 0 = 0 from rfl] at h
  exact h
theorem ge0_pw (x:Int) (hx:BdZ x):(FloatKind.f64.format.order (pw x) 0 == some Ordering.gt || FloatKind.f64.format.order (pw x) 0 == some Ordering.eq) = decide (0≤x):=by
  have h:=pge9 x 0 hx (by unfold BdZ;omega)
  rw [show pw 0 = 0 from rfl] at h
  exact h
theorem prodP_ (K:Nat) (hK:K = 1074) (x y:Int) (hx:BdZ x) (hy:BdZ y) (w:World) (hT:TT w):Calls Tryz.prog 38 #[.float .f64 (pw x),.float .f64 (pw y)] w fun e w'=>e = .returned (.float .f64 (pw (prZ K x y)))∧Kp w w':=by
  unfold prZ
  by_cases c:x = 0∨y = 0
  · rw [if_pos c]
    exact prod0_ _ _ _ _ (eq0_pw x hx) (eq0_pw y hy) (by
      rcases c with c | c
      · rw [decide_eq_true c];rfl
      · rw [decide_eq_true c];simp) w
  · rw [if_neg c]
    refine prod1_ _ _ _ ?_ ?_ w (mulP_ K hK (-1) x y (by omega) (by omega) hx hy (by omega) (by omega) w hT)
    · rw [eq0_pw x hx];exact decide_eq_false (by omega)
    · rw [eq0_pw y hy];exact decide_eq_false (by omega)
theorem quoP_ (K:Nat) (hK:K = 1074) (x y:Int) (hx:BdZ x) (hy:BdZ y) (zy:y≠0) (hb:¬ ((x = 9218868437227405312∨x = -9218868437227405312)∧(y = 9218868437227405312∨y = -9218868437227405312))) (w:World) (hT:TT w):Calls Tryz.prog 44 #[.float .f64 (pw x),.float .f64 (pw y)] w fun e w'=>e = .returned (.float .f64 (pw (diZ K (-1) x y)))∧Kp w w' :=
  quo1_ _ _ _ w (divP_ K hK (-1) x y (by omega) (by omega) hx hy zy hb w hT)
theorem cloP_ (K:Nat) (hK:K = 1074) (x y e:Int) (bp:Nat) (hx:BdZ x) (hy:BdZ y) (he:BdZ e) (hb:((x = 9218868437227405312∨x = -9218868437227405312)∨(y = 9218868437227405312∨y = -9218868437227405312))→(e = 9218868437227405312∨e = -9218868437227405312)→x≠0→y≠0→((x < 0 ↔ y < 0) ↔ 0 < e)) (w:World) (hT:TT w) (hc:w.cell? ⟨bp,0,none⟩ = some (.float .f64 (pw e))):Calls Tryz.prog 78 #[.float .f64 (pw x),.float .f64 (pw y),.pointer (some ⟨bp,0,none⟩)] w fun v w'=>v = .returned (.float .f64 (pw (fmZ K e x y)))∧Kp w w':=by
  unfold fmZ
  by_cases c:x = 0∨y = 0
  · rw [if_pos c]
    exact clo0_ _ _ _ bp _ _ (eq0_pw x hx) (eq0_pw y hy) (by
      rcases c with c | c
      · rw [decide_eq_true c];rfl
      · rw [decide_eq_true c];simp) w hc
  · rw [if_neg c]
    refine clo1_ _ _ _ _ bp ?_ ?_ w hc (fmaP_ K hK (-1) x y e (by omega) (by omega) hx hy he (by omega) (by omega) (fun h1 h2=>hb h1 h2 (by omega) (by omega)) w hT)
    · rw [eq0_pw x hx];exact decide_eq_false (by omega)
    · rw [eq0_pw y hy];exact decide_eq_false (by omega)
set_option linter.unusedVariables false
theorem spreadA_ (a b c d NL NH Z1 Z2 Z3:Nat) (fv:Value) (w:World) (h1:∀ W:World,Kp w W→Calls Tryz.prog 68 #[.agg #[.float .f64 a,.float .f64 b],.agg #[.float .f64 c,.float .f64 d],fv] W fun e w'=>e = .returned (.float .f64 Z1)∧Kp W w') (hN:∀ w:World,Calls Tryz.prog 35 #[.agg #[.float .f64 a,.float .f64 b]] w fun e w'=>e = .returned (.agg #[.float .f64 NL,.float .f64 NH])∧Kp w w') (h2:∀ W:World,Kp w W→Calls Tryz.prog 68 #[.agg #[.float .f64 NL,.float .f64 NH],.agg #[.float .f64 c,.float .f64 d],fv] W fun e w'=>e = .returned (.float .f64 Z2)∧Kp W w') (hm:∀ w:World,Calls Tryz.prog 46 #[.float .f64 Z2] w fun e w'=>e = .returned (.float .f64 Z3)∧w' = w):Calls Tryz.prog 37 #[.agg #[.float .f64 a,.float .f64 b],.agg #[.float .f64 c,.float .f64 d],fv] w fun e w'=>e = .returned (.agg #[.float .f64 Z1,.float .f64 Z3])∧Kp w w':=by
  go_enter Tryz.func37,Tryz.ntmps37
  go_wp2
  generalize hW:(((w.alloc (.cells #[.float .f64 a,.float .f64 b] 32)).alloc (.cells #[.float .f64 c,.float .f64 d] 32)).alloc (.cells #[.float .f64 0,.float .f64 0] 32)) = W
  have kw:Kp w W:=by rw [← hW];exact (((Kp.refl w).alloc _).alloc _).alloc _
  have xw0:W.cell? ⟨w.heap.size,0,none⟩ = some (.float .f64 a):=by rw [← hW];simp [go_sem]
  have dw0:W.drew.cell? ⟨w.heap.size,0,none⟩ = some (.float .f64 a):=xw0
  have xw1:W.cell? ⟨w.heap.size,1,none⟩ = some (.float .f64 b):=by rw [← hW];simp [go_sem]
  have dw1:W.drew.cell? ⟨w.heap.size,1,none⟩ = some (.float .f64 b):=xw1
  have xw2:W.cell? ⟨w.heap.size + 1,0,none⟩ = some (.float .f64 c):=by rw [← hW];simp [go_sem]
  have dw2:W.drew.cell? ⟨w.heap.size + 1,0,none⟩ = some (.float .f64 c):=xw2
  have xw3:W.cell? ⟨w.heap.size + 1,1,none⟩ = some (.float .f64 d):=by rw [← hW];simp [go_sem]
  have dw3:W.drew.cell? ⟨w.heap.size + 1,1,none⟩ = some (.float .f64 d):=xw3
  have r0:W.cell? ⟨w.heap.size + 2,0,none⟩ = some (.float .f64 0):=by rw [← hW];simp [go_sem]
  have rz0:W.frozen? ⟨w.heap.size + 2,0,none⟩ = false:=by rw [← hW];simp [go_sem]
  have r1:W.cell? ⟨w.heap.size + 2,1,none⟩ = some (.float .f64 0):=by rw [← hW];simp [go_sem]
  have rz1:W.frozen? ⟨w.heap.size + 2,1,none⟩ = false:=by rw [← hW];simp [go_sem]
  have hn1:w.heap.size + 2≠w.heap.size:=by omega
  have hn2:w.heap.size + 2≠w.heap.size + 1:=by omega
  clear hW
  go_region_held3 (fun w'=>w'.cell? ⟨w.heap.size,0,none⟩ = some (.float .f64 a)∧w'.cell? ⟨w.heap.size,1,none⟩ = some (.float .f64 b)∧w'.cell? ⟨w.heap.size + 1,0,none⟩ = some (.float .f64 c)∧w'.cell? ⟨w.heap.size + 1,1,none⟩ = some (.float .f64 d)) (first | (with_reducible exact ⟨xw0,xw1,xw2,xw3⟩) | (with_reducible exact ⟨dw0,dw1,dw2,dw3⟩) | (with_reducible exact ⟨aw0,aw1,aw2,aw3⟩) | (with_reducible exact ⟨nw0,nw1,nw2,nw3⟩) | (with_reducible exact ⟨bw0,bw1,bw2,bw3⟩) | (exact ⟨((World.cell?_setCell_far _ _ _ _ hn1).trans ((World.cell?_setCell_far _ _ _ _ hn1).trans bw0)),((World.cell?_setCell_far _ _ _ _ hn1).trans ((World.cell?_setCell_far _ _ _ _ hn1).trans bw1)),((World.cell?_setCell_far _ _ _ _ hn2).trans ((World.cell?_setCell_far _ _ _ _ hn2).trans bw2)),((World.cell?_setCell_far _ _ _ _ hn2).trans ((World.cell?_setCell_far _ _ _ _ hn2).trans bw3))⟩)) (first | (go_at_call_of 68 (Value.agg #[.float .f64 a,.float .f64 b]);refine (h1 _ ?q0).mono ?_;(case q0=>first | exact kw.trans (Kp.drew (Kp.refl _)) | exact kw);rintro e wl ⟨rfl,gl⟩;have kl:Kp W wl:=(by first | exact Kp.trans (Kp.drew (Kp.refl _)) gl | exact gl);have aw0:=kkeep kl xw0;have aw1:=kkeep kl xw1;have aw2:=kkeep kl xw2;have aw3:=kkeep kl xw3) | (go_at_call 35;refine (hN _).mono ?_;rintro e wn ⟨rfl,gn⟩;have kn:Kp W wn:=Kp.trans kl gn;have nw0:=kkeep kn xw0;have nw1:=kkeep kn xw1;have nw2:=kkeep kn xw2;have nw3:=kkeep kn xw3) | (go_at_call_of 68 (Value.agg #[.float .f64 NL,.float .f64 NH]);refine (h2 _ ?q0).mono ?_;(case q0=>exact kw.trans kn);rintro e wh ⟨rfl,gh⟩;have kh:Kp W wh:=Kp.trans kn gh;have bw0:=kkeep kh xw0;have bw1:=kkeep kh xw1;have bw2:=kkeep kh xw2;have bw3:=kkeep kh xw3;have R0:=kkeep kh r0;have Rz0:wh.frozen? ⟨w.heap.size + 2,0,none⟩ = false:=(kfro kh (cell_lt r0)).trans rz0;have R1:=kkeep kh r1;have Rz1:wh.frozen? ⟨w.heap.size + 2,1,none⟩ = false:=(kfro kh (cell_lt r1)).trans rz1) | (go_at_call 46;refine (hm _).mono ?_;rintro e wm ⟨rfl,gm⟩;obtain rfl:=gm.symm))
  go_wp2
  exact bodyPost_ret (v:=.agg #[.float .f64 Z1,.float .f64 Z3]) (by simp [results,Tryz.results37,go_sem,R0,R1]) rfl ⟨rfl,(((Kp.trans kw kh)).setCell (by simp <;> omega) _).setCell (by simp <;> omega) _⟩

theorem lsP9_ (g:Int→Int→Int) (L1 H1 L2 H2:Int) (b1:BdZ L1) (b2:BdZ H1) (b3:BdZ L2) (b4:BdZ H2) (w:World) (h1:0 < H1→L2 < 0→∀ W:World,Kp w W→Calls Tryz.prog 38 #[.float .f64 (pw H1),.float .f64 (pw L2)] W fun e w'=>e = .returned (.float .f64 (pw (g H1 L2)))∧Kp W w') (h2:L1 < 0→0 < H2→∀ W:World,Kp w W→Calls Tryz.prog 38 #[.float .f64 (pw L1),.float .f64 (pw H2)] W fun e w'=>e = .returned (.float .f64 (pw (g L1 H2)))∧Kp W w') (h3:H1≤0→H2≤0→¬ (L1 < 0∧0 < H2)→∀ W:World,Kp w W→Calls Tryz.prog 38 #[.float .f64 (pw H1),.float .f64 (pw H2)] W fun e w'=>e = .returned (.float .f64 (pw (g H1 H2)))∧Kp W w') (h4:¬ (L1 < 0∧0 < H2)→¬ (0 < H1∧L2 < 0)→¬ (H1≤0∧H2≤0)→∀ W:World,Kp w W→Calls Tryz.prog 38 #[.float .f64 (pw L1),.float .f64 (pw L2)] W fun e w'=>e = .returned (.float .f64 (pw (g L1 L2)))∧Kp W w') (hg1:BdZ (g H1 L2)) (hg2:BdZ (g L1 H2)):Calls Tryz.prog 68 #[.agg #[.float .f64 (pw L1),.float .f64 (pw H1)],.agg #[.float .f64 (pw L2),.float .f64 (pw H2)],.func (.func 38) #[] #[]] w fun e w'=>e = .returned (.float .f64 (pw (lst g L1 H1 L2 H2)))∧Kp w w':=by
  unfold lst
  by_cases c1:L1 < 0∧0 < H1∧L2 < 0∧0 < H2
  · rw [if_pos c1]
    exact lsP1_ _ _ _ _ _ _ _ _ _ _ _ (lt0_pw L1 b1) (gt0_pw H1 b2) (lt0_pw L2 b3) (gt0_pw H2 b4) (by simp [c1]) w (fun x y z=>∀ W:World,Kp w W→Calls Tryz.prog 38 #[.float .f64 x,.float .f64 y] W fun e w'=>e = .returned (.float .f64 z)∧Kp W w') (fun _ _ _ h=>h) (h1 c1.2.1 c1.2.2.1) (h2 c1.1 c1.2.2.2) (min9_ _ _ hg1 hg2)
  rw [if_neg c1]
  have q1:(decide (L1 < 0) && decide (0 < H1) && decide (L2 < 0) && decide (0 < H2)) = false:=by
    by_cases e1:L1 < 0 <;> by_cases e2:0 < H1 <;> by_cases e3:L2 < 0 <;> by_cases e4:0 < H2 <;> simp [e1,e2,e3,e4] <;> omega
  by_cases c2:L1 < 0∧0 < H2
  · rw [if_pos c2]
    have hm:=min9_ 9218868437227405312 (g L1 H2) (by unfold BdZ;omega) hg2
    rw [pw_I,show min 9218868437227405312 (g L1 H2) = g L1 H2 from by unfold BdZ at hg2;omega] at hm
    exact lsP2_ _ _ _ _ _ _ _ _ _ _ (lt0_pw L1 b1) (gt0_pw H1 b2) (lt0_pw L2 b3) (gt0_pw H2 b4) q1 (by simp [c2]) w (fun x y z=>∀ W:World,Kp w W→Calls Tryz.prog 38 #[.float .f64 x,.float .f64 y] W fun e w'=>e = .returned (.float .f64 z)∧Kp W w') (fun _ _ _ h=>h) (h2 c2.1 c2.2) trivial hm
  rw [if_neg c2]
  have q2:(decide (L1 < 0) && decide (0 < H2)) = false:=by
    by_cases e1:L1 < 0 <;> by_cases e4:0 < H2 <;> simp [e1,e4] <;> omega
  by_cases c3:0 < H1∧L2 < 0
  · rw [if_pos c3]
    exact lsP3_ _ _ _ _ _ _ _ _ _ (lt0_pw L1 b1) (gt0_pw H1 b2) (lt0_pw L2 b3) (gt0_pw H2 b4) q1 q2 (by simp [c3]) w (fun x y z=>∀ W:World,Kp w W→Calls Tryz.prog 38 #[.float .f64 x,.float .f64 y] W fun e w'=>e = .returned (.float .f64 z)∧Kp W w') (fun _ _ _ h=>h) (h1 c3.1 c3.2) trivial
  rw [if_neg c3]
  have q3:(decide (0 < H1) && decide (L2 < 0)) = false:=by
    by_cases e1:0 < H1 <;> by_cases e4:L2 < 0 <;> simp [e1,e4] <;> omega
  by_cases c4:H1≤0∧H2≤0
  · rw [if_pos c4]
    exact lsP4_ _ _ _ _ _ _ _ _ _ _ _ (lt0_pw L1 b1) (gt0_pw H1 b2) (lt0_pw L2 b3) (gt0_pw H2 b4) (le0_pw H1 b2) (le0_pw H2 b4) q1 q2 q3 (by simp [c4]) w (fun x y z=>∀ W:World,Kp w W→Calls Tryz.prog 38 #[.float .f64 x,.float .f64 y] W fun e w'=>e = .returned (.float .f64 z)∧Kp W w') (fun _ _ _ h=>h) (h3 c4.1 c4.2 c2) trivial
  rw [if_neg c4]
  have q4:(decide (H1≤0) && decide (H2≤0)) = false:=by
    by_cases e1:H1≤0 <;> by_cases e4:H2≤0 <;> simp [e1,e4] <;> omega
  exact lsP5_ _ _ _ _ _ _ _ _ _ _ _ (lt0_pw L1 b1) (gt0_pw H1 b2) (lt0_pw L2 b3) (gt0_pw H2 b4) (le0_pw H1 b2) (le0_pw H2 b4) q1 q2 q3 q4 w (fun x y z=>∀ W:World,Kp w W→Calls Tryz.prog 38 #[.float .f64 x,.float .f64 y] W fun e w'=>e = .returned (.float .f64 z)∧Kp W w') (fun _ _ _ h=>h) (h4 c2 c3 c4) trivial
end Go.Proofs.YtaidnpjgkkdloaaGreatDoor
