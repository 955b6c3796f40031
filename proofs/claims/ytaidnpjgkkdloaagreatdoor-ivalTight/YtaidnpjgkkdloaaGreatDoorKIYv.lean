import Derived.Test.YtaidnpjgkkdloaaGreatDoorKIYa
set_option maxHeartbeats 1000000
set_option maxRecDepth 20000
namespace Go.Proofs.YtaidnpjgkkdloaaGreatDoor
open Go.RowKit
set_option linter.unusedVariables false
theorem lsF1_ (a b c d Z1 Z2 Z:Nat) (bp:Nat) (A1 B1 C1 D1:Bool) (tA1:(FloatKind.f64.format.order a 0 == some Ordering.lt) = A1) (tB1:(FloatKind.f64.format.order b 0 == some Ordering.gt) = B1) (tC1:(FloatKind.f64.format.order c 0 == some Ordering.lt) = C1) (tD1:(FloatKind.f64.format.order d 0 == some Ordering.gt) = D1) (q:(A1 && B1 && C1 && D1) = true) (w:World) (PL:Nat→Nat→Nat→Prop) (hL:∀ x y z,PL x y z→∀ W:World,Kp w W→Calls Tryz.prog 78 #[.float .f64 x,.float .f64 y,.pointer (some ⟨bp,0,none⟩)] W fun e w'=>e = .returned (.float .f64 z)∧Kp W w') (f1:PL b c Z1) (f2:PL a d Z2) (hm:∀ (ts:Array TypeId) (t:TypeId) (w:World),(Builtin.min_ ts t #[.float .f64 Z1,.float .f64 Z2]).run Tryz.prog w = .ok (.float .f64 Z) w):Calls Tryz.prog 68 #[.agg #[.float .f64 a,.float .f64 b],.agg #[.float .f64 c,.float .f64 d],.func (.func 78) #[] #[.pointer (some ⟨bp,0,none⟩)]] w fun e w'=>e = .returned (.float .f64 Z)∧Kp w w':=by
  go_enter Tryz.func68,Tryz.ntmps68
  go_upto_region 2 with (first | (go_at_call 57;refine (Fq.inf1_ _).mono ?_;rintro e w1 ⟨rfl,g1⟩;have kw:Kp w w1:=(by rw [g1];exact (((Kp.refl w).alloc _).alloc _));have sw:H48 w1 w.heap.size (.float .f64 a) (.float .f64 b) (.float .f64 c) (.float .f64 d):=(by rw [g1];exact H48.new w (.float .f64 a) (.float .f64 b) (.float .f64 c) (.float .f64 d) 32 32);clear g1;obtain ⟨⟨p0,p1,p2,p3⟩,⟨p4,p5,p6,p7⟩⟩:=id sw))
  go_cut [9] (fun s9 wx=>s9 = .bool true∧wx = w1)
  case first =>
    cases A1 <;> cases B1 <;> cases C1 <;> cases D1 <;> first | (exfalso;revert q;decide) | skip
    all_goals (
      go_wp2_with fail
      go_meet
      exact ⟨rfl,rfl⟩)
  case rest =>
  obtain ⟨rfl,hwc⟩:=hcut
  replace kw:Kp w wc:=(by rw [hwc];exact kw)
  replace sw:=(show H48 wc w.heap.size (.float .f64 a) (.float .f64 b) (.float .f64 c) (.float .f64 d) by rw [hwc];exact sw)
  clear hwc
  generalize wc = w1 at kw sw ⊢
  obtain ⟨⟨p0,p1,p2,p3⟩,⟨p4,p5,p6,p7⟩⟩:=id sw
  go_wp2_with (first | (go_at_call 78;refine (hL _ _ _ (by with_reducible first | exact f1 | exact f2) _ kw).mono ?_;rintro e wx ⟨rfl,gx⟩;replace kw:=Kp.trans kw gx;replace sw:=H48.keep sw gx;clear gx;obtain ⟨⟨p0,p1,p2,p3⟩,⟨p4,p5,p6,p7⟩⟩:=id sw))
  exact bodyPost_ret (v:=.float .f64 Z) (by simp [results,Tryz.results68,go_sem]) rfl ⟨rfl,kw⟩
theorem lsF2_ (a b c d Z2 Z:Nat) (bp:Nat) (A1 B1 C1 D1:Bool) (tA1:(FloatKind.f64.format.order a 0 == some Ordering.lt) = A1) (tB1:(FloatKind.f64.format.order b 0 == some Ordering.gt) = B1) (tC1:(FloatKind.f64.format.order c 0 == some Ordering.lt) = C1) (tD1:(FloatKind.f64.format.order d 0 == some Ordering.gt) = D1) (q:(A1 && B1 && C1 && D1) = false) (q2:(A1 && D1) = true) (w:World) (PL:Nat→Nat→Nat→Prop) (hL:∀ x y z,PL x y z→∀ W:World,Kp w W→Calls Tryz.prog 78 #[.float .f64 x,.float .f64 y,.pointer (some ⟨bp,0,none⟩)] W fun e w'=>e = .returned (.float .f64 z)∧Kp W w') (f1:PL a d Z2) (f2:True) (hm:∀ (ts:Array TypeId) (t:TypeId) (w:World),(Builtin.min_ ts t #[.float .f64 9218868437227405312,.float .f64 Z2]).run Tryz.prog w = .ok (.float .f64 Z) w):Calls Tryz.prog 68 #[.agg #[.float .f64 a,.float .f64 b],.agg #[.float .f64 c,.float .f64 d],.func (.func 78) #[] #[.pointer (some ⟨bp,0,none⟩)]] w fun e w'=>e = .returned (.float .f64 Z)∧Kp w w':=by
  go_enter Tryz.func68,Tryz.ntmps68
  go_upto_region 2 with (first | (go_at_call 57;refine (Fq.inf1_ _).mono ?_;rintro e w1 ⟨rfl,g1⟩;have kw:Kp w w1:=(by rw [g1];exact (((Kp.refl w).alloc _).alloc _));have sw:H48 w1 w.heap.size (.float .f64 a) (.float .f64 b) (.float .f64 c) (.float .f64 d):=(by rw [g1];exact H48.new w (.float .f64 a) (.float .f64 b) (.float .f64 c) (.float .f64 d) 32 32);clear g1;obtain ⟨⟨p0,p1,p2,p3⟩,⟨p4,p5,p6,p7⟩⟩:=id sw))
  go_cut [9] (fun s9 wx=>s9 = .bool false∧wx = w1)
  case first =>
    cases A1 <;> cases B1 <;> cases C1 <;> cases D1 <;> first | (exfalso;revert q;decide) | skip
    all_goals (
      go_wp2_with fail
      go_meet
      exact ⟨rfl,rfl⟩)
  case rest =>
  obtain ⟨rfl,hwc⟩:=hcut
  replace kw:Kp w wc:=(by rw [hwc];exact kw)
  replace sw:=(show H48 wc w.heap.size (.float .f64 a) (.float .f64 b) (.float .f64 c) (.float .f64 d) by rw [hwc];exact sw)
  clear hwc
  generalize wc = w1 at kw sw ⊢
  obtain ⟨⟨p0,p1,p2,p3⟩,⟨p4,p5,p6,p7⟩⟩:=id sw
  go_upto_region 3 with (first | fail)
  go_cut [28] (fun s28 wx=>s28 = .bool true∧wx = w1)
  case first =>
    cases A1 <;> cases D1 <;> first | (exfalso;revert q2;decide) | skip
    all_goals (
      go_wp2_with fail
      go_meet
      exact ⟨rfl,rfl⟩)
  case rest =>
  obtain ⟨rfl,hwc⟩:=hcut
  replace kw:Kp w wc:=(by rw [hwc];exact kw)
  replace sw:=(show H48 wc w.heap.size (.float .f64 a) (.float .f64 b) (.float .f64 c) (.float .f64 d) by rw [hwc];exact sw)
  clear hwc
  generalize wc = w1 at kw sw ⊢
  obtain ⟨⟨p0,p1,p2,p3⟩,⟨p4,p5,p6,p7⟩⟩:=id sw
  go_wp2_with (first | (go_at_call 78;refine (hL _ _ _ (by with_reducible first | exact f1 | exact f2) _ kw).mono ?_;rintro e wx ⟨rfl,gx⟩;replace kw:=Kp.trans kw gx;replace sw:=H48.keep sw gx;clear gx;obtain ⟨⟨p0,p1,p2,p3⟩,⟨p4,p5,p6,p7⟩⟩:=id sw))
  exact bodyPost_ret (v:=.float .f64 Z) (by simp [results,Tryz.results68,go_sem]) rfl ⟨rfl,kw⟩
theorem lsF3_ (a b c d Z:Nat) (bp:Nat) (A1 B1 C1 D1:Bool) (tA1:(FloatKind.f64.format.order a 0 == some Ordering.lt) = A1) (tB1:(FloatKind.f64.format.order b 0 == some Ordering.gt) = B1) (tC1:(FloatKind.f64.format.order c 0 == some Ordering.lt) = C1) (tD1:(FloatKind.f64.format.order d 0 == some Ordering.gt) = D1) (q:(A1 && B1 && C1 && D1) = false) (q2:(A1 && D1) = false) (q3:(B1 && C1) = true) (w:World) (PL:Nat→Nat→Nat→Prop) (hL:∀ x y z,PL x y z→∀ W:World,Kp w W→Calls Tryz.prog 78 #[.float .f64 x,.float .f64 y,.pointer (some ⟨bp,0,none⟩)] W fun e w'=>e = .returned (.float .f64 z)∧Kp W w') (f1:PL b c Z) (f2:True):Calls Tryz.prog 68 #[.agg #[.float .f64 a,.float .f64 b],.agg #[.float .f64 c,.float .f64 d],.func (.func 78) #[] #[.pointer (some ⟨bp,0,none⟩)]] w fun e w'=>e = .returned (.float .f64 Z)∧Kp w w':=by
  go_enter Tryz.func68,Tryz.ntmps68
  go_upto_region 2 with (first | (go_at_call 57;refine (Fq.inf1_ _).mono ?_;rintro e w1 ⟨rfl,g1⟩;have kw:Kp w w1:=(by rw [g1];exact (((Kp.refl w).alloc _).alloc _));have sw:H48 w1 w.heap.size (.float .f64 a) (.float .f64 b) (.float .f64 c) (.float .f64 d):=(by rw [g1];exact H48.new w (.float .f64 a) (.float .f64 b) (.float .f64 c) (.float .f64 d) 32 32);clear g1;obtain ⟨⟨p0,p1,p2,p3⟩,⟨p4,p5,p6,p7⟩⟩:=id sw))
  go_cut [9] (fun s9 wx=>s9 = .bool false∧wx = w1)
  case first =>
    cases A1 <;> cases B1 <;> cases C1 <;> cases D1 <;> first | (exfalso;revert q;decide) | skip
    all_goals (
      go_wp2_with fail
      go_meet
      exact ⟨rfl,rfl⟩)
  case rest =>
  obtain ⟨rfl,hwc⟩:=hcut
  replace kw:Kp w wc:=(by rw [hwc];exact kw)
  replace sw:=(show H48 wc w.heap.size (.float .f64 a) (.float .f64 b) (.float .f64 c) (.float .f64 d) by rw [hwc];exact sw)
  clear hwc
  generalize wc = w1 at kw sw ⊢
  obtain ⟨⟨p0,p1,p2,p3⟩,⟨p4,p5,p6,p7⟩⟩:=id sw
  go_upto_region 3 with (first | fail)
  go_cut [28] (fun s28 wx=>s28 = .bool false∧wx = w1)
  case first =>
    cases A1 <;> cases D1 <;> first | (exfalso;revert q2;decide) | skip
    all_goals (
      go_wp2_with fail
      go_meet
      exact ⟨rfl,rfl⟩)
  case rest =>
  obtain ⟨rfl,hwc⟩:=hcut
  replace kw:Kp w wc:=(by rw [hwc];exact kw)
  replace sw:=(show H48 wc w.heap.size (.float .f64 a) (.float .f64 b) (.float .f64 c) (.float .f64 d) by rw [hwc];exact sw)
  clear hwc
  generalize wc = w1 at kw sw ⊢
  obtain ⟨⟨p0,p1,p2,p3⟩,⟨p4,p5,p6,p7⟩⟩:=id sw
  go_upto_region 4 with (first | fail)
  go_cut [37] (fun s37 wx=>s37 = .bool true∧wx = w1)
  case first =>
    cases B1 <;> cases C1 <;> first | (exfalso;revert q3;decide) | skip
    all_goals (
      go_wp2_with fail
      go_meet
      exact ⟨rfl,rfl⟩)
  case rest =>
  obtain ⟨rfl,hwc⟩:=hcut
  replace kw:Kp w wc:=(by rw [hwc];exact kw)
  replace sw:=(show H48 wc w.heap.size (.float .f64 a) (.float .f64 b) (.float .f64 c) (.float .f64 d) by rw [hwc];exact sw)
  clear hwc
  generalize wc = w1 at kw sw ⊢
  obtain ⟨⟨p0,p1,p2,p3⟩,⟨p4,p5,p6,p7⟩⟩:=id sw
  go_wp2_with (first | (go_at_call 78;refine (hL _ _ _ (by with_reducible first | exact f1 | exact f2) _ kw).mono ?_;rintro e wx ⟨rfl,gx⟩;replace kw:=Kp.trans kw gx;replace sw:=H48.keep sw gx;clear gx;obtain ⟨⟨p0,p1,p2,p3⟩,⟨p4,p5,p6,p7⟩⟩:=id sw))
  exact bodyPost_ret (v:=.float .f64 Z) (by simp [results,Tryz.results68,go_sem]) rfl ⟨rfl,kw⟩
theorem lsF4_ (a b c d Z:Nat) (bp:Nat) (A1 B1 C1 D1 B2 D2:Bool) (tA1:(FloatKind.f64.format.order a 0 == some Ordering.lt) = A1) (tB1:(FloatKind.f64.format.order b 0 == some Ordering.gt) = B1) (tC1:(FloatKind.f64.format.order c 0 == some Ordering.lt) = C1) (tD1:(FloatKind.f64.format.order d 0 == some Ordering.gt) = D1) (tB2:(FloatKind.f64.format.order b 0 == some Ordering.lt || FloatKind.f64.format.order b 0 == some Ordering.eq) = B2) (tD2:(FloatKind.f64.format.order d 0 == some Ordering.lt || FloatKind.f64.format.order d 0 == some Ordering.eq) = D2) (q:(A1 && B1 && C1 && D1) = false) (q2:(A1 && D1) = false) (q3:(B1 && C1) = false) (q4:(B2 && D2) = true) (w:World) (PL:Nat→Nat→Nat→Prop) (hL:∀ x y z,PL x y z→∀ W:World,Kp w W→Calls Tryz.prog 78 #[.float .f64 x,.float .f64 y,.pointer (some ⟨bp,0,none⟩)] W fun e w'=>e = .returned (.float .f64 z)∧Kp W w') (f1:PL b d Z) (f2:True):Calls Tryz.prog 68 #[.agg #[.float .f64 a,.float .f64 b],.agg #[.float .f64 c,.float .f64 d],.func (.func 78) #[] #[.pointer (some ⟨bp,0,none⟩)]] w fun e w'=>e = .returned (.float .f64 Z)∧Kp w w':=by
  go_enter Tryz.func68,Tryz.ntmps68
  go_upto_region 2 with (first | (go_at_call 57;refine (Fq.inf1_ _).mono ?_;rintro e w1 ⟨rfl,g1⟩;have kw:Kp w w1:=(by rw [g1];exact (((Kp.refl w).alloc _).alloc _));have sw:H48 w1 w.heap.size (.float .f64 a) (.float .f64 b) (.float .f64 c) (.float .f64 d):=(by rw [g1];exact H48.new w (.float .f64 a) (.float .f64 b) (.float .f64 c) (.float .f64 d) 32 32);clear g1;obtain ⟨⟨p0,p1,p2,p3⟩,⟨p4,p5,p6,p7⟩⟩:=id sw))
  go_cut [9] (fun s9 wx=>s9 = .bool false∧wx = w1)
  case first =>
    cases A1 <;> cases B1 <;> cases C1 <;> cases D1 <;> first | (exfalso;revert q;decide) | skip
    all_goals (
      go_wp2_with fail
      go_meet
      exact ⟨rfl,rfl⟩)
  case rest =>
  obtain ⟨rfl,hwc⟩:=hcut
  replace kw:Kp w wc:=(by rw [hwc];exact kw)
  replace sw:=(show H48 wc w.heap.size (.float .f64 a) (.float .f64 b) (.float .f64 c) (.float .f64 d) by rw [hwc];exact sw)
  clear hwc
  generalize wc = w1 at kw sw ⊢
  obtain ⟨⟨p0,p1,p2,p3⟩,⟨p4,p5,p6,p7⟩⟩:=id sw
  go_upto_region 3 with (first | fail)
  go_cut [28] (fun s28 wx=>s28 = .bool false∧wx = w1)
  case first =>
    cases A1 <;> cases D1 <;> first | (exfalso;revert q2;decide) | skip
    all_goals (
      go_wp2_with fail
      go_meet
      exact ⟨rfl,rfl⟩)
  case rest =>
  obtain ⟨rfl,hwc⟩:=hcut
  replace kw:Kp w wc:=(by rw [hwc];exact kw)
  replace sw:=(show H48 wc w.heap.size (.float .f64 a) (.float .f64 b) (.float .f64 c) (.float .f64 d) by rw [hwc];exact sw)
  clear hwc
  generalize wc = w1 at kw sw ⊢
  obtain ⟨⟨p0,p1,p2,p3⟩,⟨p4,p5,p6,p7⟩⟩:=id sw
  go_upto_region 4 with (first | fail)
  go_cut [37] (fun s37 wx=>s37 = .bool false∧wx = w1)
  case first =>
    cases B1 <;> cases C1 <;> first | (exfalso;revert q3;decide) | skip
    all_goals (
      go_wp2_with fail
      go_meet
      exact ⟨rfl,rfl⟩)
  case rest =>
  obtain ⟨rfl,hwc⟩:=hcut
  replace kw:Kp w wc:=(by rw [hwc];exact kw)
  replace sw:=(show H48 wc w.heap.size (.float .f64 a) (.float .f64 b) (.float .f64 c) (.float .f64 d) by rw [hwc];exact sw)
  clear hwc
  generalize wc = w1 at kw sw ⊢
  obtain ⟨⟨p0,p1,p2,p3⟩,⟨p4,p5,p6,p7⟩⟩:=id sw
  go_upto_region 5 with (first | fail)
  go_cut [46] (fun s46 wx=>s46 = .bool true∧wx = w1)
  case first =>
    cases B2 <;> cases D2 <;> first | (exfalso;revert q4;decide) | skip
    all_goals (
      go_wp2_with fail
      go_meet
      exact ⟨rfl,rfl⟩)
  case rest =>
  obtain ⟨rfl,hwc⟩:=hcut
  replace kw:Kp w wc:=(by rw [hwc];exact kw)
  replace sw:=(show H48 wc w.heap.size (.float .f64 a) (.float .f64 b) (.float .f64 c) (.float .f64 d) by rw [hwc];exact sw)
  clear hwc
  generalize wc = w1 at kw sw ⊢
  obtain ⟨⟨p0,p1,p2,p3⟩,⟨p4,p5,p6,p7⟩⟩:=id sw
  go_wp2_with (first | (go_at_call 78;refine (hL _ _ _ (by with_reducible first | exact f1 | exact f2) _ kw).mono ?_;rintro e wx ⟨rfl,gx⟩;replace kw:=Kp.trans kw gx;replace sw:=H48.keep sw gx;clear gx;obtain ⟨⟨p0,p1,p2,p3⟩,⟨p4,p5,p6,p7⟩⟩:=id sw))
  exact bodyPost_ret (v:=.float .f64 Z) (by simp [results,Tryz.results68,go_sem]) rfl ⟨rfl,kw⟩
theorem lsF5_ (a b c d Z:Nat) (bp:Nat) (A1 B1 C1 D1 B2 D2:Bool) (tA1:(FloatKind.f64.format.order a 0 == some Ordering.lt) = A1) (tB1:(FloatKind.f64.format.order b 0 == some Ordering.gt) = B1) (tC1:(FloatKind.f64.format.order c 0 == some Ordering.lt) = C1) (tD1:(FloatKind.f64.format.order d 0 == some Ordering.gt) = D1) (tB2:(FloatKind.f64.format.order b 0 == some Ordering.lt || FloatKind.f64.format.order b 0 == some Ordering.eq) = B2) (tD2:(FloatKind.f64.format.order d 0 == some Ordering.lt || FloatKind.f64.format.order d 0 == some Ordering.eq) = D2) (q:(A1 && B1 && C1 && D1) = false) (q2:(A1 && D1) = false) (q3:(B1 && C1) = false) (q4:(B2 && D2) = false) (w:World) (PL:Nat→Nat→Nat→Prop) (hL:∀ x y z,PL x y z→∀ W:World,Kp w W→Calls Tryz.prog 78 #[.float .f64 x,.float .f64 y,.pointer (some ⟨bp,0,none⟩)] W fun e w'=>e = .returned (.float .f64 z)∧Kp W w') (f1:PL a c Z) (f2:True):Calls Tryz.prog 68 #[.agg #[.float .f64 a,.float .f64 b],.agg #[.float .f64 c,.float .f64 d],.func (.func 78) #[] #[.pointer (some ⟨bp,0,none⟩)]] w fun e w'=>e = .returned (.float .f64 Z)∧Kp w w':=by
  go_enter Tryz.func68,Tryz.ntmps68
  go_upto_region 2 with (first | (go_at_call 57;refine (Fq.inf1_ _).mono ?_;rintro e w1 ⟨rfl,g1⟩;have kw:Kp w w1:=(by rw [g1];exact (((Kp.refl w).alloc _).alloc _));have sw:H48 w1 w.heap.size (.float .f64 a) (.float .f64 b) (.float .f64 c) (.float .f64 d):=(by rw [g1];exact H48.new w (.float .f64 a) (.float .f64 b) (.float .f64 c) (.float .f64 d) 32 32);clear g1;obtain ⟨⟨p0,p1,p2,p3⟩,⟨p4,p5,p6,p7⟩⟩:=id sw))
  go_cut [9] (fun s9 wx=>s9 = .bool false∧wx = w1)
  case first =>
    cases A1 <;> cases B1 <;> cases C1 <;> cases D1 <;> first | (exfalso;revert q;decide) | skip
    all_goals (
      go_wp2_with fail
      go_meet
      exact ⟨rfl,rfl⟩)
  case rest =>
  obtain ⟨rfl,hwc⟩:=hcut
  replace kw:Kp w wc:=(by rw [hwc];exact kw)
  replace sw:=(show H48 wc w.heap.size (.float .f64 a) (.float .f64 b) (.float .f64 c) (.float .f64 d) by rw [hwc];exact sw)
  clear hwc
  generalize wc = w1 at kw sw ⊢
  obtain ⟨⟨p0,p1,p2,p3⟩,⟨p4,p5,p6,p7⟩⟩:=id sw
  go_upto_region 3 with (first | fail)
  go_cut [28] (fun s28 wx=>s28 = .bool false∧wx = w1)
  case first =>
    cases A1 <;> cases D1 <;> first | (exfalso;revert q2;decide) | skip
    all_goals (
      go_wp2_with fail
      go_meet
      exact ⟨rfl,rfl⟩)
  case rest =>
  obtain ⟨rfl,hwc⟩:=hcut
  replace kw:Kp w wc:=(by rw [hwc];exact kw)
  replace sw:=(show H48 wc w.heap.size (.float .f64 a) (.float .f64 b) (.float .f64 c) (.float .f64 d) by rw [hwc];exact sw)
  clear hwc
  generalize wc = w1 at kw sw ⊢
  obtain ⟨⟨p0,p1,p2,p3⟩,⟨p4,p5,p6,p7⟩⟩:=id sw
  go_upto_region 4 with (first | fail)
  go_cut [37] (fun s37 wx=>s37 = .bool false∧wx = w1)
  case first =>
    cases B1 <;> cases C1 <;> first | (exfalso;revert q3;decide) | skip
    all_goals (
      go_wp2_with fail
      go_meet
      exact ⟨rfl,rfl⟩)
  case rest =>
  obtain ⟨rfl,hwc⟩:=hcut
  replace kw:Kp w wc:=(by rw [hwc];exact kw)
  replace sw:=(show H48 wc w.heap.size (.float .f64 a) (.float .f64 b) (.float .f64 c) (.float .f64 d) by rw [hwc];exact sw)
  clear hwc
  generalize wc = w1 at kw sw ⊢
  obtain ⟨⟨p0,p1,p2,p3⟩,⟨p4,p5,p6,p7⟩⟩:=id sw
  go_upto_region 5 with (first | fail)
  go_cut [46] (fun s46 wx=>s46 = .bool false∧wx = w1)
  case first =>
    cases B2 <;> cases D2 <;> first | (exfalso;revert q4;decide) | skip
    all_goals (
      go_wp2_with fail
      go_meet
      exact ⟨rfl,rfl⟩)
  case rest =>
  obtain ⟨rfl,hwc⟩:=hcut
  replace kw:Kp w wc:=(by rw [hwc];exact kw)
  replace sw:=(show H48 wc w.heap.size (.float .f64 a) (.float .f64 b) (.float .f64 c) (.float .f64 d) by rw [hwc];exact sw)
  clear hwc
  generalize wc = w1 at kw sw ⊢
  obtain ⟨⟨p0,p1,p2,p3⟩,⟨p4,p5,p6,p7⟩⟩:=id sw
  go_wp2_with (first | (go_at_call 78;refine (hL _ _ _ (by with_reducible first | exact f1 | exact f2) _ kw).mono ?_;rintro e wx ⟨rfl,gx⟩;replace kw:=Kp.trans kw gx;replace sw:=H48.keep sw gx;clear gx;obtain ⟨⟨p0,p1,p2,p3⟩,⟨p4,p5,p6,p7⟩⟩:=id sw))
  exact bodyPost_ret (v:=.float .f64 Z) (by simp [results,Tryz.results68,go_sem]) rfl ⟨rfl,kw⟩

theorem lsQ9_ (g:Int→Int→Int) (L1 H1 L2 H2:Int) (b1:BdZ L1) (b2:BdZ H1) (b3:BdZ L2) (b4:BdZ H2) (w:World) (h1:0 < H1→L2 < 0→∀ W:World,Kp w W→Calls Tryz.prog 44 #[.float .f64 (pw H1),.float .f64 (pw L2)] W fun e w'=>e = .returned (.float .f64 (pw (g H1 L2)))∧Kp W w') (h2:L1 < 0→0 < H2→∀ W:World,Kp w W→Calls Tryz.prog 44 #[.float .f64 (pw L1),.float .f64 (pw H2)] W fun e w'=>e = .returned (.float .f64 (pw (g L1 H2)))∧Kp W w') (h3:H1≤0→H2≤0→¬ (L1 < 0∧0 < H2)→∀ W:World,Kp w W→Calls Tryz.prog 44 #[.float .f64 (pw H1),.float .f64 (pw H2)] W fun e w'=>e = .returned (.float .f64 (pw (g H1 H2)))∧Kp W w') (h4:¬ (L1 < 0∧0 < H2)→¬ (0 < H1∧L2 < 0)→¬ (H1≤0∧H2≤0)→∀ W:World,Kp w W→Calls Tryz.prog 44 #[.float .f64 (pw L1),.float .f64 (pw L2)] W fun e w'=>e = .returned (.float .f64 (pw (g L1 L2)))∧Kp W w') (hg1:BdZ (g H1 L2)) (hg2:BdZ (g L1 H2)):Calls Tryz.prog 68 #[.agg #[.float .f64 (pw L1),.float .f64 (pw H1)],.agg #[.float .f64 (pw L2),.float .f64 (pw H2)],.func (.func 44) #[] #[]] w fun e w'=>e = .returned (.float .f64 (pw (lst g L1 H1 L2 H2)))∧Kp w w':=by
  unfold lst
  by_cases c1:L1 < 0∧0 < H1∧L2 < 0∧0 < H2
  · rw [if_pos c1]
    exact lsQ1_ _ _ _ _ _ _ _ _ _ _ _ (lt0_pw L1 b1) (gt0_pw H1 b2) (lt0_pw L2 b3) (gt0_pw H2 b4) (by simp [c1]) w (fun x y z=>∀ W:World,Kp w W→Calls Tryz.prog 44 #[.float .f64 x,.float .f64 y] W fun e w'=>e = .returned (.float .f64 z)∧Kp W w') (fun _ _ _ h=>h) (h1 c1.2.1 c1.2.2.1) (h2 c1.1 c1.2.2.2) (min9_ _ _ hg1 hg2)
  rw [if_neg c1]
  have q1:(decide (L1 < 0) && decide (0 < H1) && decide (L2 < 0) && decide (0 < H2)) = false:=by
    by_cases e1:L1 < 0 <;> by_cases e2:0 < H1 <;> by_cases e3:L2 < 0 <;> by_cases e4:0 < H2 <;> simp [e1,e2,e3,e4] <;> omega
  by_cases c2:L1 < 0∧0 < H2
  · rw [if_pos c2]
    have hm:=min9_ 9218868437227405312 (g L1 H2) (by unfold BdZ;omega) hg2
    rw [pw_I,show min 9218868437227405312 (g L1 H2) = g L1 H2 from by unfold BdZ at hg2;omega] at hm
    exact lsQ2_ _ _ _ _ _ _ _ _ _ _ (lt0_pw L1 b1) (gt0_pw H1 b2) (lt0_pw L2 b3) (gt0_pw H2 b4) q1 (by simp [c2]) w (fun x y z=>∀ W:World,Kp w W→Calls Tryz.prog 44 #[.float .f64 x,.float .f64 y] W fun e w'=>e = .returned (.float .f64 z)∧Kp W w') (fun _ _ _ h=>h) (h2 c2.1 c2.2) trivial hm
  rw [if_neg c2]
  have q2:(decide (L1 < 0) && decide (0 < H2)) = false:=by
    by_cases e1:L1 < 0 <;> by_cases e4:0 < H2 <;> simp [e1,e4] <;> omega
  by_cases c3:0 < H1∧L2 < 0
  · rw [if_pos c3]
    exact lsQ3_ _ _ _ _ _ _ _ _ _ (lt0_pw L1 b1) (gt0_pw H1 b2) (lt0_pw L2 b3) (gt0_pw H2 b4) q1 q2 (by simp [c3]) w (fun x y z=>∀ W:World,Kp w W→Calls Tryz.prog 44 #[.float .f64 x,.float .f64 y] W fun e w'=>e = .returned (.float .f64 z)∧Kp W w') (fun _ _ _ h=>h) (h1 c3.1 c3.2) trivial
  rw [if_neg c3]
  have q3:(decide (0 < H1) && decide (L2 < 0)) = false:=by
    by_cases e1:0 < H1 <;> by_cases e4:L2 < 0 <;> simp [e1,e4] <;> omega
  by_cases c4:H1≤0∧H2≤0
  · rw [if_pos c4]
    exact lsQ4_ _ _ _ _ _ _ _ _ _ _ _ (lt0_pw L1 b1) (gt0_pw H1 b2) (lt0_pw L2 b3) (gt0_pw H2 b4) (le0_pw H1 b2) (le0_pw H2 b4) q1 q2 q3 (by simp [c4]) w (fun x y z=>∀ W:World,Kp w W→Calls Tryz.prog 44 #[.float .f64 x,.float .f64 y] W fun e w'=>e = .returned (.float .f64 z)∧Kp W w') (fun _ _ _ h=>h) (h3 c4.1 c4.2 c2) trivial
  rw [if_neg c4]
  have q4:(decide (H1≤0) && decide (H2≤0)) = false:=by
    by_cases e1:H1≤0 <;> by_cases e4:H2≤0 <;> simp [e1,e4] <;> omega
  exact lsQ5_ _ _ _ _ _ _ _ _ _ _ _ (lt0_pw L1 b1) (gt0_pw H1 b2) (lt0_pw L2 b3) (gt0_pw H2 b4) (le0_pw H1 b2) (le0_pw H2 b4) q1 q2 q3 q4 w (fun x y z=>∀ W:World,Kp w W→Calls Tryz.prog 44 #[.float .f64 x,.float .f64 y] W fun e w'=>e = .returned (.float .f64 z)∧Kp W w') (fun _ _ _ h=>h) (h4 c2 c3 c4) trivial

theorem lsF9_ (g:Int→Int→Int) (L1 H1 L2 H2:Int) (bp:Nat) (b1:BdZ L1) (b2:BdZ H1) (b3:BdZ L2) (b4:BdZ H2) (w:World) (h1:0 < H1→L2 < 0→∀ W:World,Kp w W→Calls Tryz.prog 78 #[.float .f64 (pw H1),.float .f64 (pw L2),.pointer (some ⟨bp,0,none⟩)] W fun e w'=>e = .returned (.float .f64 (pw (g H1 L2)))∧Kp W w') (h2:L1 < 0→0 < H2→∀ W:World,Kp w W→Calls Tryz.prog 78 #[.float .f64 (pw L1),.float .f64 (pw H2),.pointer (some ⟨bp,0,none⟩)] W fun e w'=>e = .returned (.float .f64 (pw (g L1 H2)))∧Kp W w') (h3:H1≤0→H2≤0→¬ (L1 < 0∧0 < H2)→∀ W:World,Kp w W→Calls Tryz.prog 78 #[.float .f64 (pw H1),.float .f64 (pw H2),.pointer (some ⟨bp,0,none⟩)] W fun e w'=>e = .returned (.float .f64 (pw (g H1 H2)))∧Kp W w') (h4:¬ (L1 < 0∧0 < H2)→¬ (0 < H1∧L2 < 0)→¬ (H1≤0∧H2≤0)→∀ W:World,Kp w W→Calls Tryz.prog 78 #[.float .f64 (pw L1),.float .f64 (pw L2),.pointer (some ⟨bp,0,none⟩)] W fun e w'=>e = .returned (.float .f64 (pw (g L1 L2)))∧Kp W w') (hg1:BdZ (g H1 L2)) (hg2:BdZ (g L1 H2)):Calls Tryz.prog 68 #[.agg #[.float .f64 (pw L1),.float .f64 (pw H1)],.agg #[.float .f64 (pw L2),.float .f64 (pw H2)],.func (.func 78) #[] #[.pointer (some ⟨bp,0,none⟩)]] w fun e w'=>e = .returned (.float .f64 (pw (lst g L1 H1 L2 H2)))∧Kp w w':=by
  unfold lst
  by_cases c1:L1 < 0∧0 < H1∧L2 < 0∧0 < H2
  · rw [if_pos c1]
    exact lsF1_ _ _ _ _ _ _ _ bp _ _ _ _ (lt0_pw L1 b1) (gt0_pw H1 b2) (lt0_pw L2 b3) (gt0_pw H2 b4) (by simp [c1]) w (fun x y z=>∀ W:World,Kp w W→Calls Tryz.prog 78 #[.float .f64 x,.float .f64 y,.pointer (some ⟨bp,0,none⟩)] W fun e w'=>e = .returned (.float .f64 z)∧Kp W w') (fun _ _ _ h=>h) (h1 c1.2.1 c1.2.2.1) (h2 c1.1 c1.2.2.2) (min9_ _ _ hg1 hg2)
  rw [if_neg c1]
  have q1:(decide (L1 < 0) && decide (0 < H1) && decide (L2 < 0) && decide (0 < H2)) = false:=by
    by_cases e1:L1 < 0 <;> by_cases e2:0 < H1 <;> by_cases e3:L2 < 0 <;> by_cases e4:0 < H2 <;> simp [e1,e2,e3,e4] <;> omega
  by_cases c2:L1 < 0∧0 < H2
  · rw [if_pos c2]
    have hm:=min9_ 9218868437227405312 (g L1 H2) (by unfold BdZ;omega) hg2
    rw [pw_I,show min 9218868437227405312 (g L1 H2) = g L1 H2 from by unfold BdZ at hg2;omega] at hm
    exact lsF2_ _ _ _ _ _ _ bp _ _ _ _ (lt0_pw L1 b1) (gt0_pw H1 b2) (lt0_pw L2 b3) (gt0_pw H2 b4) q1 (by simp [c2]) w (fun x y z=>∀ W:World,Kp w W→Calls Tryz.prog 78 #[.float .f64 x,.float .f64 y,.pointer (some ⟨bp,0,none⟩)] W fun e w'=>e = .returned (.float .f64 z)∧Kp W w') (fun _ _ _ h=>h) (h2 c2.1 c2.2) trivial hm
  rw [if_neg c2]
  have q2:(decide (L1 < 0) && decide (0 < H2)) = false:=by
    by_cases e1:L1 < 0 <;> by_cases e4:0 < H2 <;> simp [e1,e4] <;> omega
  by_cases c3:0 < H1∧L2 < 0
  · rw [if_pos c3]
    exact lsF3_ _ _ _ _ _ bp _ _ _ _ (lt0_pw L1 b1) (gt0_pw H1 b2) (lt0_pw L2 b3) (gt0_pw H2 b4) q1 q2 (by simp [c3]) w (fun x y z=>∀ W:World,Kp w W→Calls Tryz.prog 78 #[.float .f64 x,.float .f64 y,.pointer (some ⟨bp,0,none⟩)] W fun e w'=>e = .returned (.float .f64 z)∧Kp W w') (fun _ _ _ h=>h) (h1 c3.1 c3.2) trivial
  rw [if_neg c3]
  have q3:(decide (0 < H1) && decide (L2 < 0)) = false:=by
    by_cases e1:0 < H1 <;> by_cases e4:L2 < 0 <;> simp [e1,e4] <;> omega
  by_cases c4:H1≤0∧H2≤0
  · rw [if_pos c4]
    exact lsF4_ _ _ _ _ _ bp _ _ _ _ _ _ (lt0_pw L1 b1) (gt0_pw H1 b2) (lt0_pw L2 b3) (gt0_pw H2 b4) (le0_pw H1 b2) (le0_pw H2 b4) q1 q2 q3 (by simp [c4]) w (fun x y z=>∀ W:World,Kp w W→Calls Tryz.prog 78 #[.float .f64 x,.float .f64 y,.pointer (some ⟨bp,0,none⟩)] W fun e w'=>e = .returned (.float .f64 z)∧Kp W w') (fun _ _ _ h=>h) (h3 c4.1 c4.2 c2) trivial
  rw [if_neg c4]
  have q4:(decide (H1≤0) && decide (H2≤0)) = false:=by
    by_cases e1:H1≤0 <;> by_cases e4:H2≤0 <;> simp [e1,e4] <;> omega
  exact lsF5_ _ _ _ _ _ bp _ _ _ _ _ _ (lt0_pw L1 b1) (gt0_pw H1 b2) (lt0_pw L2 b3) (gt0_pw H2 b4) (le0_pw H1 b2) (le0_pw H2 b4) q1 q2 q3 q4 w (fun x y z=>∀ W:World,Kp w W→Calls Tryz.prog 78 #[.float .f64 x,.float .f64 y,.pointer (some ⟨bp,0,none⟩)] W fun e w'=>e = .returned (.float .f64 z)∧Kp W w') (fun _ _ _ h=>h) (h4 c2 c3 c4) trivial
theorem timesR (v1 v2:Value) (a b:Nat) (w:World) (h1:Ls w v1 (dig a)) (h2:Ls w v2 (dig b)) (l1:len32 a≤16384) (l2:len32 b≤16384) :
    Calls Tryz.prog 31 #[v1,v2] w fun e w'=>∃ p c,e = .returned (.slice p (dig (a * b)).length c)∧Arr w' p (dig (a * b))∧(dig (a * b)).length≤c∧Kp w w':=by
  obtain ⟨p,c,rfl,hA,hc⟩:=h1
  obtain ⟨q,d,rfl,hB,hd⟩:=h2
  have h:=rtimes_ p q c d (dig a) (dig b) w hA hB (Wd_dig a) (Wd_dig b) (by change len32 a≤_;omega) (by change len32 b≤_;omega)
  rw [val_dig,val_dig] at h
  refine h.mono ?_
  rintro e w' ⟨v,h1,h2,h3⟩
  obtain ⟨p,c,rfl,h4,h5⟩:=h2.arr
  exact ⟨p,c,h1,h4,h5,h3⟩
theorem plusR (v1 v2:Value) (a b:Nat) (w:World) (h1:Ls w v1 (dig a)) (h2:Ls w v2 (dig b)) (l1:len32 a≤32768) (l2:len32 b≤32768) :
    Calls Tryz.prog 32 #[v1,v2] w fun e w'=>∃ p c,e = .returned (.slice p (dig (a + b)).length c)∧Arr w' p (dig (a + b))∧(dig (a + b)).length≤c∧Kp w w':=by
  obtain ⟨p,c,rfl,hA,hc⟩:=h1
  obtain ⟨q,d,rfl,hB,hd⟩:=h2
  have h:=rplus_ p q c d (dig a) (dig b) w hA hB (Wd_dig a) (Wd_dig b) (by change len32 a < _;omega) (by change len32 b < _;omega)
  refine h.mono ?_
  rintro e w' ⟨v,L,h1,h2,h3,h4,_,h5⟩
  rw [val_dig,val_dig] at h4
  rw [nz_dig L h3,h4] at h2
  obtain ⟨p,c,rfl,h6,h7⟩:=h2.arr
  exact ⟨p,c,h1,h6,h7,h5⟩
theorem minusR (v1 v2:Value) (a b:Nat) (w:World) (h1:Ls w v1 (dig a)) (h2:Ls w v2 (dig b)) (l1:len32 a≤32768) (hle:b≤a) :
    Calls Tryz.prog 34 #[v1,v2] w fun e w'=>∃ p c,e = .returned (.slice p (dig (a - b)).length c)∧Arr w' p (dig (a - b))∧(dig (a - b)).length≤c∧Kp w w':=by
  obtain ⟨p,c,rfl,hA,hc⟩:=h1
  obtain ⟨q,d,rfl,hB,hd⟩:=h2
  have h:=rminus_ p q c d (dig a) (dig b) w hA hB (Wd_dig a) (Wd_dig b) (by change len32 a < _;omega) (by exact len32_mono hle) (by rw [val_dig,val_dig];exact hle)
  rw [val_dig,val_dig] at h
  refine h.mono ?_
  rintro e w' ⟨v,h1,h2,h3⟩
  obtain ⟨p,c,rfl,h4,h5⟩:=h2.arr
  exact ⟨p,c,h1,h4,h5,h3⟩
end Go.Proofs.YtaidnpjgkkdloaaGreatDoor
