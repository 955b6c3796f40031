import Derived.Test.YtngglmnhjjlgkaaGreatDoorKIYj
set_option maxHeartbeats 1000000
set_option maxRecDepth 20000
namespace Go.Proofs.YtngglmnhjjlgkaaGreatDoor
open Go.RowKit
set_option linter.unusedVariables false
theorem lsQ1_ (a b c d Z1 Z2 Z:Nat) (A1 B1 C1 D1:Bool) (tA1:(FloatKind.f64.format.order a 0 == some Ordering.lt) = A1) (tB1:(FloatKind.f64.format.order b 0 == some Ordering.gt) = B1) (tC1:(FloatKind.f64.format.order c 0 == some Ordering.lt) = C1) (tD1:(FloatKind.f64.format.order d 0 == some Ordering.gt) = D1) (q:(A1 && B1 && C1 && D1) = true) (w:World) (PL:Nat→Nat→Nat→Prop) (hL:∀ x y z,PL x y z→∀ W:World,Kp w W→Calls Tryz.prog 21 #[.float .f64 x,.float .f64 y] W fun e w'=>e = .returned (.float .f64 z)∧Kp W w') (f1:PL b c Z1) (f2:PL a d Z2) (hm:∀ (ts:Array TypeId) (t:TypeId) (w:World),(Builtin.min_ ts t #[.float .f64 Z1,.float .f64 Z2]).run Tryz.prog w = .ok (.float .f64 Z) w):Calls Tryz.prog 38 #[.agg #[.float .f64 a,.float .f64 b],.agg #[.float .f64 c,.float .f64 d],.func (.func 21) #[] #[]] w fun e w'=>e = .returned (.float .f64 Z)∧Kp w w':=by
 go_enter Tryz.func38,Tryz.ntmps38
 go_upto_region 2 with (first | (go_at_call 32;refine (Fq.inf1_ _).mono ?_;rintro e w1 ⟨rfl,g1⟩;have kw:Kp w w1:=(by rw [g1];exact (((Kp.refl w).alloc _).alloc _));have sw:H48 w1 w.heap.size (.float .f64 a) (.float .f64 b) (.float .f64 c) (.float .f64 d):=(by rw [g1];exact H48.new w (.float .f64 a) (.float .f64 b) (.float .f64 c) (.float .f64 d) 28 28);clear g1;obtain ⟨⟨p0,p1,p2,p3⟩,⟨p4,p5,p6,p7⟩⟩:=id sw))
 go_cut [9] (fun s9 wx=>s9 = .bool true∧wx = w1)
 case first =>
  cases A1 <;> cases B1 <;> cases C1 <;> cases D1 <;> first | (exfalso;revert q;decide) | skip
  all_goals (
   go_wp2_with fail
   go_meet
   exact ⟨rfl,rfl⟩)
 case rest =>
 obtain ⟨rfl,hwc⟩:=hcut
 replace kw:Kp w wc:=(by rw [hwc];exact kw)
 replace sw:=(show H48 wc w.heap.size (.float .f64 a) (.float .f64 b) (.float .f64 c) (.float .f64 d) by rw [hwc];exact sw)
 clear hwc
 generalize wc = w1 at kw sw ⊢
 obtain ⟨⟨p0,p1,p2,p3⟩,⟨p4,p5,p6,p7⟩⟩:=id sw
 go_wp2_with (first | (go_at_call 21;refine (hL _ _ _ (by with_reducible first | exact f1 | exact f2) _ kw).mono ?_;rintro e wx ⟨rfl,gx⟩;replace kw:=Kp.trans kw gx;replace sw:=H48.keep sw gx;clear gx;obtain ⟨⟨p0,p1,p2,p3⟩,⟨p4,p5,p6,p7⟩⟩:=id sw))
 exact bodyPost_ret (v:=.float .f64 Z) (by simp [results,Tryz.results38,go_sem]) rfl ⟨rfl,kw⟩
theorem lsQ2_ (a b c d Z2 Z:Nat) (A1 B1 C1 D1:Bool) (tA1:(FloatKind.f64.format.order a 0 == some Ordering.lt) = A1) (tB1:(FloatKind.f64.format.order b 0 == some Ordering.gt) = B1) (tC1:(FloatKind.f64.format.order c 0 == some Ordering.lt) = C1) (tD1:(FloatKind.f64.format.order d 0 == some Ordering.gt) = D1) (q:(A1 && B1 && C1 && D1) = false) (q2:(A1 && D1) = true) (w:World) (PL:Nat→Nat→Nat→Prop) (hL:∀ x y z,PL x y z→∀ W:World,Kp w W→Calls Tryz.prog 21 #[.float .f64 x,.float .f64 y] W fun e w'=>e = .returned (.float .f64 z)∧Kp W w') (f1:PL a d Z2) (f2:True) (hm:∀ (ts:Array TypeId) (t:TypeId) (w:World),(Builtin.min_ ts t #[.float .f64 9218868437227405312,.float .f64 Z2]).run Tryz.prog w = .ok (.float .f64 Z) w):Calls Tryz.prog 38 #[.agg #[.float .f64 a,.float .f64 b],.agg #[.float .f64 c,.float .f64 d],.func (.func 21) #[] #[]] w fun e w'=>e = .returned (.float .f64 Z)∧Kp w w':=by
 go_enter Tryz.func38,Tryz.ntmps38
 go_upto_region 2 with (first | (go_at_call 32;refine (Fq.inf1_ _).mono ?_;rintro e w1 ⟨rfl,g1⟩;have kw:Kp w w1:=(by rw [g1];exact (((Kp.refl w).alloc _).alloc _));have sw:H48 w1 w.heap.size (.float .f64 a) (.float .f64 b) (.float .f64 c) (.float .f64 d):=(by rw [g1];exact H48.new w (.float .f64 a) (.float .f64 b) (.float .f64 c) (.float .f64 d) 28 28);clear g1;obtain ⟨⟨p0,p1,p2,p3⟩,⟨p4,p5,p6,p7⟩⟩:=id sw))
 go_cut [9] (fun s9 wx=>s9 = .bool false∧wx = w1)
 case first =>
  cases A1 <;> cases B1 <;> cases C1 <;> cases D1 <;> first | (exfalso;revert q;decide) | skip
  all_goals (
   go_wp2_with fail
   go_meet
   exact ⟨rfl,rfl⟩)
 case rest =>
 obtain ⟨rfl,hwc⟩:=hcut
 replace kw:Kp w wc:=(by rw [hwc];exact kw)
 replace sw:=(show H48 wc w.heap.size (.float .f64 a) (.float .f64 b) (.float .f64 c) (.float .f64 d) by rw [hwc];exact sw)
 clear hwc
 generalize wc = w1 at kw sw ⊢
 obtain ⟨⟨p0,p1,p2,p3⟩,⟨p4,p5,p6,p7⟩⟩:=id sw
 go_upto_region 3 with (first | fail)
 go_cut [28] (fun s28 wx=>s28 = .bool true∧wx = w1)
 case first =>
  cases A1 <;> cases D1 <;> first | (exfalso;revert q2;decide) | skip
  all_goals (
   go_wp2_with fail
   go_meet
   exact ⟨rfl,rfl⟩)
 case rest =>
 obtain ⟨rfl,hwc⟩:=hcut
 replace kw:Kp w wc:=(by rw [hwc];exact kw)
 replace sw:=(show H48 wc w.heap.size (.float .f64 a) (.float .f64 b) (.float .f64 c) (.float .f64 d) by rw [hwc];exact sw)
 clear hwc
 generalize wc = w1 at kw sw ⊢
 obtain ⟨⟨p0,p1,p2,p3⟩,⟨p4,p5,p6,p7⟩⟩:=id sw
 go_wp2_with (first | (go_at_call 21;refine (hL _ _ _ (by with_reducible first | exact f1 | exact f2) _ kw).mono ?_;rintro e wx ⟨rfl,gx⟩;replace kw:=Kp.trans kw gx;replace sw:=H48.keep sw gx;clear gx;obtain ⟨⟨p0,p1,p2,p3⟩,⟨p4,p5,p6,p7⟩⟩:=id sw))
 exact bodyPost_ret (v:=.float .f64 Z) (by simp [results,Tryz.results38,go_sem]) rfl ⟨rfl,kw⟩
theorem lsQ3_ (a b c d Z:Nat) (A1 B1 C1 D1:Bool) (tA1:(FloatKind.f64.format.order a 0 == some Ordering.lt) = A1) (tB1:(FloatKind.f64.format.order b 0 == some Ordering.gt) = B1) (tC1:(FloatKind.f64.format.order c 0 == some Ordering.lt) = C1) (tD1:(FloatKind.f64.format.order d 0 == some Ordering.gt) = D1) (q:(A1 && B1 && C1 && D1) = false) (q2:(A1 && D1) = false) (q3:(B1 && C1) = true) (w:World) (PL:Nat→Nat→Nat→Prop) (hL:∀ x y z,PL x y z→∀ W:World,Kp w W→Calls Tryz.prog 21 #[.float .f64 x,.float .f64 y] W fun e w'=>e = .returned (.float .f64 z)∧Kp W w') (f1:PL b c Z) (f2:True):Calls Tryz.prog 38 #[.agg #[.float .f64 a,.float .f64 b],.agg #[.float .f64 c,.float .f64 d],.func (.func 21) #[] #[]] w fun e w'=>e = .returned (.float .f64 Z)∧Kp w w':=by
 go_enter Tryz.func38,Tryz.ntmps38
 go_upto_region 2 with (first | (go_at_call 32;refine (Fq.inf1_ _).mono ?_;rintro e w1 ⟨rfl,g1⟩;have kw:Kp w w1:=(by rw [g1];exact (((Kp.refl w).alloc _).alloc _));have sw:H48 w1 w.heap.size (.float .f64 a) (.float .f64 b) (.float .f64 c) (.float .f64 d):=(by rw [g1];exact H48.new w (.float .f64 a) (.float .f64 b) (.float .f64 c) (.float .f64 d) 28 28);clear g1;obtain ⟨⟨p0,p1,p2,p3⟩,⟨p4,p5,p6,p7⟩⟩:=id sw))
 go_cut [9] (fun s9 wx=>s9 = .bool false∧wx = w1)
 case first =>
  cases A1 <;> cases B1 <;> cases C1 <;> cases D1 <;> first | (exfalso;revert q;decide) | skip
  all_goals (
   go_wp2_with fail
   go_meet
   exact ⟨rfl,rfl⟩)
 case rest =>
 obtain ⟨rfl,hwc⟩:=hcut
 replace kw:Kp w wc:=(by rw [hwc];exact kw)
 replace sw:=(show H48 wc w.heap.size (.float .f64 a) (.float .f64 b) (.float .f64 c) (.float .f64 d) by rw [hwc];exact sw)
 clear hwc
 generalize wc = w1 at kw sw ⊢
 obtain ⟨⟨p0,p1,p2,p3⟩,⟨p4,p5,p6,p7⟩⟩:=id sw
 go_upto_region 3 with (first | fail)
 go_cut [28] (fun s28 wx=>s28 = .bool false∧wx = w1)
 case first =>
  cases A1 <;> cases D1 <;> first | (exfalso;revert q2;decide) | skip
  all_goals (
   go_wp2_with fail
   go_meet
   exact ⟨rfl,rfl⟩)
 case rest =>
 obtain ⟨rfl,hwc⟩:=hcut
 replace kw:Kp w wc:=(by rw [hwc];exact kw)
 replace sw:=(show H48 wc w.heap.size (.float .f64 a) (.float .f64 b) (.float .f64 c) (.float .f64 d) by rw [hwc];exact sw)
 clear hwc
 generalize wc = w1 at kw sw ⊢
 obtain ⟨⟨p0,p1,p2,p3⟩,⟨p4,p5,p6,p7⟩⟩:=id sw
 go_upto_region 4 with (first | fail)
 go_cut [37] (fun s37 wx=>s37 = .bool true∧wx = w1)
 case first =>
  cases B1 <;> cases C1 <;> first | (exfalso;revert q3;decide) | skip
  all_goals (
   go_wp2_with fail
   go_meet
   exact ⟨rfl,rfl⟩)
 case rest =>
 obtain ⟨rfl,hwc⟩:=hcut
 replace kw:Kp w wc:=(by rw [hwc];exact kw)
 replace sw:=(show H48 wc w.heap.size (.float .f64 a) (.float .f64 b) (.float .f64 c) (.float .f64 d) by rw [hwc];exact sw)
 clear hwc
 generalize wc = w1 at kw sw ⊢
 obtain ⟨⟨p0,p1,p2,p3⟩,⟨p4,p5,p6,p7⟩⟩:=id sw
 go_wp2_with (first | (go_at_call 21;refine (hL _ _ _ (by with_reducible first | exact f1 | exact f2) _ kw).mono ?_;rintro e wx ⟨rfl,gx⟩;replace kw:=Kp.trans kw gx;replace sw:=H48.keep sw gx;clear gx;obtain ⟨⟨p0,p1,p2,p3⟩,⟨p4,p5,p6,p7⟩⟩:=id sw))
 exact bodyPost_ret (v:=.float .f64 Z) (by simp [results,Tryz.results38,go_sem]) rfl ⟨rfl,kw⟩
theorem lsQ4_ (a b c d Z:Nat) (A1 B1 C1 D1 B2 D2:Bool) (tA1:(FloatKind.f64.format.order a 0 == some Ordering.lt) = A1) (tB1:(FloatKind.f64.format.order b 0 == some Ordering.gt) = B1) (tC1:(FloatKind.f64.format.order c 0 == some Ordering.lt) = C1) (tD1:(FloatKind.f64.format.order d 0 == some Ordering.gt) = D1) (tB2:(FloatKind.f64.format.order b 0 == some Ordering.lt || FloatKind.f64.format.order b 0 == some Ordering.eq) = B2) (tD2:(FloatKind.f64.format.order d 0 == some Ordering.lt || FloatKind.f64.format.order d 0 == some Ordering.eq) = D2) (q:(A1 && B1 && C1 && D1) = false) (q2:(A1 && D1) = false) (q3:(B1 && C1) = false) (q4:(B2 && D2) = true) (w:World) (PL:Nat→Nat→Nat→Prop) (hL:∀ x y z,PL x y z→∀ W:World,Kp w W→Calls Tryz.prog 21 #[.float .f64 x,.float .f64 y] W fun e w'=>e = .returned (.float .f64 z)∧Kp W w') (f1:PL b d Z) (f2:True):Calls Tryz.prog 38 #[.agg #[.float .f64 a,.float .f64 b],.agg #[.float .f64 c,.float .f64 d],.func (.func 21) #[] #[]] w fun e w'=>e = .returned (.float .f64 Z)∧Kp w w':=by
 go_enter Tryz.func38,Tryz.ntmps38
 go_upto_region 2 with (first | (go_at_call 32;refine (Fq.inf1_ _).mono ?_;rintro e w1 ⟨rfl,g1⟩;have kw:Kp w w1:=(by rw [g1];exact (((Kp.refl w).alloc _).alloc _));have sw:H48 w1 w.heap.size (.float .f64 a) (.float .f64 b) (.float .f64 c) (.float .f64 d):=(by rw [g1];exact H48.new w (.float .f64 a) (.float .f64 b) (.float .f64 c) (.float .f64 d) 28 28);clear g1;obtain ⟨⟨p0,p1,p2,p3⟩,⟨p4,p5,p6,p7⟩⟩:=id sw))
 go_cut [9] (fun s9 wx=>s9 = .bool false∧wx = w1)
 case first =>
  cases A1 <;> cases B1 <;> cases C1 <;> cases D1 <;> first | (exfalso;revert q;decide) | skip
  all_goals (
   go_wp2_with fail
   go_meet
   exact ⟨rfl,rfl⟩)
 case rest =>
 obtain ⟨rfl,hwc⟩:=hcut
 replace kw:Kp w wc:=(by rw [hwc];exact kw)
 replace sw:=(show H48 wc w.heap.size (.float .f64 a) (.float .f64 b) (.float .f64 c) (.float .f64 d) by rw [hwc];exact sw)
 clear hwc
 generalize wc = w1 at kw sw ⊢
 obtain ⟨⟨p0,p1,p2,p3⟩,⟨p4,p5,p6,p7⟩⟩:=id sw
 go_upto_region 3 with (first | fail)
 go_cut [28] (fun s28 wx=>s28 = .bool false∧wx = w1)
 case first =>
  cases A1 <;> cases D1 <;> first | (exfalso;revert q2;decide) | skip
  all_goals (
   go_wp2_with fail
   go_meet
   exact ⟨rfl,rfl⟩)
 case rest =>
 obtain ⟨rfl,hwc⟩:=hcut
 replace kw:Kp w wc:=(by rw [hwc];exact kw)
 replace sw:=(show H48 wc w.heap.size (.float .f64 a) (.float .f64 b) (.float .f64 c) (.float .f64 d) by rw [hwc];exact sw)
 clear hwc
 generalize wc = w1 at kw sw ⊢
 obtain ⟨⟨p0,p1,p2,p3⟩,⟨p4,p5,p6,p7⟩⟩:=id sw
 go_upto_region 4 with (first | fail)
 go_cut [37] (fun s37 wx=>s37 = .bool false∧wx = w1)
 case first =>
  cases B1 <;> cases C1 <;> first | (exfalso;revert q3;decide) | skip
  all_goals (
   go_wp2_with fail
   go_meet
   exact ⟨rfl,rfl⟩)
 case rest =>
 obtain ⟨rfl,hwc⟩:=hcut
 replace kw:Kp w wc:=(by rw [hwc];exact kw)
 replace sw:=(show H48 wc w.heap.size (.float .f64 a) (.float .f64 b) (.float .f64 c) (.float .f64 d) by rw [hwc];exact sw)
 clear hwc
 generalize wc = w1 at kw sw ⊢
 obtain ⟨⟨p0,p1,p2,p3⟩,⟨p4,p5,p6,p7⟩⟩:=id sw
 go_upto_region 5 with (first | fail)
 go_cut [46] (fun s46 wx=>s46 = .bool true∧wx = w1)
 case first =>
  cases B2 <;> cases D2 <;> first | (exfalso;revert q4;decide) | skip
  all_goals (
   go_wp2_with fail
   go_meet
   exact ⟨rfl,rfl⟩)
 case rest =>
 obtain ⟨rfl,hwc⟩:=hcut
 replace kw:Kp w wc:=(by rw [hwc];exact kw)
 replace sw:=(show H48 wc w.heap.size (.float .f64 a) (.float .f64 b) (.float .f64 c) (.float .f64 d) by rw [hwc];exact sw)
 clear hwc
 generalize wc = w1 at kw sw ⊢
 obtain ⟨⟨p0,p1,p2,p3⟩,⟨p4,p5,p6,p7⟩⟩:=id sw
 go_wp2_with (first | (go_at_call 21;refine (hL _ _ _ (by with_reducible first | exact f1 | exact f2) _ kw).mono ?_;rintro e wx ⟨rfl,gx⟩;replace kw:=Kp.trans kw gx;replace sw:=H48.keep sw gx;clear gx;obtain ⟨⟨p0,p1,p2,p3⟩,⟨p4,p5,p6,p7⟩⟩:=id sw))
 exact bodyPost_ret (v:=.float .f64 Z) (by simp [results,Tryz.results38,go_sem]) rfl ⟨rfl,kw⟩
theorem lsQ5_ (a b c d Z:Nat) (A1 B1 C1 D1 B2 D2:Bool) (tA1:(FloatKind.f64.format.order a 0 == some Ordering.lt) = A1) (tB1:(FloatKind.f64.format.order b 0 == some Ordering.gt) = B1) (tC1:(FloatKind.f64.format.order c 0 == some Ordering.lt) = C1) (tD1:(FloatKind.f64.format.order d 0 == some Ordering.gt) = D1) (tB2:(FloatKind.f64.format.order b 0 == some Ordering.lt || FloatKind.f64.format.order b 0 == some Ordering.eq) = B2) (tD2:(FloatKind.f64.format.order d 0 == some Ordering.lt || FloatKind.f64.format.order d 0 == some Ordering.eq) = D2) (q:(A1 && B1 && C1 && D1) = false) (q2:(A1 && D1) = false) (q3:(B1 && C1) = false) (q4:(B2 && D2) = false) (w:World) (PL:Nat→Nat→Nat→Prop) (hL:∀ x y z,PL x y z→∀ W:World,Kp w W→Calls Tryz.prog 21 #[.float .f64 x,.float .f64 y] W fun e w'=>e = .returned (.float .f64 z)∧Kp W w') (f1:PL a c Z) (f2:True):Calls Tryz.prog 38 #[.agg #[.float .f64 a,.float .f64 b],.agg #[.float .f64 c,.float .f64 d],.func (.func 21) #[] #[]] w fun e w'=>e = .returned (.float .f64 Z)∧Kp w w':=by
 go_enter Tryz.func38,Tryz.ntmps38
 go_upto_region 2 with (first | (go_at_call 32;refine (Fq.inf1_ _).mono ?_;rintro e w1 ⟨rfl,g1⟩;have kw:Kp w w1:=(by rw [g1];exact (((Kp.refl w).alloc _).alloc _));have sw:H48 w1 w.heap.size (.float .f64 a) (.float .f64 b) (.float .f64 c) (.float .f64 d):=(by rw [g1];exact H48.new w (.float .f64 a) (.float .f64 b) (.float .f64 c) (.float .f64 d) 28 28);clear g1;obtain ⟨⟨p0,p1,p2,p3⟩,⟨p4,p5,p6,p7⟩⟩:=id sw))
 go_cut [9] (fun s9 wx=>s9 = .bool false∧wx = w1)
 case first =>
  cases A1 <;> cases B1 <;> cases C1 <;> cases D1 <;> first | (exfalso;revert q;decide) | skip
  all_goals (
   go_wp2_with fail
   go_meet
   exact ⟨rfl,rfl⟩)
 case rest =>
 obtain ⟨rfl,hwc⟩:=hcut
 replace kw:Kp w wc:=(by rw [hwc];exact kw)
 replace sw:=(show H48 wc w.heap.size (.float .f64 a) (.float .f64 b) (.float .f64 c) (.float .f64 d) by rw [hwc];exact sw)
 clear hwc
 generalize wc = w1 at kw sw ⊢
 obtain ⟨⟨p0,p1,p2,p3⟩,⟨p4,p5,p6,p7⟩⟩:=id sw
 go_upto_region 3 with (first | fail)
 go_cut [28] (fun s28 wx=>s28 = .bool false∧wx = w1)
 case first =>
  cases A1 <;> cases D1 <;> first | (exfalso;revert q2;decide) | skip
  all_goals (
   go_wp2_with fail
   go_meet
   exact ⟨rfl,rfl⟩)
 case rest =>
 obtain ⟨rfl,hwc⟩:=hcut
 replace kw:Kp w wc:=(by rw [hwc];exact kw)
 replace sw:=(show H48 wc w.heap.size (.float .f64 a) (.float .f64 b) (.float .f64 c) (.float .f64 d) by rw [hwc];exact sw)
 clear hwc
 generalize wc = w1 at kw sw ⊢
 obtain ⟨⟨p0,p1,p2,p3⟩,⟨p4,p5,p6,p7⟩⟩:=id sw
 go_upto_region 4 with (first | fail)
 go_cut [37] (fun s37 wx=>s37 = .bool false∧wx = w1)
 case first =>
  cases B1 <;> cases C1 <;> first | (exfalso;revert q3;decide) | skip
  all_goals (
   go_wp2_with fail
   go_meet
   exact ⟨rfl,rfl⟩)
 case rest =>
 obtain ⟨rfl,hwc⟩:=hcut
 replace kw:Kp w wc:=(by rw [hwc];exact kw)
 replace sw:=(show H48 wc w.heap.size (.float .f64 a) (.float .f64 b) (.float .f64 c) (.float .f64 d) by rw [hwc];exact sw)
 clear hwc
 generalize wc = w1 at kw sw ⊢
 obtain ⟨⟨p0,p1,p2,p3⟩,⟨p4,p5,p6,p7⟩⟩:=id sw
 go_upto_region 5 with (first | fail)
 go_cut [46] (fun s46 wx=>s46 = .bool false∧wx = w1)
 case first =>
  cases B2 <;> cases D2 <;> first | (exfalso;revert q4;decide) | skip
  all_goals (
   go_wp2_with fail
   go_meet
   exact ⟨rfl,rfl⟩)
 case rest =>
 obtain ⟨rfl,hwc⟩:=hcut
 replace kw:Kp w wc:=(by rw [hwc];exact kw)
 replace sw:=(show H48 wc w.heap.size (.float .f64 a) (.float .f64 b) (.float .f64 c) (.float .f64 d) by rw [hwc];exact sw)
 clear hwc
 generalize wc = w1 at kw sw ⊢
 obtain ⟨⟨p0,p1,p2,p3⟩,⟨p4,p5,p6,p7⟩⟩:=id sw
 go_wp2_with (first | (go_at_call 21;refine (hL _ _ _ (by with_reducible first | exact f1 | exact f2) _ kw).mono ?_;rintro e wx ⟨rfl,gx⟩;replace kw:=Kp.trans kw gx;replace sw:=H48.keep sw gx;clear gx;obtain ⟨⟨p0,p1,p2,p3⟩,⟨p4,p5,p6,p7⟩⟩:=id sw))
 exact bodyPost_ret (v:=.float .f64 Z) (by simp [results,Tryz.results38,go_sem]) rfl ⟨rfl,kw⟩

theorem lsQ9_ (g:Int→Int→Int) (L1 H1 L2 H2:Int) (b1:BdZ L1) (b2:BdZ H1) (b3:BdZ L2) (b4:BdZ H2) (w:World) (h1:0 < H1→L2 < 0→∀ W:World,Kp w W→Calls Tryz.prog 21 #[.float .f64 (pw H1),.float .f64 (pw L2)] W fun e w'=>e = .returned (.float .f64 (pw (g H1 L2)))∧Kp W w') (h2:L1 < 0→0 < H2→∀ W:World,Kp w W→Calls Tryz.prog 21 #[.float .f64 (pw L1),.float .f64 (pw H2)] W fun e w'=>e = .returned (.float .f64 (pw (g L1 H2)))∧Kp W w') (h3:H1≤0→H2≤0→¬ (L1 < 0∧0 < H2)→∀ W:World,Kp w W→Calls Tryz.prog 21 #[.float .f64 (pw H1),.float .f64 (pw H2)] W fun e w'=>e = .returned (.float .f64 (pw (g H1 H2)))∧Kp W w') (h4:¬ (L1 < 0∧0 < H2)→¬ (0 < H1∧L2 < 0)→¬ (H1≤0∧H2≤0)→∀ W:World,Kp w W→Calls Tryz.prog 21 #[.float .f64 (pw L1),.float .f64 (pw L2)] W fun e w'=>e = .returned (.float .f64 (pw (g L1 L2)))∧Kp W w') (hg1:BdZ (g H1 L2)) (hg2:BdZ (g L1 H2)):Calls Tryz.prog 38 #[.agg #[.float .f64 (pw L1),.float .f64 (pw H1)],.agg #[.float .f64 (pw L2),.float .f64 (pw H2)],.func (.func 21) #[] #[]] w fun e w'=>e = .returned (.float .f64 (pw (lst g L1 H1 L2 H2)))∧Kp w w':=by
 unfold lst
 by_cases c1:L1 < 0∧0 < H1∧L2 < 0∧0 < H2
 ·rw [if_pos c1]
  exact lsQ1_ _ _ _ _ _ _ _ _ _ _ _ (lt0_pw L1 b1) (gt0_pw H1 b2) (lt0_pw L2 b3) (gt0_pw H2 b4) (by simp [c1]) w (fun x y z=>∀ W:World,Kp w W→Calls Tryz.prog 21 #[.float .f64 x,.float .f64 y] W fun e w'=>e = .returned (.float .f64 z)∧Kp W w') (fun _ _ _ h=>h) (h1 c1.2.1 c1.2.2.1) (h2 c1.1 c1.2.2.2) (min9_ _ _ hg1 hg2)
 rw [if_neg c1]
 have q1:(decide (L1 < 0) && decide (0 < H1) && decide (L2 < 0) && decide (0 < H2)) = false:=by
  by_cases e1:L1 < 0 <;> by_cases e2:0 < H1 <;> by_cases e3:L2 < 0 <;> by_cases e4:0 < H2 <;> simp [e1,e2,e3,e4] <;> omega
 by_cases c2:L1 < 0∧0 < H2
 ·rw [if_pos c2]
  have hm:=min9_ 9218868437227405312 (g L1 H2) (by unfold BdZ;omega) hg2
  rw [pw_I,show min 9218868437227405312 (g L1 H2) = g L1 H2 from by unfold BdZ at hg2;omega] at hm
  exact lsQ2_ _ _ _ _ _ _ _ _ _ _ (lt0_pw L1 b1) (gt0_pw H1 b2) (lt0_pw L2 b3) (gt0_pw H2 b4) q1 (by simp [c2]) w (fun x y z=>∀ W:World,Kp w W→Calls Tryz.prog 21 #[.float .f64 x,.float .f64 y] W fun e w'=>e = .returned (.float .f64 z)∧Kp W w') (fun _ _ _ h=>h) (h2 c2.1 c2.2) trivial hm
 rw [if_neg c2]
 have q2:(decide (L1 < 0) && decide (0 < H2)) = false:=by
  by_cases e1:L1 < 0 <;> by_cases e4:0 < H2 <;> simp [e1,e4] <;> omega
 by_cases c3:0 < H1∧L2 < 0
 ·rw [if_pos c3]
  exact lsQ3_ _ _ _ _ _ _ _ _ _ (lt0_pw L1 b1) (gt0_pw H1 b2) (lt0_pw L2 b3) (gt0_pw H2 b4) q1 q2 (by simp [c3]) w (fun x y z=>∀ W:World,Kp w W→Calls Tryz.prog 21 #[.float .f64 x,.float .f64 y] W fun e w'=>e = .returned (.float .f64 z)∧Kp W w') (fun _ _ _ h=>h) (h1 c3.1 c3.2) trivial
 rw [if_neg c3]
 have q3:(decide (0 < H1) && decide (L2 < 0)) = false:=by
  by_cases e1:0 < H1 <;> by_cases e4:L2 < 0 <;> simp [e1,e4] <;> omega
 by_cases c4:H1≤0∧H2≤0
 ·rw [if_pos c4]
  exact lsQ4_ _ _ _ _ _ _ _ _ _ _ _ (lt0_pw L1 b1) (gt0_pw H1 b2) (lt0_pw L2 b3) (gt0_pw H2 b4) (le0_pw H1 b2) (le0_pw H2 b4) q1 q2 q3 (by simp [c4]) w (fun x y z=>∀ W:World,Kp w W→Calls Tryz.prog 21 #[.float .f64 x,.float .f64 y] W fun e w'=>e = .returned (.float .f64 z)∧Kp W w') (fun _ _ _ h=>h) (h3 c4.1 c4.2 c2) trivial
 rw [if_neg c4]
 have q4:(decide (H1≤0) && decide (H2≤0)) = false:=by
  by_cases e1:H1≤0 <;> by_cases e4:H2≤0 <;> simp [e1,e4] <;> omega
 exact lsQ5_ _ _ _ _ _ _ _ _ _ _ _ (lt0_pw L1 b1) (gt0_pw H1 b2) (lt0_pw L2 b3) (gt0_pw H2 b4) (le0_pw H1 b2) (le0_pw H2 b4) q1 q2 q3 q4 w (fun x y z=>∀ W:World,Kp w W→Calls Tryz.prog 21 #[.float .f64 x,.float .f64 y] W fun e w'=>e = .returned (.float .f64 z)∧Kp W w') (fun _ _ _ h=>h) (h4 c2 c3 c4) trivial
set_option linter.unusedVariables false

def bLo (K:Nat) (L1 H1 L2 H2:Int):Int:=if L2 = 0∧H2 = 0 then 9218868437227405312 else if L1 = 0∧H1 = 0 then 0 else if L2 < 0∧0 < H2 then -9218868437227405312 else if L1 < 0∧0 < H1 then -9218868437227405312 else if L2 = 0∧0≤L1 then diZ K (-1) L1 H2 else if L2 = 0 then -9218868437227405312 else if 0≤L1 then -9218868437227405312 else diZ K (-1) H1 L2
def bHi (K:Nat) (L1 H1 L2 H2:Int):Int:=if L2 = 0∧H2 = 0 then -9218868437227405312 else if L1 = 0∧H1 = 0 then 0 else if L2 < 0∧0 < H2 then 9218868437227405312 else if L1 < 0∧0 < H1 then 9218868437227405312 else if L2 = 0∧0≤L1 then 9218868437227405312 else if L2 = 0 then diZ K 1 H1 H2 else if 0≤L1 then diZ K 1 L1 L2 else 9218868437227405312
def dLo (K:Nat) (L1 H1 L2 H2:Int):Int:=if L1 = 9218868437227405312∨L2 = 9218868437227405312 then 9218868437227405312 else if L2≤0∧0≤H2 then bLo K L1 H1 L2 H2 else lst (diZ K (-1)) L1 H1 H2 L2
def dHi (K:Nat) (L1 H1 L2 H2:Int):Int:=if L1 = 9218868437227405312∨L2 = 9218868437227405312 then -9218868437227405312 else if L2≤0∧0≤H2 then bHi K L1 H1 L2 H2 else -(lst (diZ K (-1)) (-H1) (-L1) H2 L2)
theorem and2 (p q:Prop) [Decidable p] [Decidable q] (h:p∧q):(decide p && decide q) = true:=by simp [h]
theorem nand2 (p q:Prop) [Decidable p] [Decidable q] (h:¬ (p∧q)):(decide p && decide q) = false:=by
 by_cases a:p <;> by_cases b:q <;> simp [a,b]
 exact h ⟨a,b⟩
theorem entire9_ (w:World):Calls Tryz.prog 34 #[] w fun e w'=>e = .returned (.agg #[.float .f64 18442240474082181120,.float .f64 9218868437227405312])∧Kp w w':=by
 refine (Fq.entire6_ w).mono ?_
 exact fun e w' h=>⟨h.1,by first | exact h.2 | (rw [h.2];exact (Kp.refl _).alloc _)⟩
set_option linter.unusedVariables false
theorem Fq.Tab.kp {w w':World} (h:Fq.Tab w) (g:Kp w w'):Fq.Tab w':=h.grown g
theorem divOQ_ (K:Nat) (hK:K = 1074) (d:Int) (n n':Bool) (m m':Nat) (hm:m < 9223372036854775808) (hm':m' < 9223372036854775808) (hd1:-9223372036854775808≤d) (hd2:d < 9223372036854775808) (w:World) (hQ:Fq.Tab w):Calls Tryz.prog 36 #[.int .i64 d,.float .f64 (Fq.wD n m),.float .f64 (Fq.wD n' m')] w fun e w'=>∃ R,e = .returned (.float .f64 R)∧IsO (oD K d n m n' m') R∧Kp w w':=by
 by_cases z':m' = 0
 ·have h:=pdivN_ d n n' m hm w
  rw [z']
  by_cases c:m = 0∨9218868437227405312 < m
  ·have e:oD K d n m n' 0 = none:=by unfold oD;rw [if_pos rfl,if_pos c]
   rw [e]
   rw [if_pos c] at h
   exact h.mono fun e w' h=>⟨_,h.1,bitsQ_ _ (by decide) (by decide),h.2⟩
  ·have e:oD K d n m n' 0 = some (sgI n):=by unfold oD;rw [if_pos rfl,if_neg c]
   rw [e]
   rw [if_neg c] at h
   exact h.mono fun e w' h=>⟨_,h.1,bitsI_ _,h.2⟩
 ·by_cases hb:badQ m m'
  ·have e:oD K d n m n' m' = none:=by have hb2:=hb;unfold badQ at hb2;unfold oD;rw [if_neg z',if_pos hb2]
   rw [e]
   obtain ⟨R,p1,p2,hrun⟩:=run_nan_quo _ _ (div_bad n n' m m' hm hm' hb) w
   exact (pdivP_ d n n' m m' hm hm' z' (fun h=>by unfold badQ at hb;omega) w w.drew R R hrun (Kp.refl _).drew (plainN R p1 p2 w.drew)).mono fun e w' h=>⟨R,h.1,bitsQ_ R p1 p2,h.2⟩
  ·unfold badQ at hb
   by_cases c1:m = 9218868437227405312
   ·have e:oD K d n m n' m' = some (sgI (n ^^ n')):=by unfold oD;rw [if_neg z',if_neg hb,if_pos c1]
    rw [e]
    exact (pdivP_ d n n' m m' hm hm' z' (fun h=>by omega) w w _ _ (run_float_arith w .quo 26 .f64 _ _ _ (div_inf n n' m m' c1 (by omega))) (Kp.refl _) (plainI _ w)).mono fun e w' h=>⟨_,h.1,bitsI_ _,h.2⟩
   ·by_cases c2:m' = 9218868437227405312
    ·have e:oD K d n m n' m' = some 0:=by unfold oD;rw [if_neg z',if_neg hb,if_neg c1,if_pos c2]
     rw [e]
     exact (pdivP_ d n n' m m' hm hm' z' (fun h=>by omega) w w _ _ (run_float_arith w .quo 26 .f64 _ _ _ (div_zero n n' m m' (by omega) (Or.inl c2))) (Kp.refl _) (plain0 _ w)).mono fun e w' h=>⟨_,h.1,bitsP_ 0 (by decide),h.2⟩
    ·have e:oD K d n m n' m' = some (g53 d (2 ^ K) (Fq.vV Ieee.double m') (Iv (n ^^ n') m)):=by unfold oD;rw [if_neg z',if_neg hb,if_neg c1,if_neg c2]
     rw [e]
     suffices h:Calls Tryz.prog 36 #[.int .i64 d,.float .f64 (Fq.wD n m),.float .f64 (Fq.wD n' m')] w fun e w'=>e = .returned (.float .f64 (divW d (n ^^ n') (Fq.vV Ieee.double m) (Fq.vV Ieee.double m')))∧Kp w w' by
      rw [divW_g2 K hK] at h
      exact h.mono fun e w' h=>⟨_,h.1,bitsP_ _ (g53_le _ _ _ _),h.2⟩
     by_cases z:m = 0
     ·have h0:divW d (n ^^ n') (Fq.vV Ieee.double m) (Fq.vV Ieee.double m') = 0:=by
       unfold divW
       exact if_pos ((vV_zero m).2 z)
      rw [h0]
      exact pdivP_ d n n' m m' hm hm' z' (fun h=>by omega) w w _ _ (run_float_arith w .quo 26 .f64 _ _ _ (div_zero n n' m m' (by omega) (Or.inr ⟨z,by omega,z'⟩))) (Kp.refl _) (plain0 _ w)
     ·by_cases ct:(2580562586483294208≤m∧m≤6633802251116740608)∧(2580562586483294208≤m'∧m'≤6633802251116740608)
      ·exact pdivQ_ d n n' m m' ct.1 ct.2 w
      ·exact pdivE_ d n n' m m' (by omega) (by omega) z z' ct w hQ hd1 hd2
theorem divPQ_ (K:Nat) (hK:K = 1074) (d x y:Int) (hd1:-9223372036854775808≤d) (hd2:d < 9223372036854775808) (hx:BdZ x) (hy:BdZ y) (zy:y≠0) (hb:¬ ((x = 9218868437227405312∨x = -9218868437227405312)∧(y = 9218868437227405312∨y = -9218868437227405312))) (w:World) (hT:Fq.Tab w):Calls Tryz.prog 36 #[.int .i64 d,.float .f64 (pw x),.float .f64 (pw y)] w fun e w'=>e = .returned (.float .f64 (pw (diZ K d x y)))∧Kp w w':=by
 have h:=divOQ_ K hK d (sN x) (sN y) x.natAbs y.natAbs (aI x hx) (aI y hy) hd1 hd2 w hT
 refine h.mono ?_
 rintro e w' ⟨R,rfl,hR,k⟩
 have hz:∃ z,oD K d (sN x) x.natAbs (sN y) y.natAbs = some z:=by
  unfold oD
  rw [if_neg (by omega),if_neg (by unfold BdZ at hx hy;omega)]
  repeat' split
  all_goals exact ⟨_,rfl⟩
 obtain ⟨z,hz⟩:=hz
 refine ⟨?_,k⟩
 rw [hR z hz]
 unfold diZ
 rw [hz];rfl
theorem quoPQ_ (K:Nat) (hK:K = 1074) (x y:Int) (hx:BdZ x) (hy:BdZ y) (zy:y≠0) (hb:¬ ((x = 9218868437227405312∨x = -9218868437227405312)∧(y = 9218868437227405312∨y = -9218868437227405312))) (w:World) (hT:Fq.Tab w):Calls Tryz.prog 21 #[.float .f64 (pw x),.float .f64 (pw y)] w fun e w'=>e = .returned (.float .f64 (pw (diZ K (-1) x y)))∧Kp w w' :=
 quo1_ _ _ _ w (divPQ_ K hK (-1) x y (by omega) (by omega) hx hy zy hb w hT)
theorem byN9Q_ (K:Nat) (hK:K = 1074) (L1 H1 L2 H2:Int) (d1:VdZ L1 H1) (d2:VdZ L2 H2) (n1:L1≠9218868437227405312) (n2:L2≠9218868437227405312) (hz:L2≤0∧0≤H2) (w:World) (hT:Fq.Tab w):Calls Tryz.prog 19 #[.agg #[.float .f64 (pw L1),.float .f64 (pw H1)],.agg #[.float .f64 (pw L2),.float .f64 (pw H2)]] w fun e w'=>e = .returned (.agg #[.float .f64 (pw (bLo K L1 H1 L2 H2)),.float .f64 (pw (bHi K L1 H1 L2 H2))])∧Kp w w':=by
 have b1:=d1.lo;have b2:=d1.hi;have b3:=d2.lo;have b4:=d2.hi
 unfold VdZ at d1 d2
 unfold bLo bHi
 have tC0:=eq0_pw L2 b3
 have tD0:=eq0_pw H2 b4
 have tA0:=eq0_pw L1 b1
 have tB0:=eq0_pw H1 b2
 have tCl:=lt0_pw L2 b3
 have tDg:=gt0_pw H2 b4
 have tAl:=lt0_pw L1 b1
 have tBg:=gt0_pw H1 b2
 have tAg:=ge0_pw L1 b1
 by_cases c0:L2 = 0∧H2 = 0
 ·rw [if_pos c0,if_pos c0,pw_I,pw_MI]
  exact byN1_ _ _ _ _ _ _ tC0 tD0 (and2 _ _ c0) w empty9_
 rw [if_neg c0,if_neg c0]
 by_cases c1:L1 = 0∧H1 = 0
 ·rw [if_pos c1,if_pos c1]
  have h:=byN2_ (pw L1) (pw H1) (pw L2) (pw H2) _ _ _ _ tC0 tD0 tA0 tB0 (nand2 _ _ c0) (and2 _ _ c1) w
  rw [c1.1,c1.2] at h ⊢
  exact h
 rw [if_neg c1,if_neg c1]
 by_cases c2:L2 < 0∧0 < H2
 ·rw [if_pos c2,if_pos c2,pw_I,pw_MI]
  exact byN3_ _ _ _ _ _ _ _ _ _ _ tC0 tD0 tA0 tB0 tCl tDg (nand2 _ _ c0) (nand2 _ _ c1) (and2 _ _ c2) w entire9_
 rw [if_neg c2,if_neg c2]
 by_cases c3:L1 < 0∧0 < H1
 ·rw [if_pos c3,if_pos c3,pw_I,pw_MI]
  exact byN4_ _ _ _ _ _ _ _ _ _ _ _ _ tC0 tD0 tA0 tB0 tCl tDg tAl tBg (nand2 _ _ c0) (nand2 _ _ c1) (nand2 _ _ c2) (and2 _ _ c3) w entire9_
 rw [if_neg c3,if_neg c3]
 by_cases c4:L2 = 0∧0≤L1
 ·rw [if_pos c4,if_pos c4,pw_I]
  exact byN5_ _ _ _ _ _ _ _ _ _ _ _ _ _ _ tC0 tD0 tA0 tB0 tCl tDg tAl tBg tAg (nand2 _ _ c0) (nand2 _ _ c1) (nand2 _ _ c2) (nand2 _ _ c3) (and2 _ _ c4) w (fun W k=>divPQ_ K hK (-1) L1 H2 (by omega) (by omega) b1 b4 (by omega) (by omega) W (hT.kp k))
 rw [if_neg c4,if_neg c4]
 by_cases c5:L2 = 0
 ·rw [if_pos c5,if_pos c5,pw_MI]
  exact byN6_ _ _ _ _ _ _ _ _ _ _ _ _ _ _ tC0 tD0 tA0 tB0 tCl tDg tAl tBg tAg (nand2 _ _ c0) (nand2 _ _ c1) (nand2 _ _ c2) (nand2 _ _ c3) (nand2 _ _ c4) (decide_eq_true c5) w (fun W k=>divPQ_ K hK 1 H1 H2 (by omega) (by omega) b2 b4 (by omega) (by omega) W (hT.kp k))
 rw [if_neg c5,if_neg c5]
 by_cases c6:0≤L1
 ·rw [if_pos c6,if_pos c6,pw_MI]
  exact byN7_ _ _ _ _ _ _ _ _ _ _ _ _ _ _ tC0 tD0 tA0 tB0 tCl tDg tAl tBg tAg (nand2 _ _ c0) (nand2 _ _ c1) (nand2 _ _ c2) (nand2 _ _ c3) (nand2 _ _ c4) (decide_eq_false c5) (decide_eq_true c6) w (fun W k=>divPQ_ K hK 1 L1 L2 (by omega) (by omega) b1 b3 (by omega) (by omega) W (hT.kp k))
 rw [if_neg c6,if_neg c6,pw_I]
 exact byN8_ _ _ _ _ _ _ _ _ _ _ _ _ _ _ tC0 tD0 tA0 tB0 tCl tDg tAl tBg tAg (nand2 _ _ c0) (nand2 _ _ c1) (nand2 _ _ c2) (nand2 _ _ c3) (nand2 _ _ c4) (decide_eq_false c5) (decide_eq_false c6) w (fun W k=>divPQ_ K hK (-1) H1 L2 (by omega) (by omega) b2 b3 (by omega) (by omega) W (hT.kp k))
theorem div9Q_ (K:Nat) (hK:K = 1074) (a b c d:Nat) (L1 H1 L2 H2:Int) (hx:Rd a b L1 H1) (hy:Rd c d L2 H2) (w:World) (hT:Fq.Tab w):Calls Tryz.prog 7 #[.agg #[.float .f64 a,.float .f64 b],.agg #[.float .f64 c,.float .f64 d]] w fun e w'=>e = .returned (.agg #[.float .f64 (pw (dLo K L1 H1 L2 H2)),.float .f64 (pw (dHi K L1 H1 L2 H2))])∧Kp w w':=by
 have v1:=void9_ L1 H1 hx.vd
 have v2:=void9_ L2 H2 hy.vd
 unfold dLo dHi
 by_cases c1:L1 = 9218868437227405312
 ·rw [if_pos (Or.inl c1),if_pos (Or.inl c1),pw_I,pw_MI]
  rw [decide_eq_true c1] at v1
  exact div6v1_ a b c d _ _ _ _ hx.call hy.call v1 empty9_ w
 rw [decide_eq_false c1] at v1
 by_cases c2:L2 = 9218868437227405312
 ·rw [if_pos (Or.inr c2),if_pos (Or.inr c2),pw_I,pw_MI]
  rw [decide_eq_true c2] at v2
  exact div6v2_ a b c d _ _ _ _ hx.call hy.call v1 v2 empty9_ w
 rw [decide_eq_false c2] at v2
 have cE:¬ (L1 = 9218868437227405312∨L2 = 9218868437227405312):=by omega
 rw [if_neg cE,if_neg cE]
 have b1:=hx.vd.lo;have b2:=hx.vd.hi;have b3:=hy.vd.lo;have b4:=hy.vd.hi
 have hh:=holdsN_ (pw L2) (pw H2) _ _ (le0_pw L2 b3) (ge0_pw H2 b4)
 by_cases c3:L2≤0∧0≤H2
 ·rw [if_pos c3,if_pos c3]
  rw [and2 _ _ c3] at hh
  exact div6b_ a b c d _ _ _ _ hx.call hy.call v1 v2 hh _ _ w (fun W k=>byN9Q_ K hK L1 H1 L2 H2 hx.vd hy.vd c1 c2 c3 W (hT.kp k))
 rw [if_neg c3,if_neg c3]
 rw [nand2 _ _ c3] at hh
 have d1:=hx.vd
 have d2:=hy.vd
 unfold VdZ at d1 d2
 have gb:∀ x y,BdZ (diZ K (-1) x y):=diZ_bd K (-1)
 have lo:∀ (x y:Int),BdZ x→BdZ y→y≠0→¬ ((x = 9218868437227405312∨x = -9218868437227405312)∧(y = 9218868437227405312∨y = -9218868437227405312))→∀ W0:World,Fq.Tab W0→∀ W:World,Kp W0 W→Calls Tryz.prog 21 #[.float .f64 (pw x),.float .f64 (pw y)] W fun e w'=>e = .returned (.float .f64 (pw (diZ K (-1) x y)))∧Kp W w':=fun x y g1 g2 zy hb W0 t W k=>quoPQ_ K hK x y g1 g2 zy hb W (t.kp k)
 refine div6n_ a b c d _ _ _ _ hx.call hy.call v1 v2 hh _ _ w (fun W k=>?_)
 have hT:=hT.kp k
 exact spreadA_ _ _ _ _ _ _ _ _ _ _ W (fun W' k'=>lsQ9_ (diZ K (-1)) L1 H1 H2 L2 b1 b2 b4 b3 W' (fun _ _=>lo _ _ b2 b4 (by omega) (by omega) W' (hT.kp k')) (fun _ _=>lo _ _ b1 b3 (by omega) (by omega) W' (hT.kp k')) (fun _ _ _=>lo _ _ b2 b3 (by omega) (by omega) W' (hT.kp k')) (fun _ _ _=>lo _ _ b1 b4 (by omega) (by omega) W' (hT.kp k')) (gb _ _) (gb _ _)) (neg9_ _ _ _ _ (Rd.of hx.vd)) (fun W' k'=>lsQ9_ (diZ K (-1)) (-H1) (-L1) H2 L2 (bd_neg _ b2) (bd_neg _ b1) b4 b3 W' (fun _ _=>lo _ _ (bd_neg _ b1) b4 (by omega) (by omega) W' (hT.kp k')) (fun _ _=>lo _ _ (bd_neg _ b2) b3 (by omega) (by omega) W' (hT.kp k')) (fun _ _ _=>lo _ _ (bd_neg _ b1) b3 (by omega) (by omega) W' (hT.kp k')) (fun _ _ _=>lo _ _ (bd_neg _ b2) b4 (by omega) (by omega) W' (hT.kp k')) (gb _ _) (gb _ _)) (minus9_ _ (lst_bd _ gb _ _ _ _))
end Go.Proofs.YtngglmnhjjlgkaaGreatDoor
