import Derived.Test.YtngglmnhjjlgkaaGreatDoorKIMo
set_option maxHeartbeats 4000000
set_option maxRecDepth 20000
namespace Go.Proofs.YtngglmnhjjlgkaaGreatDoor
open Go.RowKit
set_option linter.unusedVariables false
theorem byN6_ (a b c d Z:Nat) (C0 D0 A0 B0 Cl Dg Al Bg Ag:Bool) (tC0:(FloatKind.f64.format.order c 0 == some Ordering.eq) = C0) (tD0:(FloatKind.f64.format.order d 0 == some Ordering.eq) = D0) (tA0:(FloatKind.f64.format.order a 0 == some Ordering.eq) = A0) (tB0:(FloatKind.f64.format.order b 0 == some Ordering.eq) = B0) (tCl:(FloatKind.f64.format.order c 0 == some Ordering.lt) = Cl) (tDg:(FloatKind.f64.format.order d 0 == some Ordering.gt) = Dg) (tAl:(FloatKind.f64.format.order a 0 == some Ordering.lt) = Al) (tBg:(FloatKind.f64.format.order b 0 == some Ordering.gt) = Bg) (tAg:(FloatKind.f64.format.order a 0 == some Ordering.gt || FloatKind.f64.format.order a 0 == some Ordering.eq) = Ag) (q0:(C0 && D0) = false) (q1:(A0 && B0) = false) (q2:(Cl && Dg) = false) (q3:(Al && Bg) = false) (q4:(C0 && Ag) = false) (q5:(C0) = true) (w:World) (hd:∀ W:World,Kp w W→Calls Tryz.prog 36 #[.int .i64 1,.float .f64 b,.float .f64 d] W fun e w'=>e = .returned (.float .f64 Z)∧Kp W w'):Calls Tryz.prog 19 #[.agg #[.float .f64 a,.float .f64 b],.agg #[.float .f64 c,.float .f64 d]] w fun e w'=>e = .returned (.agg #[.float .f64 18442240474082181120,.float .f64 Z])∧Kp w w':=by
 rw [tA0] at tAg
 go_enter Tryz.func19,Tryz.ntmps19
 go_upto_region 1 with fail
 have kw:Kp w (((w.alloc (.cells #[.float .f64 a,.float .f64 b] 28)).alloc (.cells #[.float .f64 c,.float .f64 d] 28)).alloc (.cells #[.float .f64 0,.float .f64 0] 28)):=(((Kp.refl w).alloc _).alloc _).alloc _
 have sw:H6 (((w.alloc (.cells #[.float .f64 a,.float .f64 b] 28)).alloc (.cells #[.float .f64 c,.float .f64 d] 28)).alloc (.cells #[.float .f64 0,.float .f64 0] 28)) w.heap.size (.float .f64 a) (.float .f64 b) (.float .f64 c) (.float .f64 d) (.float .f64 0) (.float .f64 0):=H6.new w (.float .f64 a) (.float .f64 b) (.float .f64 c) (.float .f64 d) (.float .f64 0) (.float .f64 0) 28 28 28
 generalize (((w.alloc (.cells #[.float .f64 a,.float .f64 b] 28)).alloc (.cells #[.float .f64 c,.float .f64 d] 28)).alloc (.cells #[.float .f64 0,.float .f64 0] 28)) = w1 at kw sw ⊢
 obtain ⟨⟨p0,p1,p2,p3⟩,⟨p4,p5,p6,p7⟩,⟨p8,p9,pa,pb⟩⟩:=id sw
 go_upto_region 1 with fail
 go_cut [5] (fun s5 wx=>s5 = .bool false∧wx = w1)
 case first =>
  cases C0 <;> cases D0 <;> first | (exfalso;revert q0;decide) | (exfalso;cases q5;done) | skip
  all_goals (
   go_wp2_with fail
   go_meet
   exact ⟨rfl,rfl⟩)
 case rest =>
 obtain ⟨rfl,hwc⟩:=hcut
 replace kw:Kp w wc:=(by rw [hwc];exact kw)
 replace sw:=(show H6 wc w.heap.size (.float .f64 a) (.float .f64 b) (.float .f64 c) (.float .f64 d) (.float .f64 0) (.float .f64 0) by rw [hwc];exact sw)
 clear hwc
 generalize wc = w1 at kw sw ⊢
 obtain ⟨⟨p0,p1,p2,p3⟩,⟨p4,p5,p6,p7⟩,⟨p8,p9,pa,pb⟩⟩:=id sw
 go_upto_region 3 with fail
 go_cut [15] (fun s15 wx=>s15 = .bool false∧wx = w1)
 case first =>
  cases A0 <;> cases B0 <;> first | (exfalso;revert q1;decide) | (exfalso;cases q5;done) | skip
  all_goals (
   go_wp2_with fail
   go_meet
   exact ⟨rfl,rfl⟩)
 case rest =>
 obtain ⟨rfl,hwc⟩:=hcut
 replace kw:Kp w wc:=(by rw [hwc];exact kw)
 replace sw:=(show H6 wc w.heap.size (.float .f64 a) (.float .f64 b) (.float .f64 c) (.float .f64 d) (.float .f64 0) (.float .f64 0) by rw [hwc];exact sw)
 clear hwc
 generalize wc = w1 at kw sw ⊢
 obtain ⟨⟨p0,p1,p2,p3⟩,⟨p4,p5,p6,p7⟩,⟨p8,p9,pa,pb⟩⟩:=id sw
 go_upto_region 5 with fail
 go_cut [25] (fun s25 wx=>s25 = .bool false∧wx = w1)
 case first =>
  cases Cl <;> cases Dg <;> first | (exfalso;revert q2;decide) | (exfalso;cases q5;done) | skip
  all_goals (
   go_wp2_with fail
   go_meet
   exact ⟨rfl,rfl⟩)
 case rest =>
 obtain ⟨rfl,hwc⟩:=hcut
 replace kw:Kp w wc:=(by rw [hwc];exact kw)
 replace sw:=(show H6 wc w.heap.size (.float .f64 a) (.float .f64 b) (.float .f64 c) (.float .f64 d) (.float .f64 0) (.float .f64 0) by rw [hwc];exact sw)
 clear hwc
 generalize wc = w1 at kw sw ⊢
 obtain ⟨⟨p0,p1,p2,p3⟩,⟨p4,p5,p6,p7⟩,⟨p8,p9,pa,pb⟩⟩:=id sw
 go_upto_region 6 with fail
 go_cut [25] (fun s25 wx=>s25 = .bool false∧wx = w1)
 case first =>
  cases Al <;> cases Bg <;> first | (exfalso;revert q3;decide) | (exfalso;cases q5;done) | skip
  all_goals (
   go_wp2_with fail
   go_meet
   exact ⟨rfl,rfl⟩)
 case rest =>
 obtain ⟨rfl,hwc⟩:=hcut
 replace kw:Kp w wc:=(by rw [hwc];exact kw)
 replace sw:=(show H6 wc w.heap.size (.float .f64 a) (.float .f64 b) (.float .f64 c) (.float .f64 d) (.float .f64 0) (.float .f64 0) by rw [hwc];exact sw)
 clear hwc
 generalize wc = w1 at kw sw ⊢
 obtain ⟨⟨p0,p1,p2,p3⟩,⟨p4,p5,p6,p7⟩,⟨p8,p9,pa,pb⟩⟩:=id sw
 go_upto_region 8 with fail
 go_cut [43] (fun s43 wx=>s43 = .bool false∧wx = w1)
 case first =>
  cases C0 <;> cases Ag <;> first | (exfalso;revert q4;decide) | (exfalso;cases q5;done) | skip
  all_goals (
   go_wp2_with fail
   go_meet
   exact ⟨rfl,rfl⟩)
 case rest =>
 obtain ⟨rfl,hwc⟩:=hcut
 replace kw:Kp w wc:=(by rw [hwc];exact kw)
 replace sw:=(show H6 wc w.heap.size (.float .f64 a) (.float .f64 b) (.float .f64 c) (.float .f64 d) (.float .f64 0) (.float .f64 0) by rw [hwc];exact sw)
 clear hwc
 generalize wc = w1 at kw sw ⊢
 obtain ⟨⟨p0,p1,p2,p3⟩,⟨p4,p5,p6,p7⟩,⟨p8,p9,pa,pb⟩⟩:=id sw
 go_upto_region 10 with fail
 go_cut [58] (fun s58 wx=>s58 = .bool true∧wx = w1)
 case first =>
  cases C0 <;> first | (exfalso;revert q5;decide) | (exfalso;cases q5;done) | skip
  all_goals (
   go_wp2_with fail
   go_meet
   exact ⟨rfl,rfl⟩)
 case rest =>
 obtain ⟨rfl,hwc⟩:=hcut
 replace kw:Kp w wc:=(by rw [hwc];exact kw)
 replace sw:=(show H6 wc w.heap.size (.float .f64 a) (.float .f64 b) (.float .f64 c) (.float .f64 d) (.float .f64 0) (.float .f64 0) by rw [hwc];exact sw)
 clear hwc
 generalize wc = w1 at kw sw ⊢
 obtain ⟨⟨p0,p1,p2,p3⟩,⟨p4,p5,p6,p7⟩,⟨p8,p9,pa,pb⟩⟩:=id sw
 go_wp2_with (first | (go_at_call 36;refine (hd _ kw).mono ?_;rintro e wx ⟨rfl,gx⟩;replace kw:=Kp.trans kw gx;replace sw:=H6.keep sw gx;clear gx;obtain ⟨⟨p0,p1,p2,p3⟩,⟨p4,p5,p6,p7⟩,⟨p8,p9,pa,pb⟩⟩:=id sw) | (go_at_call 37;refine (upTo_ _ _).mono ?_;rintro e wx ⟨rfl,gx⟩;replace kw:=Kp.trans kw gx;replace sw:=H6.keep sw gx;clear gx;obtain ⟨⟨p0,p1,p2,p3⟩,⟨p4,p5,p6,p7⟩,⟨p8,p9,pa,pb⟩⟩:=id sw))
 exact bodyPost_ret (v:=.agg #[.float .f64 18442240474082181120,.float .f64 Z]) (by simp [results,Tryz.results19,go_sem,p8,p9]) rfl ⟨rfl,(kw.setCell (by simp <;> omega) _).setCell (by simp <;> omega) _⟩
theorem byN7_ (a b c d Z:Nat) (C0 D0 A0 B0 Cl Dg Al Bg Ag:Bool) (tC0:(FloatKind.f64.format.order c 0 == some Ordering.eq) = C0) (tD0:(FloatKind.f64.format.order d 0 == some Ordering.eq) = D0) (tA0:(FloatKind.f64.format.order a 0 == some Ordering.eq) = A0) (tB0:(FloatKind.f64.format.order b 0 == some Ordering.eq) = B0) (tCl:(FloatKind.f64.format.order c 0 == some Ordering.lt) = Cl) (tDg:(FloatKind.f64.format.order d 0 == some Ordering.gt) = Dg) (tAl:(FloatKind.f64.format.order a 0 == some Ordering.lt) = Al) (tBg:(FloatKind.f64.format.order b 0 == some Ordering.gt) = Bg) (tAg:(FloatKind.f64.format.order a 0 == some Ordering.gt || FloatKind.f64.format.order a 0 == some Ordering.eq) = Ag) (q0:(C0 && D0) = false) (q1:(A0 && B0) = false) (q2:(Cl && Dg) = false) (q3:(Al && Bg) = false) (q4:(C0 && Ag) = false) (q5:(C0) = false) (q6:(Ag) = true) (w:World) (hd:∀ W:World,Kp w W→Calls Tryz.prog 36 #[.int .i64 1,.float .f64 a,.float .f64 c] W fun e w'=>e = .returned (.float .f64 Z)∧Kp W w'):Calls Tryz.prog 19 #[.agg #[.float .f64 a,.float .f64 b],.agg #[.float .f64 c,.float .f64 d]] w fun e w'=>e = .returned (.agg #[.float .f64 18442240474082181120,.float .f64 Z])∧Kp w w':=by
 rw [tA0] at tAg
 go_enter Tryz.func19,Tryz.ntmps19
 go_upto_region 1 with fail
 have kw:Kp w (((w.alloc (.cells #[.float .f64 a,.float .f64 b] 28)).alloc (.cells #[.float .f64 c,.float .f64 d] 28)).alloc (.cells #[.float .f64 0,.float .f64 0] 28)):=(((Kp.refl w).alloc _).alloc _).alloc _
 have sw:H6 (((w.alloc (.cells #[.float .f64 a,.float .f64 b] 28)).alloc (.cells #[.float .f64 c,.float .f64 d] 28)).alloc (.cells #[.float .f64 0,.float .f64 0] 28)) w.heap.size (.float .f64 a) (.float .f64 b) (.float .f64 c) (.float .f64 d) (.float .f64 0) (.float .f64 0):=H6.new w (.float .f64 a) (.float .f64 b) (.float .f64 c) (.float .f64 d) (.float .f64 0) (.float .f64 0) 28 28 28
 generalize (((w.alloc (.cells #[.float .f64 a,.float .f64 b] 28)).alloc (.cells #[.float .f64 c,.float .f64 d] 28)).alloc (.cells #[.float .f64 0,.float .f64 0] 28)) = w1 at kw sw ⊢
 obtain ⟨⟨p0,p1,p2,p3⟩,⟨p4,p5,p6,p7⟩,⟨p8,p9,pa,pb⟩⟩:=id sw
 go_upto_region 1 with fail
 go_cut [5] (fun s5 wx=>s5 = .bool false∧wx = w1)
 case first =>
  cases C0 <;> cases D0 <;> first | (exfalso;revert q0;decide) | (exfalso;cases q5;done) | (exfalso;cases q6;done) | skip
  all_goals (
   go_wp2_with fail
   go_meet
   exact ⟨rfl,rfl⟩)
 case rest =>
 obtain ⟨rfl,hwc⟩:=hcut
 replace kw:Kp w wc:=(by rw [hwc];exact kw)
 replace sw:=(show H6 wc w.heap.size (.float .f64 a) (.float .f64 b) (.float .f64 c) (.float .f64 d) (.float .f64 0) (.float .f64 0) by rw [hwc];exact sw)
 clear hwc
 generalize wc = w1 at kw sw ⊢
 obtain ⟨⟨p0,p1,p2,p3⟩,⟨p4,p5,p6,p7⟩,⟨p8,p9,pa,pb⟩⟩:=id sw
 go_upto_region 3 with fail
 go_cut [15] (fun s15 wx=>s15 = .bool false∧wx = w1)
 case first =>
  cases A0 <;> cases B0 <;> first | (exfalso;revert q1;decide) | (exfalso;cases q5;done) | (exfalso;cases q6;done) | skip
  all_goals (
   go_wp2_with fail
   go_meet
   exact ⟨rfl,rfl⟩)
 case rest =>
 obtain ⟨rfl,hwc⟩:=hcut
 replace kw:Kp w wc:=(by rw [hwc];exact kw)
 replace sw:=(show H6 wc w.heap.size (.float .f64 a) (.float .f64 b) (.float .f64 c) (.float .f64 d) (.float .f64 0) (.float .f64 0) by rw [hwc];exact sw)
 clear hwc
 generalize wc = w1 at kw sw ⊢
 obtain ⟨⟨p0,p1,p2,p3⟩,⟨p4,p5,p6,p7⟩,⟨p8,p9,pa,pb⟩⟩:=id sw
 go_upto_region 5 with fail
 go_cut [25] (fun s25 wx=>s25 = .bool false∧wx = w1)
 case first =>
  cases Cl <;> cases Dg <;> first | (exfalso;revert q2;decide) | (exfalso;cases q5;done) | (exfalso;cases q6;done) | skip
  all_goals (
   go_wp2_with fail
   go_meet
   exact ⟨rfl,rfl⟩)
 case rest =>
 obtain ⟨rfl,hwc⟩:=hcut
 replace kw:Kp w wc:=(by rw [hwc];exact kw)
 replace sw:=(show H6 wc w.heap.size (.float .f64 a) (.float .f64 b) (.float .f64 c) (.float .f64 d) (.float .f64 0) (.float .f64 0) by rw [hwc];exact sw)
 clear hwc
 generalize wc = w1 at kw sw ⊢
 obtain ⟨⟨p0,p1,p2,p3⟩,⟨p4,p5,p6,p7⟩,⟨p8,p9,pa,pb⟩⟩:=id sw
 go_upto_region 6 with fail
 go_cut [25] (fun s25 wx=>s25 = .bool false∧wx = w1)
 case first =>
  cases Al <;> cases Bg <;> first | (exfalso;revert q3;decide) | (exfalso;cases q5;done) | (exfalso;cases q6;done) | skip
  all_goals (
   go_wp2_with fail
   go_meet
   exact ⟨rfl,rfl⟩)
 case rest =>
 obtain ⟨rfl,hwc⟩:=hcut
 replace kw:Kp w wc:=(by rw [hwc];exact kw)
 replace sw:=(show H6 wc w.heap.size (.float .f64 a) (.float .f64 b) (.float .f64 c) (.float .f64 d) (.float .f64 0) (.float .f64 0) by rw [hwc];exact sw)
 clear hwc
 generalize wc = w1 at kw sw ⊢
 obtain ⟨⟨p0,p1,p2,p3⟩,⟨p4,p5,p6,p7⟩,⟨p8,p9,pa,pb⟩⟩:=id sw
 go_upto_region 8 with fail
 go_cut [43] (fun s43 wx=>s43 = .bool false∧wx = w1)
 case first =>
  cases C0 <;> cases Ag <;> first | (exfalso;revert q4;decide) | (exfalso;cases q5;done) | (exfalso;cases q6;done) | skip
  all_goals (
   go_wp2_with fail
   go_meet
   exact ⟨rfl,rfl⟩)
 case rest =>
 obtain ⟨rfl,hwc⟩:=hcut
 replace kw:Kp w wc:=(by rw [hwc];exact kw)
 replace sw:=(show H6 wc w.heap.size (.float .f64 a) (.float .f64 b) (.float .f64 c) (.float .f64 d) (.float .f64 0) (.float .f64 0) by rw [hwc];exact sw)
 clear hwc
 generalize wc = w1 at kw sw ⊢
 obtain ⟨⟨p0,p1,p2,p3⟩,⟨p4,p5,p6,p7⟩,⟨p8,p9,pa,pb⟩⟩:=id sw
 go_upto_region 10 with fail
 go_cut [58] (fun s58 wx=>s58 = .bool false∧wx = w1)
 case first =>
  cases C0 <;> first | (exfalso;revert q5;decide) | (exfalso;cases q5;done) | (exfalso;cases q6;done) | skip
  all_goals (
   go_wp2_with fail
   go_meet
   exact ⟨rfl,rfl⟩)
 case rest =>
 obtain ⟨rfl,hwc⟩:=hcut
 replace kw:Kp w wc:=(by rw [hwc];exact kw)
 replace sw:=(show H6 wc w.heap.size (.float .f64 a) (.float .f64 b) (.float .f64 c) (.float .f64 d) (.float .f64 0) (.float .f64 0) by rw [hwc];exact sw)
 clear hwc
 generalize wc = w1 at kw sw ⊢
 obtain ⟨⟨p0,p1,p2,p3⟩,⟨p4,p5,p6,p7⟩,⟨p8,p9,pa,pb⟩⟩:=id sw
 go_upto_region 12 with fail
 go_cut [68] (fun s68 wx=>s68 = .bool true∧wx = w1)
 case first =>
  cases Ag <;> first | (exfalso;revert q6;decide) | (exfalso;cases q5;done) | (exfalso;cases q6;done) | skip
  all_goals (
   go_wp2_with fail
   go_meet
   exact ⟨rfl,rfl⟩)
 case rest =>
 obtain ⟨rfl,hwc⟩:=hcut
 replace kw:Kp w wc:=(by rw [hwc];exact kw)
 replace sw:=(show H6 wc w.heap.size (.float .f64 a) (.float .f64 b) (.float .f64 c) (.float .f64 d) (.float .f64 0) (.float .f64 0) by rw [hwc];exact sw)
 clear hwc
 generalize wc = w1 at kw sw ⊢
 obtain ⟨⟨p0,p1,p2,p3⟩,⟨p4,p5,p6,p7⟩,⟨p8,p9,pa,pb⟩⟩:=id sw
 go_wp2_with (first | (go_at_call 36;refine (hd _ kw).mono ?_;rintro e wx ⟨rfl,gx⟩;replace kw:=Kp.trans kw gx;replace sw:=H6.keep sw gx;clear gx;obtain ⟨⟨p0,p1,p2,p3⟩,⟨p4,p5,p6,p7⟩,⟨p8,p9,pa,pb⟩⟩:=id sw) | (go_at_call 37;refine (upTo_ _ _).mono ?_;rintro e wx ⟨rfl,gx⟩;replace kw:=Kp.trans kw gx;replace sw:=H6.keep sw gx;clear gx;obtain ⟨⟨p0,p1,p2,p3⟩,⟨p4,p5,p6,p7⟩,⟨p8,p9,pa,pb⟩⟩:=id sw))
 exact bodyPost_ret (v:=.agg #[.float .f64 18442240474082181120,.float .f64 Z]) (by simp [results,Tryz.results19,go_sem,p8,p9]) rfl ⟨rfl,(kw.setCell (by simp <;> omega) _).setCell (by simp <;> omega) _⟩
theorem byN8_ (a b c d Z:Nat) (C0 D0 A0 B0 Cl Dg Al Bg Ag:Bool) (tC0:(FloatKind.f64.format.order c 0 == some Ordering.eq) = C0) (tD0:(FloatKind.f64.format.order d 0 == some Ordering.eq) = D0) (tA0:(FloatKind.f64.format.order a 0 == some Ordering.eq) = A0) (tB0:(FloatKind.f64.format.order b 0 == some Ordering.eq) = B0) (tCl:(FloatKind.f64.format.order c 0 == some Ordering.lt) = Cl) (tDg:(FloatKind.f64.format.order d 0 == some Ordering.gt) = Dg) (tAl:(FloatKind.f64.format.order a 0 == some Ordering.lt) = Al) (tBg:(FloatKind.f64.format.order b 0 == some Ordering.gt) = Bg) (tAg:(FloatKind.f64.format.order a 0 == some Ordering.gt || FloatKind.f64.format.order a 0 == some Ordering.eq) = Ag) (q0:(C0 && D0) = false) (q1:(A0 && B0) = false) (q2:(Cl && Dg) = false) (q3:(Al && Bg) = false) (q4:(C0 && Ag) = false) (q5:(C0) = false) (q6:(Ag) = false) (w:World) (hd:∀ W:World,Kp w W→Calls Tryz.prog 36 #[.int .i64 (-1),.float .f64 b,.float .f64 c] W fun e w'=>e = .returned (.float .f64 Z)∧Kp W w'):Calls Tryz.prog 19 #[.agg #[.float .f64 a,.float .f64 b],.agg #[.float .f64 c,.float .f64 d]] w fun e w'=>e = .returned (.agg #[.float .f64 Z,.float .f64 9218868437227405312])∧Kp w w':=by
 rw [tA0] at tAg
 go_enter Tryz.func19,Tryz.ntmps19
 go_upto_region 1 with fail
 have kw:Kp w (((w.alloc (.cells #[.float .f64 a,.float .f64 b] 28)).alloc (.cells #[.float .f64 c,.float .f64 d] 28)).alloc (.cells #[.float .f64 0,.float .f64 0] 28)):=(((Kp.refl w).alloc _).alloc _).alloc _
 have sw:H6 (((w.alloc (.cells #[.float .f64 a,.float .f64 b] 28)).alloc (.cells #[.float .f64 c,.float .f64 d] 28)).alloc (.cells #[.float .f64 0,.float .f64 0] 28)) w.heap.size (.float .f64 a) (.float .f64 b) (.float .f64 c) (.float .f64 d) (.float .f64 0) (.float .f64 0):=H6.new w (.float .f64 a) (.float .f64 b) (.float .f64 c) (.float .f64 d) (.float .f64 0) (.float .f64 0) 28 28 28
 generalize (((w.alloc (.cells #[.float .f64 a,.float .f64 b] 28)).alloc (.cells #[.float .f64 c,.float .f64 d] 28)).alloc (.cells #[.float .f64 0,.float .f64 0] 28)) = w1 at kw sw ⊢
 obtain ⟨⟨p0,p1,p2,p3⟩,⟨p4,p5,p6,p7⟩,⟨p8,p9,pa,pb⟩⟩:=id sw
 go_upto_region 1 with fail
 go_cut [5] (fun s5 wx=>s5 = .bool false∧wx = w1)
 case first =>
  cases C0 <;> cases D0 <;> first | (exfalso;revert q0;decide) | (exfalso;cases q5;done) | (exfalso;cases q6;done) | skip
  all_goals (
   go_wp2_with fail
   go_meet
   exact ⟨rfl,rfl⟩)
 case rest =>
 obtain ⟨rfl,hwc⟩:=hcut
 replace kw:Kp w wc:=(by rw [hwc];exact kw)
 replace sw:=(show H6 wc w.heap.size (.float .f64 a) (.float .f64 b) (.float .f64 c) (.float .f64 d) (.float .f64 0) (.float .f64 0) by rw [hwc];exact sw)
 clear hwc
 generalize wc = w1 at kw sw ⊢
 obtain ⟨⟨p0,p1,p2,p3⟩,⟨p4,p5,p6,p7⟩,⟨p8,p9,pa,pb⟩⟩:=id sw
 go_upto_region 3 with fail
 go_cut [15] (fun s15 wx=>s15 = .bool false∧wx = w1)
 case first =>
  cases A0 <;> cases B0 <;> first | (exfalso;revert q1;decide) | (exfalso;cases q5;done) | (exfalso;cases q6;done) | skip
  all_goals (
   go_wp2_with fail
   go_meet
   exact ⟨rfl,rfl⟩)
 case rest =>
 obtain ⟨rfl,hwc⟩:=hcut
 replace kw:Kp w wc:=(by rw [hwc];exact kw)
 replace sw:=(show H6 wc w.heap.size (.float .f64 a) (.float .f64 b) (.float .f64 c) (.float .f64 d) (.float .f64 0) (.float .f64 0) by rw [hwc];exact sw)
 clear hwc
 generalize wc = w1 at kw sw ⊢
 obtain ⟨⟨p0,p1,p2,p3⟩,⟨p4,p5,p6,p7⟩,⟨p8,p9,pa,pb⟩⟩:=id sw
 go_upto_region 5 with fail
 go_cut [25] (fun s25 wx=>s25 = .bool false∧wx = w1)
 case first =>
  cases Cl <;> cases Dg <;> first | (exfalso;revert q2;decide) | (exfalso;cases q5;done) | (exfalso;cases q6;done) | skip
  all_goals (
   go_wp2_with fail
   go_meet
   exact ⟨rfl,rfl⟩)
 case rest =>
 obtain ⟨rfl,hwc⟩:=hcut
 replace kw:Kp w wc:=(by rw [hwc];exact kw)
 replace sw:=(show H6 wc w.heap.size (.float .f64 a) (.float .f64 b) (.float .f64 c) (.float .f64 d) (.float .f64 0) (.float .f64 0) by rw [hwc];exact sw)
 clear hwc
 generalize wc = w1 at kw sw ⊢
 obtain ⟨⟨p0,p1,p2,p3⟩,⟨p4,p5,p6,p7⟩,⟨p8,p9,pa,pb⟩⟩:=id sw
 go_upto_region 6 with fail
 go_cut [25] (fun s25 wx=>s25 = .bool false∧wx = w1)
 case first =>
  cases Al <;> cases Bg <;> first | (exfalso;revert q3;decide) | (exfalso;cases q5;done) | (exfalso;cases q6;done) | skip
  all_goals (
   go_wp2_with fail
   go_meet
   exact ⟨rfl,rfl⟩)
 case rest =>
 obtain ⟨rfl,hwc⟩:=hcut
 replace kw:Kp w wc:=(by rw [hwc];exact kw)
 replace sw:=(show H6 wc w.heap.size (.float .f64 a) (.float .f64 b) (.float .f64 c) (.float .f64 d) (.float .f64 0) (.float .f64 0) by rw [hwc];exact sw)
 clear hwc
 generalize wc = w1 at kw sw ⊢
 obtain ⟨⟨p0,p1,p2,p3⟩,⟨p4,p5,p6,p7⟩,⟨p8,p9,pa,pb⟩⟩:=id sw
 go_upto_region 8 with fail
 go_cut [43] (fun s43 wx=>s43 = .bool false∧wx = w1)
 case first =>
  cases C0 <;> cases Ag <;> first | (exfalso;revert q4;decide) | (exfalso;cases q5;done) | (exfalso;cases q6;done) | skip
  all_goals (
   go_wp2_with fail
   go_meet
   exact ⟨rfl,rfl⟩)
 case rest =>
 obtain ⟨rfl,hwc⟩:=hcut
 replace kw:Kp w wc:=(by rw [hwc];exact kw)
 replace sw:=(show H6 wc w.heap.size (.float .f64 a) (.float .f64 b) (.float .f64 c) (.float .f64 d) (.float .f64 0) (.float .f64 0) by rw [hwc];exact sw)
 clear hwc
 generalize wc = w1 at kw sw ⊢
 obtain ⟨⟨p0,p1,p2,p3⟩,⟨p4,p5,p6,p7⟩,⟨p8,p9,pa,pb⟩⟩:=id sw
 go_upto_region 10 with fail
 go_cut [58] (fun s58 wx=>s58 = .bool false∧wx = w1)
 case first =>
  cases C0 <;> first | (exfalso;revert q5;decide) | (exfalso;cases q5;done) | (exfalso;cases q6;done) | skip
  all_goals (
   go_wp2_with fail
   go_meet
   exact ⟨rfl,rfl⟩)
 case rest =>
 obtain ⟨rfl,hwc⟩:=hcut
 replace kw:Kp w wc:=(by rw [hwc];exact kw)
 replace sw:=(show H6 wc w.heap.size (.float .f64 a) (.float .f64 b) (.float .f64 c) (.float .f64 d) (.float .f64 0) (.float .f64 0) by rw [hwc];exact sw)
 clear hwc
 generalize wc = w1 at kw sw ⊢
 obtain ⟨⟨p0,p1,p2,p3⟩,⟨p4,p5,p6,p7⟩,⟨p8,p9,pa,pb⟩⟩:=id sw
 go_upto_region 12 with fail
 go_cut [68] (fun s68 wx=>s68 = .bool false∧wx = w1)
 case first =>
  cases Ag <;> first | (exfalso;revert q6;decide) | (exfalso;cases q5;done) | (exfalso;cases q6;done) | skip
  all_goals (
   go_wp2_with fail
   go_meet
   exact ⟨rfl,rfl⟩)
 case rest =>
 obtain ⟨rfl,hwc⟩:=hcut
 replace kw:Kp w wc:=(by rw [hwc];exact kw)
 replace sw:=(show H6 wc w.heap.size (.float .f64 a) (.float .f64 b) (.float .f64 c) (.float .f64 d) (.float .f64 0) (.float .f64 0) by rw [hwc];exact sw)
 clear hwc
 generalize wc = w1 at kw sw ⊢
 obtain ⟨⟨p0,p1,p2,p3⟩,⟨p4,p5,p6,p7⟩,⟨p8,p9,pa,pb⟩⟩:=id sw
 go_wp2_with (first | (go_at_call 36;refine (hd _ kw).mono ?_;rintro e wx ⟨rfl,gx⟩;replace kw:=Kp.trans kw gx;replace sw:=H6.keep sw gx;clear gx;obtain ⟨⟨p0,p1,p2,p3⟩,⟨p4,p5,p6,p7⟩,⟨p8,p9,pa,pb⟩⟩:=id sw) | (go_at_call 35;refine (from_ _ _).mono ?_;rintro e wx ⟨rfl,gx⟩;replace kw:=Kp.trans kw gx;replace sw:=H6.keep sw gx;clear gx;obtain ⟨⟨p0,p1,p2,p3⟩,⟨p4,p5,p6,p7⟩,⟨p8,p9,pa,pb⟩⟩:=id sw))
 exact bodyPost_ret (v:=.agg #[.float .f64 Z,.float .f64 9218868437227405312]) (by simp [results,Tryz.results19,go_sem,p8,p9]) rfl ⟨rfl,(kw.setCell (by simp <;> omega) _).setCell (by simp <;> omega) _⟩
set_option linter.unusedVariables false
theorem div6v1_ (a b c d L1 H1 L2 H2:Nat) (hx:∀ w:World,Calls Tryz.prog 15 #[.agg #[.float .f64 a,.float .f64 b]] w fun e w'=>e = .returned (.agg #[.float .f64 L1,.float .f64 H1])∧Kp w w') (hy:∀ w:World,Calls Tryz.prog 15 #[.agg #[.float .f64 c,.float .f64 d]] w fun e w'=>e = .returned (.agg #[.float .f64 L2,.float .f64 H2])∧Kp w w') (hv1:∀ w:World,Calls Tryz.prog 16 #[.agg #[.float .f64 L1,.float .f64 H1]] w fun e w'=>e = .returned (.bool true)∧Kp w w') (hE:∀ w:World,Calls Tryz.prog 17 #[] w fun e w'=>e = .returned (.agg #[.float .f64 9218868437227405312,.float .f64 18442240474082181120])∧Kp w w') (w:World):Calls Tryz.prog 7 #[.agg #[.float .f64 a,.float .f64 b],.agg #[.float .f64 c,.float .f64 d]] w fun e w'=>e = .returned (.agg #[.float .f64 9218868437227405312,.float .f64 18442240474082181120])∧Kp w w':=by
  go_enter Tryz.func7,Tryz.ntmps7
  go_wp2
  go_region_with (first | (go_at_call_of 15 (Value.agg #[.float .f64 a,.float .f64 b]);refine (hx _).mono ?_;rintro e wx ⟨rfl,gx⟩;first | (have kx:=Kp.trans ky gx;have sx:=H6.keep sy gx;obtain ⟨⟨p0,p1,p2,p3⟩,⟨p4,p5,p6,p7⟩,⟨p8,p9,pa,pb⟩⟩:=id sx) | (have kx:Kp w wx:=Kp.trans (((((Kp.refl w).alloc _).alloc _).alloc _).drew) gx;have sx:=H6.keep (H6.new w (.float .f64 a) (.float .f64 b) (.float .f64 c) (.float .f64 d) (.float .f64 0) (.float .f64 0) 28 28 28) (Kp.trans (Kp.drew (Kp.refl _)) gx);obtain ⟨⟨p0,p1,p2,p3⟩,⟨p4,p5,p6,p7⟩,⟨p8,p9,pa,pb⟩⟩:=id sx)) | (go_at_call_of 15 (Value.agg #[.float .f64 c,.float .f64 d]);refine (hy _).mono ?_;rintro e wy ⟨rfl,gy⟩;first | (have ky:=Kp.trans kx gy;have sy:=H6.keep sx gy;obtain ⟨⟨p0,p1,p2,p3⟩,⟨p4,p5,p6,p7⟩,⟨p8,p9,pa,pb⟩⟩:=id sy) | (have ky:Kp w wy:=Kp.trans (((((Kp.refl w).alloc _).alloc _).alloc _).drew) gy;have sy:=H6.keep (H6.new w (.float .f64 a) (.float .f64 b) (.float .f64 c) (.float .f64 d) (.float .f64 0) (.float .f64 0) 28 28 28) (Kp.trans (Kp.drew (Kp.refl _)) gy);obtain ⟨⟨p0,p1,p2,p3⟩,⟨p4,p5,p6,p7⟩,⟨p8,p9,pa,pb⟩⟩:=id sy)))
  all_goals (first
   | skip
     have sw:=H6.put (id sy:H6 wy w.heap.size (.float .f64 a) (.float .f64 b) (.float .f64 c) (.float .f64 d) (.float .f64 0) (.float .f64 0)) (.float .f64 L1) (.float .f64 H1) (.float .f64 L2) (.float .f64 H2)
     have kw:Kp w ((((wy.setCell ⟨w.heap.size,0,none⟩ (.float .f64 L1)).setCell ⟨w.heap.size,1,none⟩ (.float .f64 H1)).setCell ⟨w.heap.size + 1,0,none⟩ (.float .f64 L2)).setCell ⟨w.heap.size + 1,1,none⟩ (.float .f64 H2)):=(((ky.setCell (Nat.le_refl _) _).setCell (Nat.le_refl _) _).setCell (Nat.le_succ _) _).setCell (Nat.le_succ _) _
     generalize hW:((((wy.setCell ⟨w.heap.size,0,none⟩ (.float .f64 L1)).setCell ⟨w.heap.size,1,none⟩ (.float .f64 H1)).setCell ⟨w.heap.size + 1,0,none⟩ (.float .f64 L2)).setCell ⟨w.heap.size + 1,1,none⟩ (.float .f64 H2)) = W at sw kw ⊢
     clear hW
   | skip
     have sw:=H6.put (id sx:H6 wx w.heap.size (.float .f64 a) (.float .f64 b) (.float .f64 c) (.float .f64 d) (.float .f64 0) (.float .f64 0)) (.float .f64 L1) (.float .f64 H1) (.float .f64 L2) (.float .f64 H2)
     have kw:Kp w ((((wx.setCell ⟨w.heap.size,0,none⟩ (.float .f64 L1)).setCell ⟨w.heap.size,1,none⟩ (.float .f64 H1)).setCell ⟨w.heap.size + 1,0,none⟩ (.float .f64 L2)).setCell ⟨w.heap.size + 1,1,none⟩ (.float .f64 H2)):=(((kx.setCell (Nat.le_refl _) _).setCell (Nat.le_refl _) _).setCell (Nat.le_succ _) _).setCell (Nat.le_succ _) _
     generalize hW:((((wx.setCell ⟨w.heap.size,0,none⟩ (.float .f64 L1)).setCell ⟨w.heap.size,1,none⟩ (.float .f64 H1)).setCell ⟨w.heap.size + 1,0,none⟩ (.float .f64 L2)).setCell ⟨w.heap.size + 1,1,none⟩ (.float .f64 H2)) = W at sw kw ⊢
     clear hW)
  all_goals (
   obtain ⟨⟨p0,p1,p2,p3⟩,⟨p4,p5,p6,p7⟩,⟨p8,p9,pa,pb⟩⟩:=id sw
   go_wp2_with (first | (go_at_call_of 16 (Value.agg #[.float .f64 L1,.float .f64 H1]);refine (hv1 _).mono ?_;rintro e wv ⟨rfl,gv⟩;have kv:=Kp.trans kw gv;have sv:=H6.keep sw gv;obtain ⟨⟨u0,u1,u2,u3⟩,⟨u4,u5,u6,u7⟩,⟨u8,u9,ua,ub⟩⟩:=id sv) | (go_at_call 17;refine (hE _).mono ?_;rintro e we ⟨rfl,ge⟩;obtain ⟨⟨e0,e1,e2,e3⟩,⟨e4,e5,e6,e7⟩,⟨e8,e9,ea,eb⟩⟩:=H6.keep sv ge;have ke:=Kp.trans kv ge))
   exact bodyPost_ret (v:=.agg #[.float .f64 9218868437227405312,.float .f64 18442240474082181120]) (by simp [results,Tryz.results7,go_sem,e8,e9]) rfl ⟨rfl,(ke.setCell (by simp;omega) _).setCell (by simp;omega) _⟩)
theorem div6v2_ (a b c d L1 H1 L2 H2:Nat) (hx:∀ w:World,Calls Tryz.prog 15 #[.agg #[.float .f64 a,.float .f64 b]] w fun e w'=>e = .returned (.agg #[.float .f64 L1,.float .f64 H1])∧Kp w w') (hy:∀ w:World,Calls Tryz.prog 15 #[.agg #[.float .f64 c,.float .f64 d]] w fun e w'=>e = .returned (.agg #[.float .f64 L2,.float .f64 H2])∧Kp w w') (hv1:∀ w:World,Calls Tryz.prog 16 #[.agg #[.float .f64 L1,.float .f64 H1]] w fun e w'=>e = .returned (.bool false)∧Kp w w') (hv2:∀ w:World,Calls Tryz.prog 16 #[.agg #[.float .f64 L2,.float .f64 H2]] w fun e w'=>e = .returned (.bool true)∧Kp w w') (hE:∀ w:World,Calls Tryz.prog 17 #[] w fun e w'=>e = .returned (.agg #[.float .f64 9218868437227405312,.float .f64 18442240474082181120])∧Kp w w') (w:World):Calls Tryz.prog 7 #[.agg #[.float .f64 a,.float .f64 b],.agg #[.float .f64 c,.float .f64 d]] w fun e w'=>e = .returned (.agg #[.float .f64 9218868437227405312,.float .f64 18442240474082181120])∧Kp w w':=by
  go_enter Tryz.func7,Tryz.ntmps7
  go_wp2
  go_region_with (first | (go_at_call_of 15 (Value.agg #[.float .f64 a,.float .f64 b]);refine (hx _).mono ?_;rintro e wx ⟨rfl,gx⟩;first | (have kx:=Kp.trans ky gx;have sx:=H6.keep sy gx;obtain ⟨⟨p0,p1,p2,p3⟩,⟨p4,p5,p6,p7⟩,⟨p8,p9,pa,pb⟩⟩:=id sx) | (have kx:Kp w wx:=Kp.trans (((((Kp.refl w).alloc _).alloc _).alloc _).drew) gx;have sx:=H6.keep (H6.new w (.float .f64 a) (.float .f64 b) (.float .f64 c) (.float .f64 d) (.float .f64 0) (.float .f64 0) 28 28 28) (Kp.trans (Kp.drew (Kp.refl _)) gx);obtain ⟨⟨p0,p1,p2,p3⟩,⟨p4,p5,p6,p7⟩,⟨p8,p9,pa,pb⟩⟩:=id sx)) | (go_at_call_of 15 (Value.agg #[.float .f64 c,.float .f64 d]);refine (hy _).mono ?_;rintro e wy ⟨rfl,gy⟩;first | (have ky:=Kp.trans kx gy;have sy:=H6.keep sx gy;obtain ⟨⟨p0,p1,p2,p3⟩,⟨p4,p5,p6,p7⟩,⟨p8,p9,pa,pb⟩⟩:=id sy) | (have ky:Kp w wy:=Kp.trans (((((Kp.refl w).alloc _).alloc _).alloc _).drew) gy;have sy:=H6.keep (H6.new w (.float .f64 a) (.float .f64 b) (.float .f64 c) (.float .f64 d) (.float .f64 0) (.float .f64 0) 28 28 28) (Kp.trans (Kp.drew (Kp.refl _)) gy);obtain ⟨⟨p0,p1,p2,p3⟩,⟨p4,p5,p6,p7⟩,⟨p8,p9,pa,pb⟩⟩:=id sy)))
  all_goals (first
   | skip
     have sw:=H6.put (id sy:H6 wy w.heap.size (.float .f64 a) (.float .f64 b) (.float .f64 c) (.float .f64 d) (.float .f64 0) (.float .f64 0)) (.float .f64 L1) (.float .f64 H1) (.float .f64 L2) (.float .f64 H2)
     have kw:Kp w ((((wy.setCell ⟨w.heap.size,0,none⟩ (.float .f64 L1)).setCell ⟨w.heap.size,1,none⟩ (.float .f64 H1)).setCell ⟨w.heap.size + 1,0,none⟩ (.float .f64 L2)).setCell ⟨w.heap.size + 1,1,none⟩ (.float .f64 H2)):=(((ky.setCell (Nat.le_refl _) _).setCell (Nat.le_refl _) _).setCell (Nat.le_succ _) _).setCell (Nat.le_succ _) _
     generalize hW:((((wy.setCell ⟨w.heap.size,0,none⟩ (.float .f64 L1)).setCell ⟨w.heap.size,1,none⟩ (.float .f64 H1)).setCell ⟨w.heap.size + 1,0,none⟩ (.float .f64 L2)).setCell ⟨w.heap.size + 1,1,none⟩ (.float .f64 H2)) = W at sw kw ⊢
     clear hW
   | skip
     have sw:=H6.put (id sx:H6 wx w.heap.size (.float .f64 a) (.float .f64 b) (.float .f64 c) (.float .f64 d) (.float .f64 0) (.float .f64 0)) (.float .f64 L1) (.float .f64 H1) (.float .f64 L2) (.float .f64 H2)
     have kw:Kp w ((((wx.setCell ⟨w.heap.size,0,none⟩ (.float .f64 L1)).setCell ⟨w.heap.size,1,none⟩ (.float .f64 H1)).setCell ⟨w.heap.size + 1,0,none⟩ (.float .f64 L2)).setCell ⟨w.heap.size + 1,1,none⟩ (.float .f64 H2)):=(((kx.setCell (Nat.le_refl _) _).setCell (Nat.le_refl _) _).setCell (Nat.le_succ _) _).setCell (Nat.le_succ _) _
     generalize hW:((((wx.setCell ⟨w.heap.size,0,none⟩ (.float .f64 L1)).setCell ⟨w.heap.size,1,none⟩ (.float .f64 H1)).setCell ⟨w.heap.size + 1,0,none⟩ (.float .f64 L2)).setCell ⟨w.heap.size + 1,1,none⟩ (.float .f64 H2)) = W at sw kw ⊢
     clear hW)
  all_goals (
   obtain ⟨⟨p0,p1,p2,p3⟩,⟨p4,p5,p6,p7⟩,⟨p8,p9,pa,pb⟩⟩:=id sw
   go_wp2_with (first | (go_at_call_of 16 (Value.agg #[.float .f64 L1,.float .f64 H1]);refine (hv1 _).mono ?_;rintro e wv ⟨rfl,gv⟩;have kv:=Kp.trans kw gv;have sv:=H6.keep sw gv;obtain ⟨⟨u0,u1,u2,u3⟩,⟨u4,u5,u6,u7⟩,⟨u8,u9,ua,ub⟩⟩:=id sv) | (go_at_call_of 16 (Value.agg #[.float .f64 L2,.float .f64 H2]);refine (hv2 _).mono ?_;rintro e wz ⟨rfl,gz⟩;have kz:=Kp.trans kv gz;have sz:=H6.keep sv gz;obtain ⟨⟨t0,t1,t2,t3⟩,⟨t4,t5,t6,t7⟩,⟨t8,t9,ta,tb⟩⟩:=id sz) | (go_at_call 17;refine (hE _).mono ?_;rintro e we ⟨rfl,ge⟩;obtain ⟨⟨e0,e1,e2,e3⟩,⟨e4,e5,e6,e7⟩,⟨e8,e9,ea,eb⟩⟩:=H6.keep sz ge;have ke:=Kp.trans kz ge))
   exact bodyPost_ret (v:=.agg #[.float .f64 9218868437227405312,.float .f64 18442240474082181120]) (by simp [results,Tryz.results7,go_sem,e8,e9]) rfl ⟨rfl,(ke.setCell (by simp;omega) _).setCell (by simp;omega) _⟩)
set_option linter.unusedVariables false
theorem div6b_ (a b c d L1 H1 L2 H2:Nat) (hx:∀ w:World,Calls Tryz.prog 15 #[.agg #[.float .f64 a,.float .f64 b]] w fun e w'=>e = .returned (.agg #[.float .f64 L1,.float .f64 H1])∧Kp w w') (hy:∀ w:World,Calls Tryz.prog 15 #[.agg #[.float .f64 c,.float .f64 d]] w fun e w'=>e = .returned (.agg #[.float .f64 L2,.float .f64 H2])∧Kp w w') (hv1:∀ w:World,Calls Tryz.prog 16 #[.agg #[.float .f64 L1,.float .f64 H1]] w fun e w'=>e = .returned (.bool false)∧Kp w w') (hv2:∀ w:World,Calls Tryz.prog 16 #[.agg #[.float .f64 L2,.float .f64 H2]] w fun e w'=>e = .returned (.bool false)∧Kp w w') (hh:∀ w:World,Calls Tryz.prog 18 #[.agg #[.float .f64 L2,.float .f64 H2]] w fun e w'=>e = .returned (.bool true)∧Kp w w') (Z1 Z2:Nat) (w:World) (hs:∀ W:World,Kp w W→Calls Tryz.prog 19 #[.agg #[.float .f64 L1,.float .f64 H1],.agg #[.float .f64 L2,.float .f64 H2]] W fun e w'=>e = .returned (.agg #[.float .f64 Z1,.float .f64 Z2])∧Kp W w'):Calls Tryz.prog 7 #[.agg #[.float .f64 a,.float .f64 b],.agg #[.float .f64 c,.float .f64 d]] w fun e w'=>e = .returned (.agg #[.float .f64 Z1,.float .f64 Z2])∧Kp w w':=by
  go_enter Tryz.func7,Tryz.ntmps7
  go_upto_region 1 with fail
  go_cut [] (fun wx=>H6 wx w.heap.size (.float .f64 L1) (.float .f64 H1) (.float .f64 L2) (.float .f64 H2) (.float .f64 0) (.float .f64 0)∧Kp w wx)
  case first =>
   go_region_with (first | (go_at_call_of 15 (Value.agg #[.float .f64 a,.float .f64 b]);refine (hx _).mono ?_;rintro e wx ⟨rfl,gx⟩;first | (have kx:=Kp.trans ky gx;have sx:=H6.keep sy gx;obtain ⟨⟨p0,p1,p2,p3⟩,⟨p4,p5,p6,p7⟩,⟨p8,p9,pa,pb⟩⟩:=id sx) | (have kx:Kp w wx:=Kp.trans ((((Kp.refl w).alloc _).alloc _).alloc _).drew gx;have sx:=H6.keep (H6.new w (.float .f64 a) (.float .f64 b) (.float .f64 c) (.float .f64 d) (.float .f64 0) (.float .f64 0) 28 28 28) (Kp.trans (Kp.drew (Kp.refl _)) gx);obtain ⟨⟨p0,p1,p2,p3⟩,⟨p4,p5,p6,p7⟩,⟨p8,p9,pa,pb⟩⟩:=id sx)) | (go_at_call_of 15 (Value.agg #[.float .f64 c,.float .f64 d]);refine (hy _).mono ?_;rintro e wy ⟨rfl,gy⟩;first | (have ky:=Kp.trans kx gy;have sy:=H6.keep sx gy;obtain ⟨⟨p0,p1,p2,p3⟩,⟨p4,p5,p6,p7⟩,⟨p8,p9,pa,pb⟩⟩:=id sy) | (have ky:Kp w wy:=Kp.trans ((((Kp.refl w).alloc _).alloc _).alloc _).drew gy;have sy:=H6.keep (H6.new w (.float .f64 a) (.float .f64 b) (.float .f64 c) (.float .f64 d) (.float .f64 0) (.float .f64 0) 28 28 28) (Kp.trans (Kp.drew (Kp.refl _)) gy);obtain ⟨⟨p0,p1,p2,p3⟩,⟨p4,p5,p6,p7⟩,⟨p8,p9,pa,pb⟩⟩:=id sy)))
   all_goals (
    go_wp2_with fail
    go_meet
    first | (exact ⟨H6.put (id sy:H6 wy w.heap.size (.float .f64 a) (.float .f64 b) (.float .f64 c) (.float .f64 d) (.float .f64 0) (.float .f64 0)) (.float .f64 L1) (.float .f64 H1) (.float .f64 L2) (.float .f64 H2),(((ky.setCell (Nat.le_refl _) _).setCell (Nat.le_refl _) _).setCell (Nat.le_succ _) _).setCell (Nat.le_succ _) _⟩) | (exact ⟨H6.put (id sx:H6 wx w.heap.size (.float .f64 a) (.float .f64 b) (.float .f64 c) (.float .f64 d) (.float .f64 0) (.float .f64 0)) (.float .f64 L1) (.float .f64 H1) (.float .f64 L2) (.float .f64 H2),(((kx.setCell (Nat.le_refl _) _).setCell (Nat.le_refl _) _).setCell (Nat.le_succ _) _).setCell (Nat.le_succ _) _⟩))
  case rest =>
  obtain ⟨sw,kw⟩:=hcut
  obtain ⟨⟨p0,p1,p2,p3⟩,⟨p4,p5,p6,p7⟩,⟨p8,p9,pa,pb⟩⟩:=id sw
  go_wp2_with (first | (go_at_call_of 16 (Value.agg #[.float .f64 L1,.float .f64 H1]);refine (hv1 _).mono ?_;rintro e wx ⟨rfl,gx⟩;replace kw:=Kp.trans kw gx;replace sw:=H6.keep sw gx;clear gx;obtain ⟨⟨p0,p1,p2,p3⟩,⟨p4,p5,p6,p7⟩,⟨p8,p9,pa,pb⟩⟩:=id sw) | (go_at_call_of 16 (Value.agg #[.float .f64 L2,.float .f64 H2]);refine (hv2 _).mono ?_;rintro e wx ⟨rfl,gx⟩;replace kw:=Kp.trans kw gx;replace sw:=H6.keep sw gx;clear gx;obtain ⟨⟨p0,p1,p2,p3⟩,⟨p4,p5,p6,p7⟩,⟨p8,p9,pa,pb⟩⟩:=id sw) | (go_at_call 18;refine (hh _).mono ?_;rintro e wx ⟨rfl,gx⟩;replace kw:=Kp.trans kw gx;replace sw:=H6.keep sw gx;clear gx;obtain ⟨⟨p0,p1,p2,p3⟩,⟨p4,p5,p6,p7⟩,⟨p8,p9,pa,pb⟩⟩:=id sw) | (go_at_call 19;refine (hs _ kw).mono ?_;rintro e wx ⟨rfl,gx⟩;replace kw:=Kp.trans kw gx;replace sw:=H6.keep sw gx;clear gx;obtain ⟨⟨p0,p1,p2,p3⟩,⟨p4,p5,p6,p7⟩,⟨p8,p9,pa,pb⟩⟩:=id sw))
  exact bodyPost_ret (v:=.agg #[.float .f64 Z1,.float .f64 Z2]) (by simp [results,Tryz.results7,go_sem,p8,p9]) rfl ⟨rfl,(kw.setCell (by simp <;> omega) _).setCell (by simp <;> omega) _⟩
theorem div6n_ (a b c d L1 H1 L2 H2:Nat) (hx:∀ w:World,Calls Tryz.prog 15 #[.agg #[.float .f64 a,.float .f64 b]] w fun e w'=>e = .returned (.agg #[.float .f64 L1,.float .f64 H1])∧Kp w w') (hy:∀ w:World,Calls Tryz.prog 15 #[.agg #[.float .f64 c,.float .f64 d]] w fun e w'=>e = .returned (.agg #[.float .f64 L2,.float .f64 H2])∧Kp w w') (hv1:∀ w:World,Calls Tryz.prog 16 #[.agg #[.float .f64 L1,.float .f64 H1]] w fun e w'=>e = .returned (.bool false)∧Kp w w') (hv2:∀ w:World,Calls Tryz.prog 16 #[.agg #[.float .f64 L2,.float .f64 H2]] w fun e w'=>e = .returned (.bool false)∧Kp w w') (hh:∀ w:World,Calls Tryz.prog 18 #[.agg #[.float .f64 L2,.float .f64 H2]] w fun e w'=>e = .returned (.bool false)∧Kp w w') (Z1 Z2:Nat) (w:World) (hs:∀ W:World,Kp w W→Calls Tryz.prog 20 #[.agg #[.float .f64 L1,.float .f64 H1],.agg #[.float .f64 H2,.float .f64 L2],.func (.func 21) #[] #[]] W fun e w'=>e = .returned (.agg #[.float .f64 Z1,.float .f64 Z2])∧Kp W w'):Calls Tryz.prog 7 #[.agg #[.float .f64 a,.float .f64 b],.agg #[.float .f64 c,.float .f64 d]] w fun e w'=>e = .returned (.agg #[.float .f64 Z1,.float .f64 Z2])∧Kp w w':=by
  go_enter Tryz.func7,Tryz.ntmps7
  go_upto_region 1 with fail
  go_cut [] (fun wx=>H6 wx w.heap.size (.float .f64 L1) (.float .f64 H1) (.float .f64 L2) (.float .f64 H2) (.float .f64 0) (.float .f64 0)∧Kp w wx)
  case first =>
   go_region_with (first | (go_at_call_of 15 (Value.agg #[.float .f64 a,.float .f64 b]);refine (hx _).mono ?_;rintro e wx ⟨rfl,gx⟩;first | (have kx:=Kp.trans ky gx;have sx:=H6.keep sy gx;obtain ⟨⟨p0,p1,p2,p3⟩,⟨p4,p5,p6,p7⟩,⟨p8,p9,pa,pb⟩⟩:=id sx) | (have kx:Kp w wx:=Kp.trans ((((Kp.refl w).alloc _).alloc _).alloc _).drew gx;have sx:=H6.keep (H6.new w (.float .f64 a) (.float .f64 b) (.float .f64 c) (.float .f64 d) (.float .f64 0) (.float .f64 0) 28 28 28) (Kp.trans (Kp.drew (Kp.refl _)) gx);obtain ⟨⟨p0,p1,p2,p3⟩,⟨p4,p5,p6,p7⟩,⟨p8,p9,pa,pb⟩⟩:=id sx)) | (go_at_call_of 15 (Value.agg #[.float .f64 c,.float .f64 d]);refine (hy _).mono ?_;rintro e wy ⟨rfl,gy⟩;first | (have ky:=Kp.trans kx gy;have sy:=H6.keep sx gy;obtain ⟨⟨p0,p1,p2,p3⟩,⟨p4,p5,p6,p7⟩,⟨p8,p9,pa,pb⟩⟩:=id sy) | (have ky:Kp w wy:=Kp.trans ((((Kp.refl w).alloc _).alloc _).alloc _).drew gy;have sy:=H6.keep (H6.new w (.float .f64 a) (.float .f64 b) (.float .f64 c) (.float .f64 d) (.float .f64 0) (.float .f64 0) 28 28 28) (Kp.trans (Kp.drew (Kp.refl _)) gy);obtain ⟨⟨p0,p1,p2,p3⟩,⟨p4,p5,p6,p7⟩,⟨p8,p9,pa,pb⟩⟩:=id sy)))
   all_goals (
    go_wp2_with fail
    go_meet
    first | (exact ⟨H6.put (id sy:H6 wy w.heap.size (.float .f64 a) (.float .f64 b) (.float .f64 c) (.float .f64 d) (.float .f64 0) (.float .f64 0)) (.float .f64 L1) (.float .f64 H1) (.float .f64 L2) (.float .f64 H2),(((ky.setCell (Nat.le_refl _) _).setCell (Nat.le_refl _) _).setCell (Nat.le_succ _) _).setCell (Nat.le_succ _) _⟩) | (exact ⟨H6.put (id sx:H6 wx w.heap.size (.float .f64 a) (.float .f64 b) (.float .f64 c) (.float .f64 d) (.float .f64 0) (.float .f64 0)) (.float .f64 L1) (.float .f64 H1) (.float .f64 L2) (.float .f64 H2),(((kx.setCell (Nat.le_refl _) _).setCell (Nat.le_refl _) _).setCell (Nat.le_succ _) _).setCell (Nat.le_succ _) _⟩))
  case rest =>
  obtain ⟨sw,kw⟩:=hcut
  obtain ⟨⟨p0,p1,p2,p3⟩,⟨p4,p5,p6,p7⟩,⟨p8,p9,pa,pb⟩⟩:=id sw
  go_wp2_with (first | (go_at_call_of 16 (Value.agg #[.float .f64 L1,.float .f64 H1]);refine (hv1 _).mono ?_;rintro e wx ⟨rfl,gx⟩;replace kw:=Kp.trans kw gx;replace sw:=H6.keep sw gx;clear gx;obtain ⟨⟨p0,p1,p2,p3⟩,⟨p4,p5,p6,p7⟩,⟨p8,p9,pa,pb⟩⟩:=id sw) | (go_at_call_of 16 (Value.agg #[.float .f64 L2,.float .f64 H2]);refine (hv2 _).mono ?_;rintro e wx ⟨rfl,gx⟩;replace kw:=Kp.trans kw gx;replace sw:=H6.keep sw gx;clear gx;obtain ⟨⟨p0,p1,p2,p3⟩,⟨p4,p5,p6,p7⟩,⟨p8,p9,pa,pb⟩⟩:=id sw) | (go_at_call 18;refine (hh _).mono ?_;rintro e wx ⟨rfl,gx⟩;replace kw:=Kp.trans kw gx;replace sw:=H6.keep sw gx;clear gx;obtain ⟨⟨p0,p1,p2,p3⟩,⟨p4,p5,p6,p7⟩,⟨p8,p9,pa,pb⟩⟩:=id sw) | (go_at_call 20;refine (hs _ kw).mono ?_;rintro e wx ⟨rfl,gx⟩;replace kw:=Kp.trans kw gx;replace sw:=H6.keep sw gx;clear gx;obtain ⟨⟨p0,p1,p2,p3⟩,⟨p4,p5,p6,p7⟩,⟨p8,p9,pa,pb⟩⟩:=id sw))
  exact bodyPost_ret (v:=.agg #[.float .f64 Z1,.float .f64 Z2]) (by simp [results,Tryz.results7,go_sem,p8,p9]) rfl ⟨rfl,(kw.setCell (by simp <;> omega) _).setCell (by simp <;> omega) _⟩
end Go.Proofs.YtngglmnhjjlgkaaGreatDoor
