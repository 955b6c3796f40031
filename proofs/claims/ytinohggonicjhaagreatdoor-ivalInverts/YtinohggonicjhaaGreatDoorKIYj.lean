import Derived.Test.YtinohggonicjhaaGreatDoorKIMo
set_option maxHeartbeats 2000000
set_option maxRecDepth 20000
namespace Go.Proofs.YtinohggonicjhaaGreatDoor
open Go.RowKit
set_option linter.unusedVariables false
theorem byN6_ (a b c d Z:Nat) (C0 D0 A0 B0 Cl Dg Al Bg Ag:Bool) (tC0:(FloatKind.f64.format.order c 0 == some Ordering.eq) = C0) (tD0:(FloatKind.f64.format.order d 0 == some Ordering.eq) = D0) (tA0:(FloatKind.f64.format.order a 0 == some Ordering.eq) = A0) (tB0:(FloatKind.f64.format.order b 0 == some Ordering.eq) = B0) (tCl:(FloatKind.f64.format.order c 0 == some Ordering.lt) = Cl) (tDg:(FloatKind.f64.format.order d 0 == some Ordering.gt) = Dg) (tAl:(FloatKind.f64.format.order a 0 == some Ordering.lt) = Al) (tBg:(FloatKind.f64.format.order b 0 == some Ordering.gt) = Bg) (tAg:(FloatKind.f64.format.order a 0 == some Ordering.gt || FloatKind.f64.format.order a 0 == some Ordering.eq) = Ag) (q0:(C0 && D0) = false) (q1:(A0 && B0) = false) (q2:(Cl && Dg) = false) (q3:(Al && Bg) = false) (q4:(C0 && Ag) = false) (q5:(C0) = true) (w:World) (hd:∀ W:World,Kp w W→Calls Tryz.prog 36 #[.int .i64 1,.float .f64 b,.float .f64 d] W fun e w'=>e = .returned (.float .f64 Z)∧Kp W w'):Calls Tryz.prog 19 #[.agg #[.float .f64 a,.float .f64 b],.agg #[.float .f64 c,.float .f64 d]] w fun e w'=>e = .returned (.agg #[.float .f64 18442240474082181120,.float .f64 Z])∧Kp w w':=by
  rw [tA0] at tAg
  go_enter Tryz.func19,Tryz.ntmps19
  go_upto_region 1 with fail
  have kw:Kp w (((w.alloc (.cells #[.float .f64 a,.float .f64 b] 28)).alloc (.cells #[.float .f64 c,.float .f64 d] 28)).alloc (.cells #[.float .f64 0,.float .f64 0] 28)):=(((Kp.refl w).alloc _).alloc _).alloc _
  have sw:H6 (((w.alloc (.cells #[.float .f64 a,.float .f64 b] 28)).alloc (.cells #[.float .f64 c,.float .f64 d] 28)).alloc (.cells #[.float .f64 0,.float .f64 0] 28)) w.heap.size (.float .f64 a) (.float .f64 b) (.float .f64 c) (.float .f64 d) (.float .f64 0) (.float .f64 0):=H6.new w (.float .f64 a) (.float .f64 b) (.float .f64 c) (.float .f64 d) (.float .f64 0) (.float .f64 0) 28 28 28
  generalize (((w.alloc (.cells #[.float .f64 a,.float .f64 b] 28)).alloc (.cells #[.float .f64 c,.float .f64 d] 28)).alloc (.cells #[.float .f64 0,.float .f64 0] 28)) = w1 at kw sw ⊢
  obtain ⟨⟨p0,p1,p2,p3⟩,⟨p4,p5,p6,p7⟩,⟨p8,p9,pa,pb⟩⟩:=id sw
  go_upto_region 1 with fail
  go_cut [5] (fun s5 wx=>s5 = .bool false∧wx = w1)
  case first =>
    cases C0 <;> cases D0 <;> first | (exfalso;revert q0;decide) | (exfalso;cases q5;done) | skip
    all_goals (
      go_wp2_with fail
      go_meet
      exact ⟨rfl,rfl⟩)
  case rest =>
  obtain ⟨rfl,hwc⟩:=hcut
  replace kw:Kp w wc:=(by rw [hwc];exact kw)
  replace sw:=(show H6 wc w.heap.size (.float .f64 a) (.float .f64 b) (.float .f64 c) (.float .f64 d) (.float .f64 0) (.float .f64 0) by rw [hwc];exact sw)
  clear hwc
  generalize wc = w1 at kw sw ⊢
  obtain ⟨⟨p0,p1,p2,p3⟩,⟨p4,p5,p6,p7⟩,⟨p8,p9,pa,pb⟩⟩:=id sw
  go_upto_region 3 with fail
  go_cut [15] (fun s15 wx=>s15 = .bool false∧wx = w1)
  case first =>
    cases A0 <;> cases B0 <;> first | (exfalso;revert q1;decide) | (exfalso;cases q5;done) | skip
    all_goals (
      go_wp2_with fail
      go_meet
      exact ⟨rfl,rfl⟩)
  case rest =>
  obtain ⟨rfl,hwc⟩:=hcut
  replace kw:Kp w wc:=(by rw [hwc];exact kw)
  replace sw:=(show H6 wc w.heap.size (.float .f64 a) (.float .f64 b) (.float .f64 c) (.float .f64 d) (.float .f64 0) (.float .f64 0) by rw [hwc];exact sw)
  clear hwc
  generalize wc = w1 at kw sw ⊢
  obtain ⟨⟨p0,p1,p2,p3⟩,⟨p4,p5,p6,p7⟩,⟨p8,p9,pa,pb⟩⟩:=id sw
  go_upto_region 5 with fail
  go_cut [25] (fun s25 wx=>s25 = .bool false∧wx = w1)
  case first =>
    cases Cl <;> cases Dg <;> first | (exfalso;revert q2;decide) | (exfalso;cases q5;done) | skip
    all_goals (
      go_wp2_with fail
      go_meet
      exact ⟨rfl,rfl⟩)
  case rest =>
  obtain ⟨rfl,hwc⟩:=hcut
  replace kw:Kp w wc:=(by rw [hwc];exact kw)
  replace sw:=(show H6 wc w.heap.size (.float .f64 a) (.float .f64 b) (.float .f64 c) (.float .f64 d) (.float .f64 0) (.float .f64 0) by rw [hwc];exact sw)
  clear hwc
  generalize wc = w1 at kw sw ⊢
  obtain ⟨⟨p0,p1,p2,p3⟩,⟨p4,p5,p6,p7⟩,⟨p8,p9,pa,pb⟩⟩:=id sw
  go_upto_region 6 with fail
  go_cut [25] (fun s25 wx=>s25 = .bool false∧wx = w1)
  case first =>
    cases Al <;> cases Bg <;> first | (exfalso;revert q3;decide) | (exfalso;cases q5;done) | skip
    all_goals (
      go_wp2_with fail
      go_meet
      exact ⟨rfl,rfl⟩)
  case rest =>
  obtain ⟨rfl,hwc⟩:=hcut
  replace kw:Kp w wc:=(by rw [hwc];exact kw)
  replace sw:=(show H6 wc w.heap.size (.float .f64 a) (.float .f64 b) (.float .f64 c) (.float .f64 d) (.float .f64 0) (.float .f64 0) by rw [hwc];exact sw)
  clear hwc
  generalize wc = w1 at kw sw ⊢
  obtain ⟨⟨p0,p1,p2,p3⟩,⟨p4,p5,p6,p7⟩,⟨p8,p9,pa,pb⟩⟩:=id sw
  go_upto_region 8 with fail
  go_cut [43] (fun s43 wx=>s43 = .bool false∧wx = w1)
  case first =>
    cases C0 <;> cases Ag <;> first | (exfalso;revert q4;decide) | (exfalso;cases q5;done) | skip
    all_goals (
      go_wp2_with fail
      go_meet
      exact ⟨rfl,rfl⟩)
  case rest =>
  obtain ⟨rfl,hwc⟩:=hcut
  replace kw:Kp w wc:=(by rw [hwc];exact kw)
  replace sw:=(show H6 wc w.heap.size (.float .f64 a) (.float .f64 b) (.float .f64 c) (.float .f64 d) (.float .f64 0) (.float .f64 0) by rw [hwc];exact sw)
  clear hwc
  generalize wc = w1 at kw sw ⊢
  obtain ⟨⟨p0,p1,p2,p3⟩,⟨p4,p5,p6,p7⟩,⟨p8,p9,pa,pb⟩⟩:=id sw
  go_upto_region 10 with fail
  go_cut [58] (fun s58 wx=>s58 = .bool true∧wx = w1)
  case first =>
    cases C0 <;> first | (exfalso;revert q5;decide) | (exfalso;cases q5;done) | skip
    all_goals (
      go_wp2_with fail
      go_meet
      exact ⟨rfl,rfl⟩)
  case rest =>
  obtain ⟨rfl,hwc⟩:=hcut
  replace kw:Kp w wc:=(by rw [hwc];exact kw)
  replace sw:=(show H6 wc w.heap.size (.float .f64 a) (.float .f64 b) (.float .f64 c) (.float .f64 d) (.float .f64 0) (.float .f64 0) by rw [hwc];exact sw)
  clear hwc
  generalize wc = w1 at kw sw ⊢
  obtain ⟨⟨p0,p1,p2,p3⟩,⟨p4,p5,p6,p7⟩,⟨p8,p9,pa,pb⟩⟩:=id sw
  go_wp2_with (first | (go_at_call 36;refine (hd _ kw).mono ?_;rintro e wx ⟨rfl,gx⟩;replace kw:=Kp.trans kw gx;replace sw:=H6.keep sw gx;clear gx;obtain ⟨⟨p0,p1,p2,p3⟩,⟨p4,p5,p6,p7⟩,⟨p8,p9,pa,pb⟩⟩:=id sw) | (go_at_call 37;refine (upTo_ _ _).mono ?_;rintro e wx ⟨rfl,gx⟩;replace kw:=Kp.trans kw gx;replace sw:=H6.keep sw gx;clear gx;obtain ⟨⟨p0,p1,p2,p3⟩,⟨p4,p5,p6,p7⟩,⟨p8,p9,pa,pb⟩⟩:=id sw))
  exact bodyPost_ret (v:=.agg #[.float .f64 18442240474082181120,.float .f64 Z]) (by simp [results,Tryz.results19,go_sem,p8,p9]) rfl ⟨rfl,(kw.setCell (by simp <;> omega) _).setCell (by simp <;> omega) _⟩
theorem byN7_ (a b c d Z:Nat) (C0 D0 A0 B0 Cl Dg Al Bg Ag:Bool) (tC0:(FloatKind.f64.format.order c 0 == some Ordering.eq) = C0) (tD0:(FloatKind.f64.format.order d 0 == some Ordering.eq) = D0) (tA0:(FloatKind.f64.format.order a 0 == some Ordering.eq) = A0) (tB0:(FloatKind.f64.format.order b 0 == some Ordering.eq) = B0) (tCl:(FloatKind.f64.format.order c 0 == some Ordering.lt) = Cl) (tDg:(FloatKind.f64.format.order d 0 == some Ordering.gt) = Dg) (tAl:(FloatKind.f64.format.order a 0 == some Ordering.lt) = Al) (tBg:(FloatKind.f64.format.order b 0 == some Ordering.gt) = Bg) (tAg:(FloatKind.f64.format.order a 0 == some Ordering.gt || FloatKind.f64.format.order a 0 == some Ordering.eq) = Ag) (q0:(C0 && D0) = false) (q1:(A0 && B0) = false) (q2:(Cl && Dg) = false) (q3:(Al && Bg) = false) (q4:(C0 && Ag) = false) (q5:(C0) = false) (q6:(Ag) = true) (w:World) (hd:∀ W:World,Kp w W→Calls Tryz.prog 36 #[.int .i64 1,.float .f64 a,.float .f64 c] W fun e w'=>e = .returned (.float .f64 Z)∧Kp W w'):Calls Tryz.prog 19 #[.agg #[.float .f64 a,.float .f64 b],.agg #[.float .f64 c,.float .f64 d]] w fun e w'=>e = .returned (.agg #[.float .f64 18442240474082181120,.float .f64 Z])∧Kp w w':=by
  rw [tA0] at tAg
  go_enter Tryz.func19,Tryz.ntmps19
  go_upto_region 1 with fail
  have kw:Kp w (((w.alloc (.cells #[.float .f64 a,.float .f64 b] 28)).alloc (.cells #[.float .f64 c,.float .f64 d] 28)).alloc (.cells #[.float .f64 0,.float .f64 0] 28)):=(((Kp.refl w).alloc _).alloc _).alloc _
  have sw:H6 (((w.alloc (.cells #[.float .f64 a,.float .f64 b] 28)).alloc (.cells #[.float .f64 c,.float .f64 d] 28)).alloc (.cells #[.float .f64 0,.float .f64 0] 28)) w.heap.size (.float .f64 a) (.float .f64 b) (.float .f64 c) (.float .f64 d) (.float .f64 0) (.float .f64 0):=H6.new w (.float .f64 a) (.float .f64 b) (.float .f64 c) (.float .f64 d) (.float .f64 0) (.float .f64 0) 28 28 28
  generalize (((w.alloc (.cells #[.float .f64 a,.float .f64 b] 28)).alloc (.cells #[.float .f64 c,.float .f64 d] 28)).alloc (.cells #[.float .f64 0,.float .f64 0] 28)) = w1 at kw sw ⊢
  obtain ⟨⟨p0,p1,p2,p3⟩,⟨p4,p5,p6,p7⟩,⟨p8,p9,pa,pb⟩⟩:=id sw
  go_upto_region 1 with fail
  go_cut [5] (fun s5 wx=>s5 = .bool false∧wx = w1)
  case first =>
    cases C0 <;> cases D0 <;> first | (exfalso;revert q0;decide) | (exfalso;cases q5;done) | (exfalso;cases q6;done) | skip
    all_goals (
      go_wp2_with fail
      go_meet
      exact ⟨rfl,rfl⟩)
  case rest =>
  obtain ⟨rfl,hwc⟩:=hcut
  replace kw:Kp w wc:=(by rw [hwc];exact kw)
  replace sw:=(show H6 wc w.heap.size (.float .f64 a) (.float .f64 b) (.float .f64 c) (.float .f64 d) (.float .f64 0) (.float .f64 0) by rw [hwc];exact sw)
  clear hwc
  generalize wc = w1 at kw sw ⊢
  obtain ⟨⟨p0,p1,p2,p3⟩,⟨p4,p5,p6,p7⟩,⟨p8,p9,pa,pb⟩⟩:=id sw
  go_upto_region 3 with fail
  go_cut [15] (fun s15 wx=>s15 = .bool false∧wx = w1)
  case first =>
    cases A0 <;> cases B0 <;> first | (exfalso;revert q1;decide) | (exfalso;cases q5;done) | (exfalso;cases q6;done) | skip
    all_goals (
      go_wp2_with fail
      go_meet
      exact ⟨rfl,rfl⟩)
  case rest =>
  obtain ⟨rfl,hwc⟩:=hcut
  replace kw:Kp w wc:=(by rw [hwc];exact kw)
  replace sw:=(show H6 wc w.heap.size (.float .f64 a) (.float .f64 b) (.float .f64 c) (.float .f64 d) (.float .f64 0) (.float .f64 0) by rw [hwc];exact sw)
  clear hwc
  generalize wc = w1 at kw sw ⊢
  obtain ⟨⟨p0,p1,p2,p3⟩,⟨p4,p5,p6,p7⟩,⟨p8,p9,pa,pb⟩⟩:=id sw
  go_upto_region 5 with fail
  go_cut [25] (fun s25 wx=>s25 = .bool false∧wx = w1)
  case first =>
    cases Cl <;> cases Dg <;> first | (exfalso;revert q2;decide) | (exfalso;cases q5;done) | (exfalso;cases q6;done) | skip
    all_goals (
      go_wp2_with fail
      go_meet
      exact ⟨rfl,rfl⟩)
  case rest =>
  obtain ⟨rfl,hwc⟩:=hcut
  replace kw:Kp w wc:=(by rw [hwc];exact kw)
  replace sw:=(show H6 wc w.heap.size (.float .f64 a) (.float .f64 b) (.float .f64 c) (.float .f64 d) (.float .f64 0) (.float .f64 0) by rw [hwc];exact sw)
  clear hwc
  generalize wc = w1 at kw sw ⊢
  obtain ⟨⟨p0,p1,p2,p3⟩,⟨p4,p5,p6,p7⟩,⟨p8,p9,pa,pb⟩⟩:=id sw
  go_upto_region 6 with fail
  go_cut [25] (fun s25 wx=>s25 = .bool false∧wx = w1)
  case first =>
    cases Al <;> cases Bg <;> first | (exfalso;revert q3;decide) | (exfalso;cases q5;done) | (exfalso;cases q6;done) | skip
    all_goals (
      go_wp2_with fail
      go_meet
      exact ⟨rfl,rfl⟩)
  case rest =>
  obtain ⟨rfl,hwc⟩:=hcut
  replace kw:Kp w wc:=(by rw [hwc];exact kw)
  replace sw:=(show H6 wc w.heap.size (.float .f64 a) (.float .f64 b) (.float .f64 c) (.float .f64 d) (.float .f64 0) (.float .f64 0) by rw [hwc];exact sw)
  clear hwc
  generalize wc = w1 at kw sw ⊢
  obtain ⟨⟨p0,p1,p2,p3⟩,⟨p4,p5,p6,p7⟩,⟨p8,p9,pa,pb⟩⟩:=id sw
  go_upto_region 8 with fail
  go_cut [43] (fun s43 wx=>s43 = .bool false∧wx = w1)
  case first =>
    cases C0 <;> cases Ag <;> first | (exfalso;revert q4;decide) | (exfalso;cases q5;done) | (exfalso;cases q6;done) | skip
    all_goals (
      go_wp2_with fail
      go_meet
      exact ⟨rfl,rfl⟩)
  case rest =>
  obtain ⟨rfl,hwc⟩:=hcut
  replace kw:Kp w wc:=(by rw [hwc];exact kw)
  replace sw:=(show H6 wc w.heap.size (.float .f64 a) (.float .f64 b) (.float .f64 c) (.float .f64 d) (.float .f64 0) (.float .f64 0) by rw [hwc];exact sw)
  clear hwc
  generalize wc = w1 at kw sw ⊢
  obtain ⟨⟨p0,p1,p2,p3⟩,⟨p4,p5,p6,p7⟩,⟨p8,p9,pa,pb⟩⟩:=id sw
  go_upto_region 10 with fail
  go_cut [58] (fun s58 wx=>s58 = .bool false∧wx = w1)
  case first =>
    cases C0 <;> first | (exfalso;revert q5;decide) | (exfalso;cases q5;done) | (exfalso;cases q6;done) | skip
    all_goals (
      go_wp2_with fail
      go_meet
      exact ⟨rfl,rfl⟩)
  case rest =>
  obtain ⟨rfl,hwc⟩:=hcut
  replace kw:Kp w wc:=(by rw [hwc];exact kw)
  replace sw:=(show H6 wc w.heap.size (.float .f64 a) (.float .f64 b) (.float .f64 c) (.float .f64 d) (.float .f64 0) (.float .f64 0) by rw [hwc];exact sw)
  clear hwc
  generalize wc = w1 at kw sw ⊢
  obtain ⟨⟨p0,p1,p2,p3⟩,⟨p4,p5,p6,p7⟩,⟨p8,p9,pa,pb⟩⟩:=id sw
  go_upto_region 12 with fail
  go_cut [68] (fun s68 wx=>s68 = .bool true∧wx = w1)
  case first =>
    cases Ag <;> first | (exfalso;revert q6;decide) | (exfalso;cases q5;done) | (exfalso;cases q6;done) | skip
    all_goals (
      go_wp2_with fail
      go_meet
      exact ⟨rfl,rfl⟩)
  case rest =>
  obtain ⟨rfl,hwc⟩:=hcut
  replace kw:Kp w wc:=(by rw [hwc];exact kw)
  replace sw:=(show H6 wc w.heap.size (.float .f64 a) (.float .f64 b) (.float .f64 c) (.float .f64 d) (.float .f64 0) (.float .f64 0) by rw [hwc];exact sw)
  clear hwc
  generalize wc = w1 at kw sw ⊢
  obtain ⟨⟨p0,p1,p2,p3⟩,⟨p4,p5,p6,p7⟩,⟨p8,p9,pa,pb⟩⟩:=id sw
  go_wp2_with (first | (go_at_call 36;refine (hd _ kw).mono ?_;rintro e wx ⟨rfl,gx⟩;replace kw:=Kp.trans kw gx;replace sw:=H6.keep sw gx;clear gx;obtain ⟨⟨p0,p1,p2,p3⟩,⟨p4,p5,p6,p7⟩,⟨p8,p9,pa,pb⟩⟩:=id sw) | (go_at_call 37;refine (upTo_ _ _).mono ?_;rintro e wx ⟨rfl,gx⟩;replace kw:=Kp.trans kw gx;replace sw:=H6.keep sw gx;clear gx;obtain ⟨⟨p0,p1,p2,p3⟩,⟨p4,p5,p6,p7⟩,⟨p8,p9,pa,pb⟩⟩:=id sw))
  exact bodyPost_ret (v:=.agg #[.float .f64 18442240474082181120,.float .f64 Z]) (by simp [results,Tryz.results19,go_sem,p8,p9]) rfl ⟨rfl,(kw.setCell (by simp <;> omega) _).setCell (by simp <;> omega) _⟩
theorem byN8_ (a b c d Z:Nat) (C0 D0 A0 B0 Cl Dg Al Bg Ag:Bool) (tC0:(FloatKind.f64.format.order c 0 == some Ordering.eq) = C0) (tD0:(FloatKind.f64.format.order d 0 == some Ordering.eq) = D0) (tA0:(FloatKind.f64.format.order a 0 == some Ordering.eq) = A0) (tB0:(FloatKind.f64.format.order b 0 == some Ordering.eq) = B0) (tCl:(FloatKind.f64.format.order c 0 == some Ordering.lt) = Cl) (tDg:(FloatKind.f64.format.order d 0 == some Ordering.gt) = Dg) (tAl:(FloatKind.f64.format.order a 0 == some Ordering.lt) = Al) (tBg:(FloatKind.f64.format.order b 0 == some Ordering.gt) = Bg) (tAg:(FloatKind.f64.format.order a 0 == some Ordering.gt || FloatKind.f64.format.order a 0 == some Ordering.eq) = Ag) (q0:(C0 && D0) = false) (q1:(A0 && B0) = false) (q2:(Cl && Dg) = false) (q3:(Al && Bg) = false) (q4:(C0 && Ag) = false) (q5:(C0) = false) (q6:(Ag) = false) (w:World) (hd:∀ W:World,Kp w W→Calls Tryz.prog 36 #[.int .i64 (-1),.float .f64 b,.float .f64 c] W fun e w'=>e = .returned (.float .f64 Z)∧Kp W w'):Calls Tryz.prog 19 #[.agg #[.float .f64 a,.float .f64 b],.agg #[.float .f64 c,.float .f64 d]] w fun e w'=>e = .returned (.agg #[.float .f64 Z,.float .f64 9218868437227405312])∧Kp w w':=by
  rw [tA0] at tAg
  go_enter Tryz.func19,Tryz.ntmps19
  go_upto_region 1 with fail
  have kw:Kp w (((w.alloc (.cells #[.float .f64 a,.float .f64 b] 28)).alloc (.cells #[.float .f64 c,.float .f64 d] 28)).alloc (.cells #[.float .f64 0,.float .f64 0] 28)):=(((Kp.refl w).alloc _).alloc _).alloc _
  have sw:H6 (((w.alloc (.cells #[.float .f64 a,.float .f64 b] 28)).alloc (.cells #[.float .f64 c,.float .f64 d] 28)).alloc (.cells #[.float .f64 0,.float .f64 0] 28)) w.heap.size (.float .f64 a) (.float .f64 b) (.float .f64 c) (.float .f64 d) (.float .f64 0) (.float .f64 0):=H6.new w (.float .f64 a) (.float .f64 b) (.float .f64 c) (.float .f64 d) (.float .f64 0) (.float .f64 0) 28 28 28
  generalize (((w.alloc (.cells #[.float .f64 a,.float .f64 b] 28)).alloc (.cells #[.float .f64 c,.float .f64 d] 28)).alloc (.cells #[.float .f64 0,.float .f64 0] 28)) = w1 at kw sw ⊢
  obtain ⟨⟨p0,p1,p2,p3⟩,⟨p4,p5,p6,p7⟩,⟨p8,p9,pa,pb⟩⟩:=id sw
  go_upto_region 1 with fail
  go_cut [5] (fun s5 wx=>s5 = .bool false∧wx = w1)
  case first =>
    cases C0 <;> cases D0 <;> first | (exfalso;revert q0;decide) | (exfalso;cases q5;done) | (exfalso;cases q6;done) | skip
    all_goals (
      go_wp2_with fail
      go_meet
      exact ⟨rfl,rfl⟩)
  case rest =>
  obtain ⟨rfl,hwc⟩:=hcut
  replace kw:Kp w wc:=(by rw [hwc];exact kw)
  replace sw:=(show H6 wc w.heap.size (.float .f64 a) (.float .f64 b) (.float .f64 c) (.float .f64 d) (.float .f64 0) (.float .f64 0) by rw [hwc];exact sw)
  clear hwc
  generalize wc = w1 at kw sw ⊢
  obtain ⟨⟨p0,p1,p2,p3⟩,⟨p4,p5,p6,p7⟩,⟨p8,p9,pa,pb⟩⟩:=id sw
  go_upto_region 3 with fail
  go_cut [15] (fun s15 wx=>s15 = .bool false∧wx = w1)
  case first =>
    cases A0 <;> cases B0 <;> first | (exfalso;revert q1;decide) | (exfalso;cases q5;done) | (exfalso;cases q6;done) | skip
    all_goals (
      go_wp2_with fail
      go_meet
      exact ⟨rfl,rfl⟩)
  case rest =>
  obtain ⟨rfl,hwc⟩:=hcut
  replace kw:Kp w wc:=(by rw [hwc];exact kw)
  replace sw:=(show H6 wc w.heap.size (.float .f64 a) (.float .f64 b) (.float .f64 c) (.float .f64 d) (.float .f64 0) (.float .f64 0) by rw [hwc];exact sw)
  clear hwc
  generalize wc = w1 at kw sw ⊢
  obtain ⟨⟨p0,p1,p2,p3⟩,⟨p4,p5,p6,p7⟩,⟨p8,p9,pa,pb⟩⟩:=id sw
  go_upto_region 5 with fail
  go_cut [25] (fun s25 wx=>s25 = .bool false∧wx = w1)
  case first =>
    cases Cl <;> cases Dg <;> first | (exfalso;revert q2;decide) | (exfalso;cases q5;done) | (exfalso;cases q6;done) | skip
    all_goals (
      go_wp2_with fail
      go_meet
      exact ⟨rfl,rfl⟩)
  case rest =>
  obtain ⟨rfl,hwc⟩:=hcut
  replace kw:Kp w wc:=(by rw [hwc];exact kw)
  replace sw:=(show H6 wc w.heap.size (.float .f64 a) (.float .f64 b) (.float .f64 c) (.float .f64 d) (.float .f64 0) (.float .f64 0) by rw [hwc];exact sw)
  clear hwc
  generalize wc = w1 at kw sw ⊢
  obtain ⟨⟨p0,p1,p2,p3⟩,⟨p4,p5,p6,p7⟩,⟨p8,p9,pa,pb⟩⟩:=id sw
  go_upto_region 6 with fail
  go_cut [25] (fun s25 wx=>s25 = .bool false∧wx = w1)
  case first =>
    cases Al <;> cases Bg <;> first | (exfalso;revert q3;decide) | (exfalso;cases q5;done) | (exfalso;cases q6;done) | skip
    all_goals (
      go_wp2_with fail
      go_meet
      exact ⟨rfl,rfl⟩)
  case rest =>
  obtain ⟨rfl,hwc⟩:=hcut
  replace kw:Kp w wc:=(by rw [hwc];exact kw)
  replace sw:=(show H6 wc w.heap.size (.float .f64 a) (.float .f64 b) (.float .f64 c) (.float .f64 d) (.float .f64 0) (.float .f64 0) by rw [hwc];exact sw)
  clear hwc
  generalize wc = w1 at kw sw ⊢
  obtain ⟨⟨p0,p1,p2,p3⟩,⟨p4,p5,p6,p7⟩,⟨p8,p9,pa,pb⟩⟩:=id sw
  go_upto_region 8 with fail
  go_cut [43] (fun s43 wx=>s43 = .bool false∧wx = w1)
  case first =>
    cases C0 <;> cases Ag <;> first | (exfalso;revert q4;decide) | (exfalso;cases q5;done) | (exfalso;cases q6;done) | skip
    all_goals (
      go_wp2_with fail
      go_meet
      exact ⟨rfl,rfl⟩)
  case rest =>
  obtain ⟨rfl,hwc⟩:=hcut
  replace kw:Kp w wc:=(by rw [hwc];exact kw)
  replace sw:=(show H6 wc w.heap.size (.float .f64 a) (.float .f64 b) (.float .f64 c) (.float .f64 d) (.float .f64 0) (.float .f64 0) by rw [hwc];exact sw)
  clear hwc
  generalize wc = w1 at kw sw ⊢
  obtain ⟨⟨p0,p1,p2,p3⟩,⟨p4,p5,p6,p7⟩,⟨p8,p9,pa,pb⟩⟩:=id sw
  go_upto_region 10 with fail
  go_cut [58] (fun s58 wx=>s58 = .bool false∧wx = w1)
  case first =>
    cases C0 <;> first | (exfalso;revert q5;decide) | (exfalso;cases q5;done) | (exfalso;cases q6;done) | skip
    all_goals (
      go_wp2_with fail
      go_meet
      exact ⟨rfl,rfl⟩)
  case rest =>
  obtain ⟨rfl,hwc⟩:=hcut
  replace kw:Kp w wc:=(by rw [hwc];exact kw)
  replace sw:=(show H6 wc w.heap.size (.float .f64 a) (.float .f64 b) (.float .f64 c) (.float .f64 d) (.float .f64 0) (.float .f64 0) by rw [hwc];exact sw)
  clear hwc
  generalize wc = w1 at kw sw ⊢
  obtain ⟨⟨p0,p1,p2,p3⟩,⟨p4,p5,p6,p7⟩,⟨p8,p9,pa,pb⟩⟩:=id sw
  go_upto_region 12 with fail
  go_cut [68] (fun s68 wx=>s68 = .bool false∧wx = w1)
  case first =>
    cases Ag <;> first | (exfalso;revert q6;decide) | (exfalso;cases q5;done) | (exfalso;cases q6;done) | skip
    all_goals (
      go_wp2_with fail
      go_meet
      exact ⟨rfl,rfl⟩)
  case rest =>
  obtain ⟨rfl,hwc⟩:=hcut
  replace kw:Kp w wc:=(by rw [hwc];exact kw)
  replace sw:=(show H6 wc w.heap.size (.float .f64 a) (.float .f64 b) (.float .f64 c) (.float .f64 d) (.float .f64 0) (.float .f64 0) by rw [hwc];exact sw)
  clear hwc
  generalize wc = w1 at kw sw ⊢
  obtain ⟨⟨p0,p1,p2,p3⟩,⟨p4,p5,p6,p7⟩,⟨p8,p9,pa,pb⟩⟩:=id sw
  go_wp2_with (first | (go_at_call 36;refine (hd _ kw).mono ?_;rintro e wx ⟨rfl,gx⟩;replace kw:=Kp.trans kw gx;replace sw:=H6.keep sw gx;clear gx;obtain ⟨⟨p0,p1,p2,p3⟩,⟨p4,p5,p6,p7⟩,⟨p8,p9,pa,pb⟩⟩:=id sw) | (go_at_call 35;refine (from_ _ _).mono ?_;rintro e wx ⟨rfl,gx⟩;replace kw:=Kp.trans kw gx;replace sw:=H6.keep sw gx;clear gx;obtain ⟨⟨p0,p1,p2,p3⟩,⟨p4,p5,p6,p7⟩,⟨p8,p9,pa,pb⟩⟩:=id sw))
  exact bodyPost_ret (v:=.agg #[.float .f64 Z,.float .f64 9218868437227405312]) (by simp [results,Tryz.results19,go_sem,p8,p9]) rfl ⟨rfl,(kw.setCell (by simp <;> omega) _).setCell (by simp <;> omega) _⟩
end Go.Proofs.YtinohggonicjhaaGreatDoor
