import Derived.Test.YtcfnialfpblfmaaGreatDoorKPQb
set_option maxHeartbeats 4000000
set_option maxRecDepth 20000
namespace Go.Proofs.YtcfnialfpblfmaaGreatDoor
open Go.RowKit
set_option linter.unusedVariables false
set_option linter.unusedSimpArgs false
theorem phB_ (X1 X2 Y1 Y2 Z1 Z2 V1 V2 P Q n M:Int) (w:World) (hT:TU7 w)
  (hRx:∀ W:World,Calls Tryz.prog 22 #[.agg #[.int .u64 X1,.int .u64 X2]] W fun e w'=>e=.returned (.agg #[.int .u64 Z1,.int .u64 Z2])∧Kp W w')
  (hRy:∀ W:World,Calls Tryz.prog 22 #[.agg #[.int .u64 Y1,.int .u64 Y2]] W fun e w'=>e=.returned (.agg #[.int .u64 V1,.int .u64 V2])∧Kp W w')
  (hL:∀ W:World,Calls Tryz.prog 23 #[.int .i64 n] W fun e w'=>e=.returned (.int .i64 M)∧Kp W w')
  (a b c9 d9 mL mH xL xH:Nat)
  (hXi:∀ W:World,Calls Tryz.prog 20 #[.agg #[.int .u64 Z1,.int .u64 Z2]] W fun e w'=>e=.returned (.agg #[.float .f64 a,.float .f64 b])∧Kp W w')
  (hYi:∀ W:World,Calls Tryz.prog 20 #[.agg #[.int .u64 V1,.int .u64 V2]] W fun e w'=>e=.returned (.agg #[.float .f64 c9,.float .f64 d9])∧Kp W w')
  (hMi:∀ W:World,Calls Tryz.prog 16 #[.agg #[.float .f64 a,.float .f64 b],.agg #[.float .f64 c9,.float .f64 d9]] W fun e w'=>e=.returned (.agg #[.float .f64 mL,.float .f64 mH])∧Kp W w')
  (hMa:∀ W:World,Calls Tryz.prog 25 #[.agg #[.float .f64 a,.float .f64 b],.agg #[.float .f64 c9,.float .f64 d9]] W fun e w'=>e=.returned (.agg #[.float .f64 xL,.float .f64 xH])∧Kp W w')
  (hlv:∀ W:World,TU7 W→Calls Tryz.prog 10 #[] W fun e w'=>e=.returned (.bool true)∧Kp W w') (t1:(Z1 == 9218868437227405312)=false) (t2:(V1 == 9218868437227405312)=false) (RA RB:Int)
  (hIa:∀ W:World,Calls Tryz.prog 27 #[.agg #[.int .u64 Z1,.int .u64 Z2],.int .u64 P] W fun e w'=>e=.returned (.int .u64 RA)∧Kp W w')
  (hIb:∀ W:World,Calls Tryz.prog 27 #[.agg #[.int .u64 V1,.int .u64 V2],.int .u64 Q] W fun e w'=>e=.returned (.int .u64 RB)∧Kp W w')
  (PA PB:World→Bool→Option Addr→Nat→Nat→Option Addr→Nat→Nat→Prop) (kA:∀ (U W:World) s1 p1 l1 c1 q1 k1 d1,PA U s1 p1 l1 c1 q1 k1 d1→Kp U W→PA W s1 p1 l1 c1 q1 k1 d1) (kB:∀ (U W:World) s2 p2 l2 c2 q2 k2 d2,PB U s2 p2 l2 c2 q2 k2 d2→Kp U W→PB W s2 p2 l2 c2 q2 k2 d2)
  (hFa:∀ W:World,Calls Tryz.prog 26 #[.int .u64 RA] W fun e w'=>∃ s1 p1 l1 c1 q1 k1 d1,e=.returned (.agg #[.bool s1,.slice p1 l1 c1,.slice q1 k1 d1])∧PA w' s1 p1 l1 c1 q1 k1 d1∧Kp W w')
  (hFb:∀ W:World,Calls Tryz.prog 26 #[.int .u64 RB] W fun e w'=>∃ s2 p2 l2 c2 q2 k2 d2,e=.returned (.agg #[.bool s2,.slice p2 l2 c2,.slice q2 k2 d2])∧PB w' s2 p2 l2 c2 q2 k2 d2∧Kp W w')
  (PL PH:Nat) (hPo:∀ W:World,TU7 W→Calls Tryz.prog 11 #[.agg #[.float .f64 a,.float .f64 b],.int .i64 M] W fun e w'=>e=.returned (.agg #[.float .f64 PL,.float .f64 PH])∧Kp W w')
  (P8 P9 P0 PZ:World→Bool→Option Addr→Nat→Nat→Option Addr→Nat→Nat→Prop) (PN:World→World→Bool→Option Addr→Nat→Nat→Option Addr→Nat→Nat→Prop) (kS kc:Int) (hkS:kS=0∨kS=1∨kS = -1)
  (h8p:0≤M→∀ (W:World) s1 p1 l1 c1 q1 k1 d1,PA W s1 p1 l1 c1 q1 k1 d1→Calls Tryz.prog 29 #[.agg #[.bool s1,.slice p1 l1 c1,.slice q1 k1 d1],.int .i64 M] W fun e w'=>∃ s3 p3 l3 c3 q3 k3 d3,e=.returned (.agg #[.bool s3,.slice p3 l3 c3,.slice q3 k3 d3])∧P8 w' s3 p3 l3 c3 q3 k3 d3∧Kp W w')
  (h8h:0≤M→∀ (U W:World) s3 p3 l3 c3 q3 k3 d3,P8 U s3 p3 l3 c3 q3 k3 d3→Kp U W→Calls Tryz.prog 28 #[.agg #[.float .f64 PL,.float .f64 PH],.agg #[.bool s3,.slice p3 l3 c3,.slice q3 k3 d3]] W fun e w'=>e=.returned (.bool true)∧Kp W w')
  (hS:∀ (W:World) s1 p1 l1 c1 q1 k1 d1,PA W s1 p1 l1 c1 q1 k1 d1→Calls Tryz.prog 30 #[.agg #[.bool s1,.slice p1 l1 c1,.slice q1 k1 d1]] W fun e w'=>e=.returned (.int .i64 kS)∧Kp W w')
  (h10i:∀ W:World,Calls Tryz.prog 32 #[.int .i64 1] W fun e w'=>∃ s4 p4 l4 c4 q4 k4 d4,e=.returned (.agg #[.bool s4,.slice p4 l4 c4,.slice q4 k4 d4])∧P9 w' s4 p4 l4 c4 q4 k4 d4∧Kp W w')
  (M':Int) (hMw:IntKind.i64.wrap (-M)=M')
  (h10p:M<0→kS≠0→∀ (W:World) s1 p1 l1 c1 q1 k1 d1,PA W s1 p1 l1 c1 q1 k1 d1→Calls Tryz.prog 29 #[.agg #[.bool s1,.slice p1 l1 c1,.slice q1 k1 d1],.int .i64 M'] W fun e w'=>∃ s3 p3 l3 c3 q3 k3 d3,e=.returned (.agg #[.bool s3,.slice p3 l3 c3,.slice q3 k3 d3])∧P8 w' s3 p3 l3 c3 q3 k3 d3∧Kp W w')
  (h10q:M<0→kS≠0→∀ (U4 U3 W:World) s4 p4 l4 c4 q4 k4 d4 s3 p3 l3 c3 q3 k3 d3,P9 U4 s4 p4 l4 c4 q4 k4 d4→Kp U4 W→P8 U3 s3 p3 l3 c3 q3 k3 d3→Kp U3 W→Calls Tryz.prog 31 #[.agg #[.bool s4,.slice p4 l4 c4,.slice q4 k4 d4],.agg #[.bool s3,.slice p3 l3 c3,.slice q3 k3 d3]] W fun e w'=>∃ s5 p5 l5 c5 q5 k5 d5,e=.returned (.agg #[.bool s5,.slice p5 l5 c5,.slice q5 k5 d5])∧P0 w' s5 p5 l5 c5 q5 k5 d5∧Kp W w')
  (h10h:M<0→kS≠0→∀ (U W:World) s5 p5 l5 c5 q5 k5 d5,P0 U s5 p5 l5 c5 q5 k5 d5→Kp U W→Calls Tryz.prog 28 #[.agg #[.float .f64 PL,.float .f64 PH],.agg #[.bool s5,.slice p5 l5 c5,.slice q5 k5 d5]] W fun e w'=>e=.returned (.bool true)∧Kp W w')
  (hC:∀ (W:World) s1 p1 l1 c1 q1 k1 d1 s2 p2 l2 c2 q2 k2 d2,PA W s1 p1 l1 c1 q1 k1 d1→PB W s2 p2 l2 c2 q2 k2 d2→Calls Tryz.prog 33 #[.agg #[.bool s1,.slice p1 l1 c1,.slice q1 k1 d1],.agg #[.bool s2,.slice p2 l2 c2,.slice q2 k2 d2]] W fun e w'=>e=.returned (.int .i64 kc)∧Kp W w')
  (sL sH:Nat) (hAb:∀ W:World,Calls Tryz.prog 35 #[.agg #[.float .f64 a,.float .f64 b]] W fun e w'=>e=.returned (.agg #[.float .f64 sL,.float .f64 sH])∧Kp W w')
  (hMnT:0<kc→∀ (W:World) s2 p2 l2 c2 q2 k2 d2,PB W s2 p2 l2 c2 q2 k2 d2→Calls Tryz.prog 28 #[.agg #[.float .f64 mL,.float .f64 mH],.agg #[.bool s2,.slice p2 l2 c2,.slice q2 k2 d2]] W fun e w'=>e=.returned (.bool true)∧Kp W w')
  (hMnF:¬ 0<kc→∀ (W:World) s1 p1 l1 c1 q1 k1 d1,PA W s1 p1 l1 c1 q1 k1 d1→Calls Tryz.prog 28 #[.agg #[.float .f64 mL,.float .f64 mH],.agg #[.bool s1,.slice p1 l1 c1,.slice q1 k1 d1]] W fun e w'=>e=.returned (.bool true)∧Kp W w')
  (hMxT:0<kc→∀ (W:World) s1 p1 l1 c1 q1 k1 d1,PA W s1 p1 l1 c1 q1 k1 d1→Calls Tryz.prog 28 #[.agg #[.float .f64 xL,.float .f64 xH],.agg #[.bool s1,.slice p1 l1 c1,.slice q1 k1 d1]] W fun e w'=>e=.returned (.bool true)∧Kp W w')
  (hMxF:¬ 0<kc→∀ (W:World) s2 p2 l2 c2 q2 k2 d2,PB W s2 p2 l2 c2 q2 k2 d2→Calls Tryz.prog 28 #[.agg #[.float .f64 xL,.float .f64 xH],.agg #[.bool s2,.slice p2 l2 c2,.slice q2 k2 d2]] W fun e w'=>e=.returned (.bool true)∧Kp W w')
  (kZ:∀ (U W:World) s6 p6 l6 c6 q6 k6 d6,PZ U s6 p6 l6 c6 q6 k6 d6→Kp U W→PZ W s6 p6 l6 c6 q6 k6 d6)
  (hNg:kS<0→∀ (W:World) s1 p1 l1 c1 q1 k1 d1,PA W s1 p1 l1 c1 q1 k1 d1→Calls Tryz.prog 34 #[.agg #[.bool s1,.slice p1 l1 c1,.slice q1 k1 d1]] W fun e w'=>∃ s6 p6 l6 c6 q6 k6 d6,e=.returned (.agg #[.bool s6,.slice p6 l6 c6,.slice q6 k6 d6])∧PN W w' s6 p6 l6 c6 q6 k6 d6∧Kp W w')
  (hNs:∀ (W W':World) s6 p6 l6 c6 q6 k6 d6 (b0:Nat),PN W W' s6 p6 l6 c6 q6 k6 d6→b0<W.heap.size→PZ (((W'.setCell ⟨b0,0,none⟩ (.bool s6)).setCell ⟨b0,1,none⟩ (.slice p6 l6 c6)).setCell ⟨b0,2,none⟩ (.slice q6 k6 d6)) s6 p6 l6 c6 q6 k6 d6)
  (hNp:¬ kS<0→∀ (W:World) s1 p1 l1 c1 q1 k1 d1,PA W s1 p1 l1 c1 q1 k1 d1→PZ W s1 p1 l1 c1 q1 k1 d1)
  (hAh:∀ (W:World) s6 p6 l6 c6 q6 k6 d6,PZ W s6 p6 l6 c6 q6 k6 d6→Calls Tryz.prog 28 #[.agg #[.float .f64 sL,.float .f64 sH],.agg #[.bool s6,.slice p6 l6 c6,.slice q6 k6 d6]] W fun e w'=>e=.returned (.bool true)∧Kp W w')
  (GL GH:Nat→Nat) (PS:Nat→World→Bool→Option Addr→Nat→Nat→Option Addr→Nat→Nat→Prop)
  (hSt:∀ k0:Nat,k0<6→∀ W:World,Calls Tryz.prog 36 #[.int .i64 (k0:Int),.agg #[.float .f64 a,.float .f64 b]] W fun e w'=>e=.returned (.agg #[.float .f64 (GL k0),.float .f64 (GH k0)])∧Kp W w')
  (hSp:∀ k0:Nat,k0<6→∀ (W:World) s1 p1 l1 c1 q1 k1 d1,PA W s1 p1 l1 c1 q1 k1 d1→Calls Tryz.prog 37 #[.int .i64 (k0:Int),.agg #[.bool s1,.slice p1 l1 c1,.slice q1 k1 d1]] W fun e w'=>∃ s7 p7 l7 c7 q7 k7 d7,e=.returned (.agg #[.bool s7,.slice p7 l7 c7,.slice q7 k7 d7])∧PS k0 w' s7 p7 l7 c7 q7 k7 d7∧Kp W w')
  (hSh:∀ k0:Nat,k0<6→∀ (U W:World) s7 p7 l7 c7 q7 k7 d7,PS k0 U s7 p7 l7 c7 q7 k7 d7→Kp U W→Calls Tryz.prog 28 #[.agg #[.float .f64 (GL k0),.float .f64 (GH k0)],.agg #[.bool s7,.slice p7 l7 c7,.slice q7 k7 d7]] W fun e w'=>e=.returned (.bool true)∧Kp W w'):Calls Tryz.prog 5 #[.agg #[.int .u64 X1,.int .u64 X2],.agg #[.int .u64 Y1,.int .u64 Y2],.int .u64 P,.int .u64 Q,.int .i64 n] w fun e w'=>e=.returned (.bool true)∧Kp w w':=by
 have qX:=Fq.H2.keep (Fq.H2.new w (.int .u64 X1) (.int .u64 X2) 33) ((Kp.refl _).alloc (.cells #[.int .u64 Y1,.int .u64 Y2] 33))
 have qY:=Fq.H2.new (w.alloc (.cells #[.int .u64 X1,.int .u64 X2] 33)) (.int .u64 Y1) (.int .u64 Y2) 33
 rw [show (w.alloc (.cells #[.int .u64 X1,.int .u64 X2] 33)).heap.size=w.heap.size+1 by simp] at qY
 have kX:Kp w ((w.alloc (.cells #[.int .u64 X1,.int .u64 X2] 33)).alloc (.cells #[.int .u64 Y1,.int .u64 Y2] 33)):=((Kp.refl w).alloc _).alloc _
 go_enter Tryz.func5,Tryz.ntmps5
 go_upto_region 2 with (first | (go_at_call 22;refine (hRx _).mono ?_;rintro e w1 ⟨rfl,g1⟩;obtain ⟨x0,x1,xz0,xz1⟩:=Fq.H2.keep qX g1))
 have s1:Fq.H2 ((w1.setCell ⟨w.heap.size,0,none⟩ (.int .u64 Z1)).setCell ⟨w.heap.size,1,none⟩ (.int .u64 Z2)) w.heap.size (.int .u64 Z1) (.int .u64 Z2):=Fq.H2.put (Fq.H2.keep qX g1) _ _
 have s2:Fq.H2 ((w1.setCell ⟨w.heap.size,0,none⟩ (.int .u64 Z1)).setCell ⟨w.heap.size,1,none⟩ (.int .u64 Z2)) (w.heap.size+1) (.int .u64 Y1) (.int .u64 Y2):=Fq.H2.far (Fq.H2.keep qY g1) (by omega) _ _
 have k2:Kp w ((w1.setCell ⟨w.heap.size,0,none⟩ (.int .u64 Z1)).setCell ⟨w.heap.size,1,none⟩ (.int .u64 Z2)):=KS2 (Kp.trans kX g1) (Nat.le_refl _)
 generalize hW:((w1.setCell ⟨w.heap.size,0,none⟩ (.int .u64 Z1)).setCell ⟨w.heap.size,1,none⟩ (.int .u64 Z2))=W1 at s1 s2 k2 ⊢
 clear hW x0 x1 xz0 xz1 g1 qX qY kX
 obtain ⟨y0,y1,yz0,yz1⟩:=id s2
 go_upto_region 3 with (first | (go_at_call 22;refine (hRy _).mono ?_;rintro e w2 ⟨rfl,g2⟩;clear y0 y1 yz0 yz1;obtain ⟨y0,y1,yz0,yz1⟩:=Fq.H2.keep s2 g2))
 have s3:Fq.H2 ((w2.setCell ⟨w.heap.size+1,0,none⟩ (.int .u64 V1)).setCell ⟨w.heap.size+1,1,none⟩ (.int .u64 V2)) w.heap.size (.int .u64 Z1) (.int .u64 Z2):=Fq.H2.far (Fq.H2.keep s1 g2) (by omega) _ _
 have s4:Fq.H2 ((w2.setCell ⟨w.heap.size+1,0,none⟩ (.int .u64 V1)).setCell ⟨w.heap.size+1,1,none⟩ (.int .u64 V2)) (w.heap.size+1) (.int .u64 V1) (.int .u64 V2):=Fq.H2.put (Fq.H2.keep s2 g2) _ _
 have kW:Kp w ((w2.setCell ⟨w.heap.size+1,0,none⟩ (.int .u64 V1)).setCell ⟨w.heap.size+1,1,none⟩ (.int .u64 V2)):=KS2 (Kp.trans k2 g2) (Nat.le_succ _)
 generalize hW:((w2.setCell ⟨w.heap.size+1,0,none⟩ (.int .u64 V1)).setCell ⟨w.heap.size+1,1,none⟩ (.int .u64 V2))=W at s3 s4 kW ⊢
 clear hW y0 y1 yz0 yz1 g2 s1 s2 k2
 go_upto_region 4 with (first | (go_at_call 23;refine (hL _).mono ?_;rintro e w3 ⟨rfl,g3⟩))
 replace s3:=Fq.H2.keep s3 g3
 replace s4:=Fq.H2.keep s4 g3
 replace kW:=Kp.trans kW g3
 clear g3 W
 generalize w3=W at s3 s4 kW ⊢
 generalize hBx:w.heap.size=Bx at *
 generalize hBy:Bx+1=By at *
 go_cut [30] (fun s30 wx=>s30=.bool false∧Kp W wx)
 case first =>
  have hTW:=hT.kp kW
  refine Fq.wp_region_grow (by kernel_rfl) (by kernel_rfl) (fun ι _ G hG hall=>?_)
  have tG:∀ n,TU7 (G n):=fun n=>hTW.kp (hG n)
  have cc0:∀ n,(G n).cell? ⟨Bx,0,none⟩=some (.int .u64 Z1):=fun n=>Fq.gkeep (hG n) s3.1
  have cc1:∀ n,(G n).cell? ⟨Bx,1,none⟩=some (.int .u64 Z2):=fun n=>Fq.gkeep (hG n) s3.2.1
  have cc2:∀ n,(G n).cell? ⟨By,0,none⟩=some (.int .u64 V1):=fun n=>Fq.gkeep (hG n) s4.1
  have cc3:∀ n,(G n).cell? ⟨By,1,none⟩=some (.int .u64 V2):=fun n=>Fq.gkeep (hG n) s4.2.1
  repeat (go_big_quiet_step (first | (go_at_call 24;exact (rempty9_ _).mono (fun e w' h=>⟨h.1,hall _ (Fq.gtrans (hG _) h.2)⟩))))
  refine wpQuiet_nil ?_
  rintro _ ⟨nq,rfl⟩
  have gq:Kp W (G nq):=hG nq
  clear cc0 cc1 cc2 cc3 hall hG tG
  go_wp2_with fail
  go_meet
  exact ⟨rfl,gq⟩
 case rest =>
 obtain ⟨rfl,gw⟩:=hcut
 replace s3:=Fq.H2.keep s3 gw
 replace s4:=Fq.H2.keep s4 gw
 replace kW:=Kp.trans kW gw
 clear gw W
 generalize wc=W at s3 s4 kW ⊢
 obtain ⟨x0,x1,xz0,xz1⟩:=id s3
 obtain ⟨y0,y1,yz0,yz1⟩:=id s4
 go_upto_region 7 with (first | (go_at_call 27;refine (hIa _).mono ?_;rintro e wa ⟨rfl,ga⟩) | (go_at_call 26;refine (hFa _).mono ?_;rintro e wb ⟨s1,p1,l1,c1,q1,k1,d1,rfl,ha,gb⟩))
 have qa:=H3c.new wb (.bool s1) (.slice p1 l1 c1) (.slice q1 k1 d1) 43
 have k5:Kp W (wb.alloc (.cells #[.bool s1,.slice p1 l1 c1,.slice q1 k1 d1] 43)):=(Kp.trans ga gb).alloc _
 replace ha:=kA _ _ s1 p1 l1 c1 q1 k1 d1 ha ((Kp.refl wb).alloc (.cells #[.bool s1,.slice p1 l1 c1,.slice q1 k1 d1] 43))
 clear x0 x1 xz0 xz1 y0 y1 yz0 yz1
 replace s3:=Fq.H2.keep s3 k5
 replace s4:=Fq.H2.keep s4 k5
 replace kW:=Kp.trans kW k5
 clear k5 ga gb
 generalize wb.alloc (.cells #[.bool s1,.slice p1 l1 c1,.slice q1 k1 d1] 43)=W5 at s3 s4 kW qa ha ⊢
 generalize wb.heap.size=Ba at qa ⊢
 clear W
 obtain ⟨y0,y1,yz0,yz1⟩:=id s4
 go_upto_region 8 with (first | (go_at_call 27;refine (hIb _).mono ?_;rintro e wa ⟨rfl,ga⟩) | (go_at_call 26;refine (hFb _).mono ?_;rintro e wb ⟨s2,p2,l2,c2,q2,k2,d2,rfl,hb,gb⟩))
 have qb:=H3c.new wb (.bool s2) (.slice p2 l2 c2) (.slice q2 k2 d2) 43
 have k5:Kp W5 (wb.alloc (.cells #[.bool s2,.slice p2 l2 c2,.slice q2 k2 d2] 43)):=(Kp.trans ga gb).alloc _
 replace hb:=kB _ _ s2 p2 l2 c2 q2 k2 d2 hb ((Kp.refl wb).alloc (.cells #[.bool s2,.slice p2 l2 c2,.slice q2 k2 d2] 43))
 replace ha:=kA _ _ s1 p1 l1 c1 q1 k1 d1 ha k5
 clear y0 y1 yz0 yz1
 replace s3:=Fq.H2.keep s3 k5
 replace s4:=Fq.H2.keep s4 k5
 replace qa:=H3c.keep qa k5
 replace kW:=Kp.trans kW k5
 clear k5 ga gb
 generalize wb.alloc (.cells #[.bool s2,.slice p2 l2 c2,.slice q2 k2 d2] 43)=W at s3 s4 kW qa qb ha hb ⊢
 generalize wb.heap.size=Bb at qb ⊢
 go_cut [72] (fun s72 wx=>s72=.bool false∧Kp W wx)
 case first =>
  by_cases hM0:0≤M
  ·have p8:=h8p hM0
   have p8h:=h8h hM0
   obtain ⟨x0,x1,xz0,xz1⟩:=id s3
   obtain ⟨a0,a1,a2,az0,az1,az2⟩:=id qa
   have hTW:=hT.kp kW
   have jc:Kp W W.drew:=Kp.drew (Kp.refl W)
   go_region_held3 (fun w'=>w'.cell? ⟨Bx,0,none⟩=some (.int .u64 Z1)∧w'.cell? ⟨Bx,1,none⟩=some (.int .u64 Z2)∧w'.cell? ⟨Ba,0,none⟩=some (.bool s1)∧w'.cell? ⟨Ba,1,none⟩=some (.slice p1 l1 c1)∧w'.cell? ⟨Ba,2,none⟩=some (.slice q1 k1 d1)) (first | (with_reducible exact ⟨x0,x1,a0,a1,a2⟩) | (exact ⟨kkeep jc x0,kkeep jc x1,kkeep jc a0,kkeep jc a1,kkeep jc a2⟩)) (first | (go_at_call 28;refine (p8h w3 _ s3 p3 l3 c3 q3 k3 d3 h3 i3).mono ?_;rintro e wh ⟨rfl,gh⟩;replace jc:=Kp.trans jc gh;(first | (replace i3:=Kp.trans i3 gh) | skip);(first | (replace i4:=Kp.trans i4 gh) | skip);(first | (replace i5:=Kp.trans i5 gh) | skip)) | (go_at_call 11;refine (hPo _ (hTW.kp jc)).mono ?_;rintro e w2 ⟨rfl,g2⟩;replace jc:=Kp.trans jc g2;(first | (replace i3:=Kp.trans i3 g2) | skip);(first | (replace i4:=Kp.trans i4 g2) | skip);(first | (replace i5:=Kp.trans i5 g2) | skip)) | (go_at_call 29;refine (p8 _ s1 p1 l1 c1 q1 k1 d1 (kA _ _ s1 p1 l1 c1 q1 k1 d1 ha jc)).mono ?_;rintro e w3 ⟨s3,p3,l3,c3,q3,k3,d3,rfl,h3,g3⟩;replace jc:=Kp.trans jc g3;(first | (replace i3:=Kp.trans i3 g3) | skip);(first | (replace i4:=Kp.trans i4 g3) | skip);(first | (replace i5:=Kp.trans i5 g3) | skip);have i3:Kp w3 w3:=Kp.refl w3) | (go_at_call 20;refine (hXi _).mono ?_;rintro e w1 ⟨rfl,g1⟩;replace jc:=Kp.trans jc g1;(first | (replace i3:=Kp.trans i3 g1) | skip);(first | (replace i4:=Kp.trans i4 g1) | skip);(first | (replace i5:=Kp.trans i5 g1) | skip)))
   all_goals (
    go_wp2_with fail
    go_meet
    exact ⟨rfl,jc⟩)
  ·have hM0':M<0:=by omega
   have hTW:=hT.kp kW
   refine Fq.wp_region_grow (by kernel_rfl) (by kernel_rfl) (fun ι _ G hG hall=>?_)
   have tG:∀ n,TU7 (G n):=fun n=>hTW.kp (hG n)
   have cc0:∀ n,(G n).cell? ⟨Bx,0,none⟩=some (.int .u64 Z1):=fun n=>Fq.gkeep (hG n) s3.1
   have cc1:∀ n,(G n).cell? ⟨Bx,1,none⟩=some (.int .u64 Z2):=fun n=>Fq.gkeep (hG n) s3.2.1
   have cc2:∀ n,(G n).cell? ⟨By,0,none⟩=some (.int .u64 V1):=fun n=>Fq.gkeep (hG n) s4.1
   have cc3:∀ n,(G n).cell? ⟨By,1,none⟩=some (.int .u64 V2):=fun n=>Fq.gkeep (hG n) s4.2.1
   repeat (go_big_quiet_step (first | fail))
   refine wpQuiet_nil ?_
   rintro _ ⟨nq,rfl⟩
   have gq:Kp W (G nq):=hG nq
   clear cc0 cc1 cc2 cc3 hall hG tG
   go_wp2_with fail
   go_meet
   exact ⟨rfl,gq⟩
 case rest =>
 obtain ⟨rfl,gw⟩:=hcut
 replace s3:=Fq.H2.keep s3 gw
 replace s4:=Fq.H2.keep s4 gw
 replace qa:=H3c.keep qa gw
 replace qb:=H3c.keep qb gw
 replace kW:=Kp.trans kW gw
 replace ha:=kA _ _ s1 p1 l1 c1 q1 k1 d1 ha gw
 replace hb:=kB _ _ s2 p2 l2 c2 q2 k2 d2 hb gw
 clear gw W
 generalize wc=W at s3 s4 kW qa qb ha hb ⊢
 go_upto_region 10 with fail
 go_cut [93] (fun s93 wx=>s93=.bool false∧Kp W wx)
 case first =>
  have hTW:=hT.kp kW
  by_cases hM0:M<0
  ·rcases hkS with rfl | rfl | rfl
   ·skip
    refine Fq.wp_region_grow (by kernel_rfl) (by kernel_rfl) (fun ι _ G hG hall=>?_)
    have tG:∀ n,TU7 (G n):=fun n=>hTW.kp (hG n)
    have cc0:∀ n,(G n).cell? ⟨Bx,0,none⟩=some (.int .u64 Z1):=fun n=>Fq.gkeep (hG n) s3.1
    have cc1:∀ n,(G n).cell? ⟨Bx,1,none⟩=some (.int .u64 Z2):=fun n=>Fq.gkeep (hG n) s3.2.1
    have cc2:∀ n,(G n).cell? ⟨By,0,none⟩=some (.int .u64 V1):=fun n=>Fq.gkeep (hG n) s4.1
    have cc3:∀ n,(G n).cell? ⟨By,1,none⟩=some (.int .u64 V2):=fun n=>Fq.gkeep (hG n) s4.2.1
    have cc4:∀ n,(G n).cell? ⟨Ba,0,none⟩=some (.bool s1):=fun n=>Fq.gkeep (hG n) qa.1
    have cc5:∀ n,(G n).cell? ⟨Ba,1,none⟩=some (.slice p1 l1 c1):=fun n=>Fq.gkeep (hG n) qa.2.1
    have cc6:∀ n,(G n).cell? ⟨Ba,2,none⟩=some (.slice q1 k1 d1):=fun n=>Fq.gkeep (hG n) qa.2.2.1
    repeat (go_big_quiet_step (first | (go_at_call 30;exact (hS _ s1 p1 l1 c1 q1 k1 d1 (kA _ _ s1 p1 l1 c1 q1 k1 d1 ha (hG _))).mono (fun e w' h=>⟨h.1,hall _ (Fq.gtrans (hG _) h.2)⟩))))
    refine wpQuiet_nil ?_
    rintro _ ⟨nq,rfl⟩
    have gq:Kp W (G nq):=hG nq
    clear cc0 cc1 cc2 cc3 cc4 cc5 cc6 hall hG tG
    go_wp2_with fail
    go_meet
    exact ⟨rfl,gq⟩
   ·have p8:=h10p hM0 (by decide)
    have p10q:=h10q hM0 (by decide)
    have p10h:=h10h hM0 (by decide)
    obtain ⟨x0,x1,xz0,xz1⟩:=id s3
    obtain ⟨a0,a1,a2,az0,az1,az2⟩:=id qa
    have jc:Kp W W.drew:=Kp.drew (Kp.refl W)
    go_region_held3 (fun w'=>w'.cell? ⟨Bx,0,none⟩=some (.int .u64 Z1)∧w'.cell? ⟨Bx,1,none⟩=some (.int .u64 Z2)∧w'.cell? ⟨Ba,0,none⟩=some (.bool s1)∧w'.cell? ⟨Ba,1,none⟩=some (.slice p1 l1 c1)∧w'.cell? ⟨Ba,2,none⟩=some (.slice q1 k1 d1)) (first | (with_reducible exact ⟨x0,x1,a0,a1,a2⟩) | (exact ⟨kkeep jc x0,kkeep jc x1,kkeep jc a0,kkeep jc a1,kkeep jc a2⟩)) (first | (go_at_call 28;refine (p10h w5 _ s5 p5 l5 c5 q5 k5 d5 h5 i5).mono ?_;rintro e wh ⟨rfl,gh⟩;replace jc:=Kp.trans jc gh;(first | (replace i3:=Kp.trans i3 gh) | skip);(first | (replace i4:=Kp.trans i4 gh) | skip);(first | (replace i5:=Kp.trans i5 gh) | skip)) | (go_at_call 31;refine (p10q w4 w3 _ s4 p4 l4 c4 q4 k4 d4 s3 p3 l3 c3 q3 k3 d3 h4 i4 h3 i3).mono ?_;rintro e w5 ⟨s5,p5,l5,c5,q5,k5,d5,rfl,h5,g5⟩;replace jc:=Kp.trans jc g5;(first | (replace i3:=Kp.trans i3 g5) | skip);(first | (replace i4:=Kp.trans i4 g5) | skip);(first | (replace i5:=Kp.trans i5 g5) | skip);have i5:Kp w5 w5:=Kp.refl w5) | (go_at_call 11;refine (hPo _ (hTW.kp jc)).mono ?_;rintro e w2 ⟨rfl,g2⟩;replace jc:=Kp.trans jc g2;(first | (replace i3:=Kp.trans i3 g2) | skip);(first | (replace i4:=Kp.trans i4 g2) | skip);(first | (replace i5:=Kp.trans i5 g2) | skip)) | (go_at_call 29;(first | rw [hMw] | skip);with_reducible refine (p8 _ s1 p1 l1 c1 q1 k1 d1 (kA _ _ s1 p1 l1 c1 q1 k1 d1 ha jc)).mono ?_;rintro e w3 ⟨s3,p3,l3,c3,q3,k3,d3,rfl,h3,g3⟩;replace jc:=Kp.trans jc g3;(first | (replace i3:=Kp.trans i3 g3) | skip);(first | (replace i4:=Kp.trans i4 g3) | skip);(first | (replace i5:=Kp.trans i5 g3) | skip);have i3:Kp w3 w3:=Kp.refl w3) | (go_at_call 32;refine (h10i _).mono ?_;rintro e w4 ⟨s4,p4,l4,c4,q4,k4,d4,rfl,h4,g4⟩;replace jc:=Kp.trans jc g4;(first | (replace i3:=Kp.trans i3 g4) | skip);(first | (replace i4:=Kp.trans i4 g4) | skip);(first | (replace i5:=Kp.trans i5 g4) | skip);have i4:Kp w4 w4:=Kp.refl w4) | (go_at_call 20;refine (hXi _).mono ?_;rintro e w1 ⟨rfl,g1⟩;replace jc:=Kp.trans jc g1;(first | (replace i3:=Kp.trans i3 g1) | skip);(first | (replace i4:=Kp.trans i4 g1) | skip);(first | (replace i5:=Kp.trans i5 g1) | skip)) | (go_at_call 30;refine (hS _ s1 p1 l1 c1 q1 k1 d1 (kA _ _ s1 p1 l1 c1 q1 k1 d1 ha jc)).mono ?_;rintro e ws ⟨rfl,gs⟩;replace jc:=Kp.trans jc gs;(first | (replace i3:=Kp.trans i3 gs) | skip);(first | (replace i4:=Kp.trans i4 gs) | skip);(first | (replace i5:=Kp.trans i5 gs) | skip)))
    all_goals (
     go_wp2_with fail
     go_meet
     exact ⟨rfl,jc⟩)
   ·have p8:=h10p hM0 (by decide)
    have p10q:=h10q hM0 (by decide)
    have p10h:=h10h hM0 (by decide)
    obtain ⟨x0,x1,xz0,xz1⟩:=id s3
    obtain ⟨a0,a1,a2,az0,az1,az2⟩:=id qa
    have jc:Kp W W.drew:=Kp.drew (Kp.refl W)
    go_region_held3 (fun w'=>w'.cell? ⟨Bx,0,none⟩=some (.int .u64 Z1)∧w'.cell? ⟨Bx,1,none⟩=some (.int .u64 Z2)∧w'.cell? ⟨Ba,0,none⟩=some (.bool s1)∧w'.cell? ⟨Ba,1,none⟩=some (.slice p1 l1 c1)∧w'.cell? ⟨Ba,2,none⟩=some (.slice q1 k1 d1)) (first | (with_reducible exact ⟨x0,x1,a0,a1,a2⟩) | (exact ⟨kkeep jc x0,kkeep jc x1,kkeep jc a0,kkeep jc a1,kkeep jc a2⟩)) (first | (go_at_call 28;refine (p10h w5 _ s5 p5 l5 c5 q5 k5 d5 h5 i5).mono ?_;rintro e wh ⟨rfl,gh⟩;replace jc:=Kp.trans jc gh;(first | (replace i3:=Kp.trans i3 gh) | skip);(first | (replace i4:=Kp.trans i4 gh) | skip);(first | (replace i5:=Kp.trans i5 gh) | skip)) | (go_at_call 31;refine (p10q w4 w3 _ s4 p4 l4 c4 q4 k4 d4 s3 p3 l3 c3 q3 k3 d3 h4 i4 h3 i3).mono ?_;rintro e w5 ⟨s5,p5,l5,c5,q5,k5,d5,rfl,h5,g5⟩;replace jc:=Kp.trans jc g5;(first | (replace i3:=Kp.trans i3 g5) | skip);(first | (replace i4:=Kp.trans i4 g5) | skip);(first | (replace i5:=Kp.trans i5 g5) | skip);have i5:Kp w5 w5:=Kp.refl w5) | (go_at_call 11;refine (hPo _ (hTW.kp jc)).mono ?_;rintro e w2 ⟨rfl,g2⟩;replace jc:=Kp.trans jc g2;(first | (replace i3:=Kp.trans i3 g2) | skip);(first | (replace i4:=Kp.trans i4 g2) | skip);(first | (replace i5:=Kp.trans i5 g2) | skip)) | (go_at_call 29;(first | rw [hMw] | skip);with_reducible refine (p8 _ s1 p1 l1 c1 q1 k1 d1 (kA _ _ s1 p1 l1 c1 q1 k1 d1 ha jc)).mono ?_;rintro e w3 ⟨s3,p3,l3,c3,q3,k3,d3,rfl,h3,g3⟩;replace jc:=Kp.trans jc g3;(first | (replace i3:=Kp.trans i3 g3) | skip);(first | (replace i4:=Kp.trans i4 g3) | skip);(first | (replace i5:=Kp.trans i5 g3) | skip);have i3:Kp w3 w3:=Kp.refl w3) | (go_at_call 32;refine (h10i _).mono ?_;rintro e w4 ⟨s4,p4,l4,c4,q4,k4,d4,rfl,h4,g4⟩;replace jc:=Kp.trans jc g4;(first | (replace i3:=Kp.trans i3 g4) | skip);(first | (replace i4:=Kp.trans i4 g4) | skip);(first | (replace i5:=Kp.trans i5 g4) | skip);have i4:Kp w4 w4:=Kp.refl w4) | (go_at_call 20;refine (hXi _).mono ?_;rintro e w1 ⟨rfl,g1⟩;replace jc:=Kp.trans jc g1;(first | (replace i3:=Kp.trans i3 g1) | skip);(first | (replace i4:=Kp.trans i4 g1) | skip);(first | (replace i5:=Kp.trans i5 g1) | skip)) | (go_at_call 30;refine (hS _ s1 p1 l1 c1 q1 k1 d1 (kA _ _ s1 p1 l1 c1 q1 k1 d1 ha jc)).mono ?_;rintro e ws ⟨rfl,gs⟩;replace jc:=Kp.trans jc gs;(first | (replace i3:=Kp.trans i3 gs) | skip);(first | (replace i4:=Kp.trans i4 gs) | skip);(first | (replace i5:=Kp.trans i5 gs) | skip)))
    all_goals (
     go_wp2_with fail
     go_meet
     exact ⟨rfl,jc⟩)
  ·skip
   refine Fq.wp_region_grow (by kernel_rfl) (by kernel_rfl) (fun ι _ G hG hall=>?_)
   have tG:∀ n,TU7 (G n):=fun n=>hTW.kp (hG n)
   have cc0:∀ n,(G n).cell? ⟨Bx,0,none⟩=some (.int .u64 Z1):=fun n=>Fq.gkeep (hG n) s3.1
   have cc1:∀ n,(G n).cell? ⟨Bx,1,none⟩=some (.int .u64 Z2):=fun n=>Fq.gkeep (hG n) s3.2.1
   have cc2:∀ n,(G n).cell? ⟨By,0,none⟩=some (.int .u64 V1):=fun n=>Fq.gkeep (hG n) s4.1
   have cc3:∀ n,(G n).cell? ⟨By,1,none⟩=some (.int .u64 V2):=fun n=>Fq.gkeep (hG n) s4.2.1
   repeat (go_big_quiet_step (first | fail))
   refine wpQuiet_nil ?_
   rintro _ ⟨nq,rfl⟩
   have gq:Kp W (G nq):=hG nq
   clear cc0 cc1 cc2 cc3 hall hG tG
   go_wp2_with fail
   go_meet
   exact ⟨rfl,gq⟩
 case rest =>
 obtain ⟨rfl,gw⟩:=hcut
 replace s3:=Fq.H2.keep s3 gw
 replace s4:=Fq.H2.keep s4 gw
 replace qa:=H3c.keep qa gw
 replace qb:=H3c.keep qb gw
 replace kW:=Kp.trans kW gw
 replace ha:=kA _ _ s1 p1 l1 c1 q1 k1 d1 ha gw
 replace hb:=kB _ _ s2 p2 l2 c2 q2 k2 d2 hb gw
 clear gw W
 generalize wc=W at s3 s4 kW qa qb ha hb ⊢
 clear h8p h8h h10i h10p h10q h10h hPo
 obtain ⟨a0,a1,a2,az0,az1,az2⟩:=id qa
 go_upto_region 13 with fail
 have q3:=H3c.new W (.bool s1) (.slice p1 l1 c1) (.slice q1 k1 d1) 43
 have k3:Kp W (W.alloc (.cells #[.bool s1,.slice p1 l1 c1,.slice q1 k1 d1] 43)):=(Kp.refl _).alloc _
 have qa3:=H3c.keep qa k3
 have qb3:=H3c.keep qb k3
 have eB:W.heap.size<(W.alloc (.cells #[.bool s1,.slice p1 l1 c1,.slice q1 k1 d1] 43)).heap.size:=H3c.lt q3
 clear a0 a1 a2 az0 az1 az2
 generalize W.alloc (.cells #[.bool s1,.slice p1 l1 c1,.slice q1 k1 d1] 43)=W3 at q3 k3 qa3 qb3 eB ⊢
 obtain ⟨b0,b1,b2,bz0,bz1,bz2⟩:=id qb3
 go_upto_region 14 with fail
 have k4:Kp W3 (W3.alloc (.cells #[.bool s2,.slice p2 l2 c2,.slice q2 k2 d2] 43)):=(Kp.refl _).alloc _
 have q4:=H3c.new W3 (.bool s2) (.slice p2 l2 c2) (.slice q2 k2 d2) 43
 replace q3:=H3c.keep q3 k4
 replace qa3:=H3c.keep qa3 k4
 replace qb3:=H3c.keep qb3 k4
 replace k3:=Kp.trans k3 k4
 clear k4 b0 b1 b2 bz0 bz1 bz2
 generalize W3.alloc (.cells #[.bool s2,.slice p2 l2 c2,.slice q2 k2 d2] 43)=W4 at q3 q4 k3 qa3 qb3 ⊢
 generalize hB4:W3.heap.size=B4 at q4 eB ⊢
 obtain ⟨a0,a1,a2,az0,az1,az2⟩:=id qa3
 obtain ⟨b0,b1,b2,bz0,bz1,bz2⟩:=id qb3
 go_upto_if 99 with (first | (go_at_call 33;refine (hC _ s1 p1 l1 c1 q1 k1 d1 s2 p2 l2 c2 q2 k2 d2 (kA _ _ s1 p1 l1 c1 q1 k1 d1 ha k3) (kB _ _ s2 p2 l2 c2 q2 k2 d2 hb k3)).mono ?_;rintro e w5 ⟨rfl,g5⟩))
 clear a0 a1 a2 az0 az1 az2 b0 b1 b2 bz0 bz1 bz2
 replace q3:=H3c.keep q3 g5
 replace q4:=H3c.keep q4 g5
 replace qa3:=H3c.keep qa3 g5
 replace qb3:=H3c.keep qb3 g5
 replace k3:=Kp.trans k3 g5
 clear g5 W3 hB4
 generalize w5=W4 at q3 q4 k3 qa3 qb3 ⊢
 have nab:W.heap.size≠Ba:=by have:=H3c.lt qa;omega
 have nbb:W.heap.size≠Bb:=by have:=H3c.lt qb;omega
 have n34:W.heap.size≠B4:=by omega
 have le4:W.heap.size≤B4:=by omega
 obtain ⟨L0,L1,L2,G0,G1,G2,hLG,hmn,hmx⟩:∃ L0 L1 L2 G0 G1 G2:Value,((0<kc∧L0=.bool s2∧L1=.slice p2 l2 c2∧L2=.slice q2 k2 d2∧G0=.bool s1∧G1=.slice p1 l1 c1∧G2=.slice q1 k1 d1)∨(¬ 0<kc∧L0=.bool s1∧L1=.slice p1 l1 c1∧L2=.slice q1 k1 d1∧G0=.bool s2∧G1=.slice p2 l2 c2∧G2=.slice q2 k2 d2))∧(∀ W':World,Kp W W'→Calls Tryz.prog 28 #[.agg #[.float .f64 mL,.float .f64 mH],.agg #[L0,L1,L2]] W' fun e w'=>e=.returned (.bool true)∧Kp W' w')∧(∀ W':World,Kp W W'→Calls Tryz.prog 28 #[.agg #[.float .f64 xL,.float .f64 xH],.agg #[G0,G1,G2]] W' fun e w'=>e=.returned (.bool true)∧Kp W' w'):=by
  by_cases hk:0<kc
  ·exact ⟨_,_,_,_,_,_,Or.inl ⟨hk,rfl,rfl,rfl,rfl,rfl,rfl⟩,fun W' g=>hMnT (by omega) W' s2 p2 l2 c2 q2 k2 d2 (kB _ _ s2 p2 l2 c2 q2 k2 d2 hb g),fun W' g=>hMxT (by omega) W' s1 p1 l1 c1 q1 k1 d1 (kA _ _ s1 p1 l1 c1 q1 k1 d1 ha g)⟩
  ·exact ⟨_,_,_,_,_,_,Or.inr ⟨hk,rfl,rfl,rfl,rfl,rfl,rfl⟩,fun W' g=>hMnF (by omega) W' s1 p1 l1 c1 q1 k1 d1 (kA _ _ s1 p1 l1 c1 q1 k1 d1 ha g),fun W' g=>hMxF (by omega) W' s2 p2 l2 c2 q2 k2 d2 (kB _ _ s2 p2 l2 c2 q2 k2 d2 hb g)⟩
 clear hMnT hMnF hMxT hMxF hC
 go_cut [] (fun wx=>H3c wx W.heap.size L0 L1 L2∧H3c wx B4 G0 G1 G2∧Kp W wx)
 case first =>
  rcases hLG with ⟨hk,rfl,rfl,rfl,rfl,rfl,rfl⟩ | ⟨hk,rfl,rfl,rfl,rfl,rfl,rfl⟩
  ·obtain ⟨b0,b1,b2,bz0,bz1,bz2⟩:=id qb3
   obtain ⟨f0,f1,f2,fz0,fz1,fz2⟩:=id q3
   go_upto_region 16 with fail
   have r3:=H3c.put q3 (.bool s2) (.slice p2 l2 c2) (.slice q2 k2 d2)
   have r4:=(H3c.far1 (H3c.far1 (H3c.far1 q4 ⟨W.heap.size,0,none⟩ n34 (.bool s2)) ⟨W.heap.size,1,none⟩ n34 (.slice p2 l2 c2)) ⟨W.heap.size,2,none⟩ n34 (.slice q2 k2 d2))
   have ra:=(H3c.far1 (H3c.far1 (H3c.far1 qa3 ⟨W.heap.size,0,none⟩ nab (.bool s2)) ⟨W.heap.size,1,none⟩ nab (.slice p2 l2 c2)) ⟨W.heap.size,2,none⟩ nab (.slice q2 k2 d2))
   have kr:Kp W (((W4.setCell ⟨W.heap.size,0,none⟩ (.bool s2)).setCell ⟨W.heap.size,1,none⟩ (.slice p2 l2 c2)).setCell ⟨W.heap.size,2,none⟩ (.slice q2 k2 d2)):=(KS2 (k3.setCell (Nat.le_refl _) _) (Nat.le_refl _))
   clear b0 b1 b2 bz0 bz1 bz2 f0 f1 f2 fz0 fz1 fz2 q3 q4 qa3 qb3 k3
   generalize (((W4.setCell ⟨W.heap.size,0,none⟩ (.bool s2)).setCell ⟨W.heap.size,1,none⟩ (.slice p2 l2 c2)).setCell ⟨W.heap.size,2,none⟩ (.slice q2 k2 d2))=W5 at r3 r4 ra kr ⊢
   obtain ⟨a0,a1,a2,az0,az1,az2⟩:=id ra
   obtain ⟨f0,f1,f2,fz0,fz1,fz2⟩:=id r4
   go_wp2_with fail
   go_meet
   exact ⟨(H3c.far1 (H3c.far1 (H3c.far1 r3 ⟨B4,0,none⟩ n34.symm (.bool s1)) ⟨B4,1,none⟩ n34.symm (.slice p1 l1 c1)) ⟨B4,2,none⟩ n34.symm (.slice q1 k1 d1)),H3c.put r4 (.bool s1) (.slice p1 l1 c1) (.slice q1 k1 d1),(((kr.setCell le4 _).setCell le4 _).setCell le4 _)⟩
  ·go_wp2_with fail
   go_meet
   exact ⟨q3,q4,k3⟩
 case rest =>
 clear q3 q4 k3 qa3 qb3 hLG
 obtain ⟨q3,q4,k3⟩:=hcut
 generalize wc=W4 at q3 q4 k3 ⊢
 have qa3:=H3c.keep qa k3
 have r3:=q3
 have r4:=q4
 obtain ⟨a0,a1,a2,az0,az1,az2⟩:=id qa3
 go_upto_region 18 with fail
 have k5:Kp W4 (W4.alloc (.cells #[.bool s1,.slice p1 l1 c1,.slice q1 k1 d1] 43)):=(Kp.refl _).alloc _
 have q5:=H3c.new W4 (.bool s1) (.slice p1 l1 c1) (.slice q1 k1 d1) 43
 replace q3:=H3c.keep q3 k5
 replace q4:=H3c.keep q4 k5
 replace qa3:=H3c.keep qa3 k5
 have m6:=Kp.trans k3 k5
 clear a0 a1 a2 az0 az1 az2
 generalize W4.alloc (.cells #[.bool s1,.slice p1 l1 c1,.slice q1 k1 d1] 43)=W5 at q3 q4 q5 k5 m6 qa3 ⊢
 obtain ⟨a0,a1,a2,az0,az1,az2⟩:=id qa3
 go_upto_if 105 with (first | (go_at_call 30;refine (hS _ s1 p1 l1 c1 q1 k1 d1 (kA _ _ s1 p1 l1 c1 q1 k1 d1 ha m6)).mono ?_;rintro e w5 ⟨rfl,g5⟩))
 clear a0 a1 a2 az0 az1 az2
 replace q3:=H3c.keep q3 g5
 replace q4:=H3c.keep q4 g5
 replace q5:=H3c.keep q5 g5
 replace qa3:=H3c.keep qa3 g5
 replace k5:=Kp.trans k5 g5
 replace m6:=Kp.trans m6 g5
 clear g5
 generalize w5=W5 at q3 q4 q5 k5 m6 qa3 ⊢
 go_cut [] (fun wx=>∃ s6 p6 l6 c6 q6 k6 d6,H3c wx W4.heap.size (.bool s6) (.slice p6 l6 c6) (.slice q6 k6 d6)∧PZ wx s6 p6 l6 c6 q6 k6 d6∧Kp W4 wx)
 case first =>
  by_cases hs9:kS<0
  ·obtain ⟨a0,a1,a2,az0,az1,az2⟩:=id qa3
   have hng:=hNg hs9 W5 s1 p1 l1 c1 q1 k1 d1 (kA _ _ s1 p1 l1 c1 q1 k1 d1 ha m6)
   go_wp2_with (first | (go_at_call 34;refine hng.mono ?_;rintro e w6 ⟨s6,p6,l6,c6,q6,k6,d6,rfl,h6,g6⟩;obtain ⟨f0,f1,f2,fz0,fz1,fz2⟩:=H3c.keep q5 g6))
   go_meet
   exact ⟨s6,p6,l6,c6,q6,k6,d6,H3c.put (H3c.keep q5 g6) _ _ _,hNs W5 w6 s6 p6 l6 c6 q6 k6 d6 W4.heap.size h6 (H3c.lt q5),(KS3 (Kp.trans k5 g6) (Nat.le_refl _))⟩
  ·go_wp2_with fail
   go_meet
   exact ⟨s1,p1,l1,c1,q1,k1,d1,q5,hNp hs9 W5 s1 p1 l1 c1 q1 k1 d1 (kA _ _ s1 p1 l1 c1 q1 k1 d1 ha m6),k5⟩
 case rest =>
 obtain ⟨s6,p6,l6,c6,q6,k6,d6,f6,hz,k7⟩:=hcut
 clear q3 q4 q5 k5 m6 qa3
 replace r3:=H3c.keep r3 k7
 replace r4:=H3c.keep r4 k7
 have k8:=Kp.trans k3 k7
 replace kW:=Kp.trans kW k8
 replace s3:=Fq.H2.keep s3 k8
 replace s4:=Fq.H2.keep s4 k8
 replace qa:=H3c.keep qa k8
 replace ha:=kA _ _ s1 p1 l1 c1 q1 k1 d1 ha k8
 clear k3 k7 qb hb hNg hNs hNp hS
 generalize wc=W6 at s3 s4 kW qa ha r3 r4 f6 hz k8 ⊢
 go_upto_region 20 with fail
 go_cut [133] (fun s133 wx=>s133=.bool false∧Kp W6 wx)
 case first =>
  have hTW:=hT.kp kW
  refine Fq.wp_region_grow (by kernel_rfl) (by kernel_rfl) (fun ι _ G hG hall=>?_)
  have tG:∀ n,TU7 (G n):=fun n=>hTW.kp (hG n)
  have cc0:∀ n,(G n).cell? ⟨Bx,0,none⟩=some (.int .u64 Z1):=fun n=>Fq.gkeep (hG n) s3.1
  have cc1:∀ n,(G n).cell? ⟨Bx,1,none⟩=some (.int .u64 Z2):=fun n=>Fq.gkeep (hG n) s3.2.1
  have cc2:∀ n,(G n).cell? ⟨By,0,none⟩=some (.int .u64 V1):=fun n=>Fq.gkeep (hG n) s4.1
  have cc3:∀ n,(G n).cell? ⟨By,1,none⟩=some (.int .u64 V2):=fun n=>Fq.gkeep (hG n) s4.2.1
  have cc4:∀ n,(G n).cell? ⟨W.heap.size,0,none⟩=some (L0):=fun n=>Fq.gkeep (hG n) r3.1
  have cc5:∀ n,(G n).cell? ⟨W.heap.size,1,none⟩=some (L1):=fun n=>Fq.gkeep (hG n) r3.2.1
  have cc6:∀ n,(G n).cell? ⟨W.heap.size,2,none⟩=some (L2):=fun n=>Fq.gkeep (hG n) r3.2.2.1
  have cc7:∀ n,(G n).cell? ⟨B4,0,none⟩=some (G0):=fun n=>Fq.gkeep (hG n) r4.1
  have cc8:∀ n,(G n).cell? ⟨B4,1,none⟩=some (G1):=fun n=>Fq.gkeep (hG n) r4.2.1
  have cc9:∀ n,(G n).cell? ⟨B4,2,none⟩=some (G2):=fun n=>Fq.gkeep (hG n) r4.2.2.1
  have cc10:∀ n,(G n).cell? ⟨W4.heap.size,0,none⟩=some (.bool s6):=fun n=>Fq.gkeep (hG n) f6.1
  have cc11:∀ n,(G n).cell? ⟨W4.heap.size,1,none⟩=some (.slice p6 l6 c6):=fun n=>Fq.gkeep (hG n) f6.2.1
  have cc12:∀ n,(G n).cell? ⟨W4.heap.size,2,none⟩=some (.slice q6 k6 d6):=fun n=>Fq.gkeep (hG n) f6.2.2.1
  repeat (go_big_quiet_step (first | (go_at_call_of 20 (Value.int .u64 Z1);exact (hXi _).mono (fun e w' h=>⟨h.1,hall _ (Fq.gtrans (hG _) h.2)⟩)) | (go_at_call_of 20 (Value.int .u64 V1);exact (hYi _).mono (fun e w' h=>⟨h.1,hall _ (Fq.gtrans (hG _) h.2)⟩)) | (go_at_call 16;exact (hMi _).mono (fun e w' h=>⟨h.1,hall _ (Fq.gtrans (hG _) h.2)⟩)) | (go_at_call 25;exact (hMa _).mono (fun e w' h=>⟨h.1,hall _ (Fq.gtrans (hG _) h.2)⟩)) | (go_at_call 35;exact (hAb _).mono (fun e w' h=>⟨h.1,hall _ (Fq.gtrans (hG _) h.2)⟩)) | (go_at_call_of 28 (Value.float .f64 mL);exact (hmn _ (Kp.trans k8 (hG _))).mono (fun e w' h=>⟨h.1,hall _ (Fq.gtrans (hG _) h.2)⟩)) | (go_at_call_of 28 (Value.float .f64 xL);exact (hmx _ (Kp.trans k8 (hG _))).mono (fun e w' h=>⟨h.1,hall _ (Fq.gtrans (hG _) h.2)⟩)) | (go_at_call_of 28 (Value.float .f64 sL);exact (hAh _ s6 p6 l6 c6 q6 k6 d6 (kZ _ _ s6 p6 l6 c6 q6 k6 d6 hz (hG _))).mono (fun e w' h=>⟨h.1,hall _ (Fq.gtrans (hG _) h.2)⟩))))
  refine wpQuiet_nil ?_
  rintro _ ⟨nq,rfl⟩
  have gq:Kp W6 (G nq):=hG nq
  clear cc0 cc1 cc2 cc3 cc4 cc5 cc6 cc7 cc8 cc9 cc10 cc11 cc12 hall hG tG
  go_wp2_with fail
  go_meet
  exact ⟨rfl,gq⟩
 case rest =>
 obtain ⟨rfl,gw⟩:=hcut
 replace kW:=Kp.trans kW gw
 replace s3:=Fq.H2.keep s3 gw
 replace qa:=H3c.keep qa gw
 replace ha:=kA _ _ s1 p1 l1 c1 q1 k1 d1 ha gw
 clear s4 r3 r4 f6 hz k8 hmn hmx gw
 generalize wc=W7 at s3 kW qa ha ⊢

 go_wp2_with fail
 go_loopw [16] (fun i wr=>∃ k9:Nat,k9≤6∧i=.int .i64 k9∧Kp W7 wr) (fun i _=>6 - (intOf i).toNat)
 case atStart=>exact ⟨0,by omega,rfl,Kp.refl _⟩
 case round =>
  obtain ⟨k9,hk,rfl,gr⟩:=hrel
  replace s3:=Fq.H2.keep s3 gr
  replace qa:=H3c.keep qa gr
  replace ha:=kA _ _ s1 p1 l1 c1 q1 k1 d1 ha gr
  have kW2:=Kp.trans kW gr
  by_cases ck:k9<6
  ·have i1:(k9:Int)<6:=by omega
   have hst:=hSt k9 ck
   have hsp:=hSp k9 ck
   have hsh:=hSh k9 ck
   generalize GL k9=gl at hst hsh
   generalize GH k9=gh at hst hsh
   generalize PS k9=ps at hsp hsh
   go_wp2_with fail
   generalize hW0:wr=W9 at gr s3 qa ha kW2 ⊢
   clear hW0
   obtain ⟨x0,x1,xz0,xz1⟩:=id s3
   obtain ⟨a0,a1,a2,az0,az1,az2⟩:=id qa
   have jc:Kp W9 W9.drew:=Kp.drew (Kp.refl W9)
   go_region_held3 (fun w'=>w'.cell? ⟨Bx,0,none⟩=some (.int .u64 Z1)∧w'.cell? ⟨Bx,1,none⟩=some (.int .u64 Z2)∧w'.cell? ⟨Ba,0,none⟩=some (.bool s1)∧w'.cell? ⟨Ba,1,none⟩=some (.slice p1 l1 c1)∧w'.cell? ⟨Ba,2,none⟩=some (.slice q1 k1 d1)) (first | (with_reducible exact ⟨x0,x1,a0,a1,a2⟩) | (exact ⟨kkeep jc x0,kkeep jc x1,kkeep jc a0,kkeep jc a1,kkeep jc a2⟩)) (first | (go_at_call 28;refine (hsh w7 _ s7 p7 l7 c7 q7 k7 d7 h7 i7).mono ?_;rintro e wh ⟨rfl,gh⟩;replace jc:=Kp.trans jc gh;(first | (replace i7:=Kp.trans i7 gh) | skip)) | (go_at_call 36;refine (hst _).mono ?_;rintro e wt ⟨rfl,gt⟩;replace jc:=Kp.trans jc gt;(first | (replace i7:=Kp.trans i7 gt) | skip)) | (go_at_call 37;refine (hsp _ s1 p1 l1 c1 q1 k1 d1 (kA _ _ s1 p1 l1 c1 q1 k1 d1 ha jc)).mono ?_;rintro e w7 ⟨s7,p7,l7,c7,q7,k7,d7,rfl,h7,g7⟩;replace jc:=Kp.trans jc g7;(first | (replace i7:=Kp.trans i7 g7) | skip);have i7:Kp w7 w7:=Kp.refl w7) | (go_at_call 20;refine (hXi _).mono ?_;rintro e w1 ⟨rfl,g1⟩;replace jc:=Kp.trans jc g1;(first | (replace i7:=Kp.trans i7 g1) | skip)))
   all_goals (
    go_wp2
    exact ⟨⟨k9+1,by omega,by go_num,Kp.trans gr jc⟩,by simp [intOf];omega⟩)
  ·have i1:¬ ((k9:Int)<6):=by omega
   go_wp2_with (first | (go_at_call 10;refine (hlv _ (hT.kp kW2)).mono ?_;rintro e wx ⟨rfl,gx⟩))
   exact BR (v:=.bool true) (by simp [results,Tryz.results5,go_sem]) rfl ⟨rfl,(Kp.trans kW2 gx)⟩

end Go.Proofs.YtcfnialfpblfmaaGreatDoor
