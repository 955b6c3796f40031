import Derived.Test.YtmpjcknaelgnoaaGreatDoorKRVa
set_option maxHeartbeats 4000000
set_option maxRecDepth 20000
namespace Go.Proofs.YtmpjcknaelgnoaaGreatDoor
open Go.RowKit
set_option linter.unusedVariables false
set_option linter.unusedSimpArgs false
theorem withE_ (ia ib:Int) (oa ob:Bool) s p l c q k d s2 p2 l2 c2 q2 k2 d2 (hE:KC 72 #[] (.agg #[.int .u64 9218868437227405312,.int .u64 18442240474082181120])) (w:World):Calls Tryz.prog 92 #[.agg #[.int .u64 9218868437227405312,.int .u64 18442240474082181120],.agg #[.bool false,.int .i64 ia,.bool s,.slice p l c,.slice q k d,.int .i64 1,.bool oa,.int .i64 ib,.bool s2,.slice p2 l2 c2,.slice q2 k2 d2,.int .i64 1,.bool ob]] w fun e w'=>e=.returned (.agg #[.int .u64 9218868437227405312,.int .u64 18442240474082181120])∧Kp w w':=by
 go_enter Tryz.func92,Tryz.ntmps92
 go_upto_region 1 with fail
 have kw:Kp w (((w.alloc (.cells #[.int .u64 9218868437227405312,.int .u64 18442240474082181120] 24)).alloc (.cells #[.bool false,.int .i64 ia,.bool s,.slice p l c,.slice q k d,.int .i64 1,.bool oa,.int .i64 ib,.bool s2,.slice p2 l2 c2,.slice q2 k2 d2,.int .i64 1,.bool ob] 61)).alloc (.cells #[.int .u64 0,.int .u64 0] 24)):=(((Kp.refl w).alloc _).alloc _).alloc _
 have hX:BK (((w.alloc (.cells #[.int .u64 9218868437227405312,.int .u64 18442240474082181120] 24)).alloc (.cells #[.bool false,.int .i64 ia,.bool s,.slice p l c,.slice q k d,.int .i64 1,.bool oa,.int .i64 ib,.bool s2,.slice p2 l2 c2,.slice q2 k2 d2,.int .i64 1,.bool ob] 61)).alloc (.cells #[.int .u64 0,.int .u64 0] 24)) w.heap.size #[.int .u64 9218868437227405312,.int .u64 18442240474082181120] 24:=((BK.new w #[.int .u64 9218868437227405312,.int .u64 18442240474082181120] 24).kp ((Kp.refl _).alloc _)).kp ((Kp.refl _).alloc _)
 have hP:BK (((w.alloc (.cells #[.int .u64 9218868437227405312,.int .u64 18442240474082181120] 24)).alloc (.cells #[.bool false,.int .i64 ia,.bool s,.slice p l c,.slice q k d,.int .i64 1,.bool oa,.int .i64 ib,.bool s2,.slice p2 l2 c2,.slice q2 k2 d2,.int .i64 1,.bool ob] 61)).alloc (.cells #[.int .u64 0,.int .u64 0] 24)) (w.heap.size+1) #[.bool false,.int .i64 ia,.bool s,.slice p l c,.slice q k d,.int .i64 1,.bool oa,.int .i64 ib,.bool s2,.slice p2 l2 c2,.slice q2 k2 d2,.int .i64 1,.bool ob] 61:=(BK.newAt (by simp) _ _).kp ((Kp.refl _).alloc _)
 have hR:BK (((w.alloc (.cells #[.int .u64 9218868437227405312,.int .u64 18442240474082181120] 24)).alloc (.cells #[.bool false,.int .i64 ia,.bool s,.slice p l c,.slice q k d,.int .i64 1,.bool oa,.int .i64 ib,.bool s2,.slice p2 l2 c2,.slice q2 k2 d2,.int .i64 1,.bool ob] 61)).alloc (.cells #[.int .u64 0,.int .u64 0] 24)) (w.heap.size+2) #[.int .u64 0,.int .u64 0] 24:=BK.newAt (by simp) _ _
 generalize (((w.alloc (.cells #[.int .u64 9218868437227405312,.int .u64 18442240474082181120] 24)).alloc (.cells #[.bool false,.int .i64 ia,.bool s,.slice p l c,.slice q k d,.int .i64 1,.bool oa,.int .i64 ib,.bool s2,.slice p2 l2 c2,.slice q2 k2 d2,.int .i64 1,.bool ob] 61)).alloc (.cells #[.int .u64 0,.int .u64 0] 24))=W at kw hX hP hR ⊢
 have xw0:W.cell? ⟨w.heap.size,0,none⟩=some (.int .u64 9218868437227405312):=(hX.cell 0).trans rfl
 have xw1:W.cell? ⟨w.heap.size,1,none⟩=some (.int .u64 18442240474082181120):=(hX.cell 1).trans rfl
 have xw2:W.cell? ⟨w.heap.size+1,0,none⟩=some (.bool false):=(hP.cell 0).trans rfl
 have dw0:W.drew.cell? ⟨w.heap.size,0,none⟩=some (.int .u64 9218868437227405312):=xw0
 have dw1:W.drew.cell? ⟨w.heap.size,1,none⟩=some (.int .u64 18442240474082181120):=xw1
 have dw2:W.drew.cell? ⟨w.heap.size+1,0,none⟩=some (.bool false):=xw2
 go_region_held3 (fun w'=>w'.cell? ⟨w.heap.size,0,none⟩=some (.int .u64 9218868437227405312)∧w'.cell? ⟨w.heap.size,1,none⟩=some (.int .u64 18442240474082181120)∧w'.cell? ⟨w.heap.size+1,0,none⟩=some (.bool false)) (first | (with_reducible exact ⟨xw0,xw1,xw2⟩) | (with_reducible exact ⟨dw0,dw1,dw2⟩) | (with_reducible exact ⟨wA0,wA1,wA2⟩)) (first | (go_at_call 72;refine (hE _).mono ?_;rintro e wA ⟨rfl,gA⟩;have kA:Kp W wA:=Kp.trans (Kp.drew (Kp.refl _)) gA;have wA0:=kkeep kA xw0;have wA1:=kkeep kA xw1;have wA2:=kkeep kA xw2))
 replace kw:=Kp.trans kw kA
 replace hX:=hX.kp kA
 replace hP:=hP.kp kA
 replace hR:=hR.kp kA
 clear xw0 xw1 xw2 dw0 dw1 dw2 kA gA wA0 wA1 wA2
 generalize hWA:wA=W at kw hX hP hR ⊢
 clear hWA
 obtain ⟨z0,zz0,z1,zz1⟩:=(show BK W (w.heap.size+2) #[.int .u64 0,.int .u64 0] _ from hR).c2;skip
 go_wp2_with (first | (go_at_call 72;refine (hE _).mono ?_;rintro e w2 ⟨rfl,g2⟩;replace hR:=hR.kp g2;obtain ⟨r0,rz0,r1,rz1⟩:=(show BK w2 (w.heap.size+2) #[.int .u64 0,.int .u64 0] _ from hR).c2;skip))
 exact BR (v:=.agg #[.int .u64 9218868437227405312,.int .u64 18442240474082181120]) (by simp [results,Tryz.results92,go_sem,r0,r1]) rfl ⟨rfl,(((Kp.trans kw g2).setCell (by first | omega | (simp <;> omega)) _).setCell (by first | omega | (simp <;> omega)) _)⟩

theorem cm3 {r c:Int} (h:r<0 ↔ c<0) (g:0≤c):¬ r<0:=by omega
theorem cm4 {r c:Int} (h:0<r ↔ 0<c) (g:c≤0):¬ 0<r:=by omega
theorem tri0 {r c:Int} (a:r<0 ↔ c<0) (b:0<r ↔ 0<c) (h:c=0):r=0:=by omega
theorem tril {r c:Int} (b:0<r ↔ 0<c) (h:c<0):¬ 0<r:=by omega
theorem trig {r c:Int} (a:r<0 ↔ c<0) (h:0<c):¬ r<0:=by omega
theorem trin {r c:Int} (a:r<0 ↔ c<0) (h:c<0):(r == 0)=false:=by simp;omega
theorem trip {r c:Int} (b:0<r ↔ 0<c) (h:0<c):(r == 0)=false:=by simp;omega
theorem withX_ (X1 X2 ca cb:Int) (ia ib:Int) (oa ob:Bool) s p l c q k d s2 p2 l2 c2 q2 k2 d2 (hE:KC 72 #[] (.agg #[.int .u64 9218868437227405312,.int .u64 18442240474082181120])) (w:World) (t0:(X1 == 9218868437227405312)=false) (h1:∀ W:World,Kp w W→Calls Tryz.prog 145 #[.int .u64 X1,.agg #[.int .i64 ib,.bool s2,.slice p2 l2 c2,.slice q2 k2 d2,.int .i64 1,.bool ob]] W fun e w'=>∃ r:Int,e=.returned (.int .i64 r)∧(r<0 ↔ ca<0)∧(0<r ↔ 0<ca)∧Kp W w') (h2:∀ W:World,Kp w W→Calls Tryz.prog 145 #[.int .u64 X2,.agg #[.int .i64 ia,.bool s,.slice p l c,.slice q k d,.int .i64 1,.bool oa]] W fun e w'=>∃ r:Int,e=.returned (.int .i64 r)∧(r<0 ↔ cb<0)∧(0<r ↔ 0<cb)∧Kp W w') (u:0<ca∨(ca=0∧ob=true)∨((ca<0∨(ca=0∧ob=false))∧(cb<0∨(cb=0∧oa=true)))):Calls Tryz.prog 92 #[.agg #[.int .u64 X1,.int .u64 X2],.agg #[.bool false,.int .i64 ia,.bool s,.slice p l c,.slice q k d,.int .i64 1,.bool oa,.int .i64 ib,.bool s2,.slice p2 l2 c2,.slice q2 k2 d2,.int .i64 1,.bool ob]] w fun e w'=>e=.returned (.agg #[.int .u64 9218868437227405312,.int .u64 18442240474082181120])∧Kp w w':=by
 go_enter Tryz.func92,Tryz.ntmps92
 go_upto_region 1 with fail
 have kw:Kp w (((w.alloc (.cells #[.int .u64 X1,.int .u64 X2] 24)).alloc (.cells #[.bool false,.int .i64 ia,.bool s,.slice p l c,.slice q k d,.int .i64 1,.bool oa,.int .i64 ib,.bool s2,.slice p2 l2 c2,.slice q2 k2 d2,.int .i64 1,.bool ob] 61)).alloc (.cells #[.int .u64 0,.int .u64 0] 24)):=(((Kp.refl w).alloc _).alloc _).alloc _
 have hX:BK (((w.alloc (.cells #[.int .u64 X1,.int .u64 X2] 24)).alloc (.cells #[.bool false,.int .i64 ia,.bool s,.slice p l c,.slice q k d,.int .i64 1,.bool oa,.int .i64 ib,.bool s2,.slice p2 l2 c2,.slice q2 k2 d2,.int .i64 1,.bool ob] 61)).alloc (.cells #[.int .u64 0,.int .u64 0] 24)) w.heap.size #[.int .u64 X1,.int .u64 X2] 24:=((BK.new w #[.int .u64 X1,.int .u64 X2] 24).kp ((Kp.refl _).alloc _)).kp ((Kp.refl _).alloc _)
 have hP:BK (((w.alloc (.cells #[.int .u64 X1,.int .u64 X2] 24)).alloc (.cells #[.bool false,.int .i64 ia,.bool s,.slice p l c,.slice q k d,.int .i64 1,.bool oa,.int .i64 ib,.bool s2,.slice p2 l2 c2,.slice q2 k2 d2,.int .i64 1,.bool ob] 61)).alloc (.cells #[.int .u64 0,.int .u64 0] 24)) (w.heap.size+1) #[.bool false,.int .i64 ia,.bool s,.slice p l c,.slice q k d,.int .i64 1,.bool oa,.int .i64 ib,.bool s2,.slice p2 l2 c2,.slice q2 k2 d2,.int .i64 1,.bool ob] 61:=(BK.newAt (by simp) _ _).kp ((Kp.refl _).alloc _)
 have hR:BK (((w.alloc (.cells #[.int .u64 X1,.int .u64 X2] 24)).alloc (.cells #[.bool false,.int .i64 ia,.bool s,.slice p l c,.slice q k d,.int .i64 1,.bool oa,.int .i64 ib,.bool s2,.slice p2 l2 c2,.slice q2 k2 d2,.int .i64 1,.bool ob] 61)).alloc (.cells #[.int .u64 0,.int .u64 0] 24)) (w.heap.size+2) #[.int .u64 0,.int .u64 0] 24:=BK.newAt (by simp) _ _
 generalize (((w.alloc (.cells #[.int .u64 X1,.int .u64 X2] 24)).alloc (.cells #[.bool false,.int .i64 ia,.bool s,.slice p l c,.slice q k d,.int .i64 1,.bool oa,.int .i64 ib,.bool s2,.slice p2 l2 c2,.slice q2 k2 d2,.int .i64 1,.bool ob] 61)).alloc (.cells #[.int .u64 0,.int .u64 0] 24))=W at kw hX hP hR ⊢
 have xw0:W.cell? ⟨w.heap.size,0,none⟩=some (.int .u64 X1):=(hX.cell 0).trans rfl
 have xw1:W.cell? ⟨w.heap.size,1,none⟩=some (.int .u64 X2):=(hX.cell 1).trans rfl
 have xw2:W.cell? ⟨w.heap.size+1,0,none⟩=some (.bool false):=(hP.cell 0).trans rfl
 have dw0:W.drew.cell? ⟨w.heap.size,0,none⟩=some (.int .u64 X1):=xw0
 have dw1:W.drew.cell? ⟨w.heap.size,1,none⟩=some (.int .u64 X2):=xw1
 have dw2:W.drew.cell? ⟨w.heap.size+1,0,none⟩=some (.bool false):=xw2
 go_region_held3 (fun w'=>w'.cell? ⟨w.heap.size,0,none⟩=some (.int .u64 X1)∧w'.cell? ⟨w.heap.size,1,none⟩=some (.int .u64 X2)∧w'.cell? ⟨w.heap.size+1,0,none⟩=some (.bool false)) (first | (with_reducible exact ⟨xw0,xw1,xw2⟩) | (with_reducible exact ⟨dw0,dw1,dw2⟩) | (with_reducible exact ⟨wA0,wA1,wA2⟩)) (first | (go_at_call 72;refine (hE _).mono ?_;rintro e wA ⟨rfl,gA⟩;have kA:Kp W wA:=Kp.trans (Kp.drew (Kp.refl _)) gA;have wA0:=kkeep kA xw0;have wA1:=kkeep kA xw1;have wA2:=kkeep kA xw2))
 replace kw:=Kp.trans kw kA
 replace hX:=hX.kp kA
 replace hP:=hP.kp kA
 replace hR:=hR.kp kA
 clear xw0 xw1 xw2 dw0 dw1 dw2 kA gA wA0 wA1 wA2
 generalize hWA:wA=W at kw hX hP hR ⊢
 clear hWA
 obtain ⟨x00,x0z0,x01,x0z1⟩:=(show BK W (w.heap.size) #[.int .u64 X1,.int .u64 X2] _ from hX).c2;obtain ⟨p00,p0z0,p01,p0z1,p02,p0z2,p03,p0z3,p04,p0z4,p05,p0z5,p06,p0z6,p07,p0z7,p08,p0z8,p09,p0z9,p010,p0z10,p011,p0z11,p012,p0z12⟩:=(show BK W (w.heap.size+1) #[.bool false,.int .i64 ia,.bool s,.slice p l c,.slice q k d,.int .i64 1,.bool oa,.int .i64 ib,.bool s2,.slice p2 l2 c2,.slice q2 k2 d2,.int .i64 1,.bool ob] _ from hP).c13;obtain ⟨z00,z0z0,z01,z0z1⟩:=(show BK W (w.heap.size+2) #[.int .u64 0,.int .u64 0] _ from hR).c2;skip
 go_upto_region 5 with (first | (have z9:=q1a;clear z9;go_at_call 145;refine (h2 _ kw).mono ?_;rintro e w2 ⟨r2,rfl,q2a,q2b,g2⟩;replace hX:=hX.kp g2;replace hP:=hP.kp g2;replace hR:=hR.kp g2;replace kw:=Kp.trans kw g2;obtain ⟨x20,x2z0,x21,x2z1⟩:=(show BK w2 (w.heap.size) #[.int .u64 X1,.int .u64 X2] _ from hX).c2;obtain ⟨p20,p2z0,p21,p2z1,p22,p2z2,p23,p2z3,p24,p2z4,p25,p2z5,p26,p2z6,p27,p2z7,p28,p2z8,p29,p2z9,p210,p2z10,p211,p2z11,p212,p2z12⟩:=(show BK w2 (w.heap.size+1) #[.bool false,.int .i64 ia,.bool s,.slice p l c,.slice q k d,.int .i64 1,.bool oa,.int .i64 ib,.bool s2,.slice p2 l2 c2,.slice q2 k2 d2,.int .i64 1,.bool ob] _ from hP).c13;obtain ⟨z20,z2z0,z21,z2z1⟩:=(show BK w2 (w.heap.size+2) #[.int .u64 0,.int .u64 0] _ from hR).c2;skip) | (go_at_call 145;refine (h1 _ kw).mono ?_;rintro e w1 ⟨r1,rfl,q1a,q1b,g1⟩;replace hX:=hX.kp g1;replace hP:=hP.kp g1;replace hR:=hR.kp g1;replace kw:=Kp.trans kw g1;obtain ⟨x10,x1z0,x11,x1z1⟩:=(show BK w1 (w.heap.size) #[.int .u64 X1,.int .u64 X2] _ from hX).c2;obtain ⟨p10,p1z0,p11,p1z1,p12,p1z2,p13,p1z3,p14,p1z4,p15,p1z5,p16,p1z6,p17,p1z7,p18,p1z8,p19,p1z9,p110,p1z10,p111,p1z11,p112,p1z12⟩:=(show BK w1 (w.heap.size+1) #[.bool false,.int .i64 ia,.bool s,.slice p l c,.slice q k d,.int .i64 1,.bool oa,.int .i64 ib,.bool s2,.slice p2 l2 c2,.slice q2 k2 d2,.int .i64 1,.bool ob] _ from hP).c13;obtain ⟨z10,z1z0,z11,z1z1⟩:=(show BK w1 (w.heap.size+2) #[.int .u64 0,.int .u64 0] _ from hR).c2;skip))
 generalize hW2:w2=W at kw hX hP hR ⊢
 clear hW2
 obtain ⟨x50,x5z0,x51,x5z1⟩:=(show BK W (w.heap.size) #[.int .u64 X1,.int .u64 X2] _ from hX).c2;obtain ⟨p50,p5z0,p51,p5z1,p52,p5z2,p53,p5z3,p54,p5z4,p55,p5z5,p56,p5z6,p57,p5z7,p58,p5z8,p59,p5z9,p510,p5z10,p511,p5z11,p512,p5z12⟩:=(show BK W (w.heap.size+1) #[.bool false,.int .i64 ia,.bool s,.slice p l c,.slice q k d,.int .i64 1,.bool oa,.int .i64 ib,.bool s2,.slice p2 l2 c2,.slice q2 k2 d2,.int .i64 1,.bool ob] _ from hP).c13;obtain ⟨z50,z5z0,z51,z5z1⟩:=(show BK W (w.heap.size+2) #[.int .u64 0,.int .u64 0] _ from hR).c2;skip
 go_cut [49] (fun s49 wx=>s49=.bool true∧wx=W)
 case first =>
  rcases u with u1 | ⟨u1,rfl⟩ | ⟨u1,u2⟩
  ·have t1:0<r1:=q1b.2 u1
   go_wp2
   go_meet
   exact ⟨rfl,rfl⟩
  ·obtain rfl:r1=0:=tri0 q1a q1b u1
   go_wp2
   go_meet
   exact ⟨rfl,rfl⟩
  ·rcases u1 with u1 | ⟨u1,rfl⟩ <;> rcases u2 with u2 | ⟨u2,rfl⟩
   ·have t1:¬ 0<r1:=tril q1b u1;have t1q:(r1 == 0)=false:=trin q1a u1;have t2:r2<0:=q2a.2 u2;clear q1a q1b q2a q2b u1 u2;go_wp2;go_meet;exact ⟨rfl,rfl⟩
   ·have t1:¬ 0<r1:=tril q1b u1;have t1q:(r1 == 0)=false:=trin q1a u1;obtain rfl:r2=0:=tri0 q2a q2b u2;clear q1a q1b q2a q2b u1 u2;go_wp2;go_meet;exact ⟨rfl,rfl⟩
   ·obtain rfl:r1=0:=tri0 q1a q1b u1;have t2:r2<0:=q2a.2 u2;clear q1a q1b q2a q2b u1 u2;go_wp2;go_meet;exact ⟨rfl,rfl⟩
   ·obtain rfl:r1=0:=tri0 q1a q1b u1;obtain rfl:r2=0:=tri0 q2a q2b u2;clear q1a q1b q2a q2b u1 u2;go_wp2;go_meet;exact ⟨rfl,rfl⟩
 case rest =>
 obtain ⟨rfl,hwc⟩:=hcut
 rw [hwc]
 clear hwc wc
 go_wp2_with (first | (go_at_call 72;refine (hE _).mono ?_;rintro e w3 ⟨rfl,g3⟩;replace hR:=hR.kp g3;obtain ⟨r0,rz0,r1,rz1⟩:=(show BK w3 (w.heap.size+2) #[.int .u64 0,.int .u64 0] _ from hR).c2;skip))
 exact BR (v:=.agg #[.int .u64 9218868437227405312,.int .u64 18442240474082181120]) (by simp [results,Tryz.results92,go_sem,r0,r1]) rfl ⟨rfl,(((Kp.trans kw g3).setCell (by first | omega | (simp <;> omega)) _).setCell (by first | omega | (simp <;> omega)) _)⟩
theorem withK_ (X1 X2 ca cb cc cd Z1 Z2 Y1 Y2:Int) (ia ib:Int) (oa ob:Bool) s p l c q k d s2 p2 l2 c2 q2 k2 d2 (hE:KC 72 #[] (.agg #[.int .u64 9218868437227405312,.int .u64 18442240474082181120])) (w:World) (t0:(X1 == 9218868437227405312)=false) (h1:∀ W:World,Kp w W→Calls Tryz.prog 145 #[.int .u64 X1,.agg #[.int .i64 ib,.bool s2,.slice p2 l2 c2,.slice q2 k2 d2,.int .i64 1,.bool ob]] W fun e w'=>∃ r:Int,e=.returned (.int .i64 r)∧(r<0 ↔ ca<0)∧(0<r ↔ 0<ca)∧Kp W w') (h2:∀ W:World,Kp w W→Calls Tryz.prog 145 #[.int .u64 X2,.agg #[.int .i64 ia,.bool s,.slice p l c,.slice q k d,.int .i64 1,.bool oa]] W fun e w'=>∃ r:Int,e=.returned (.int .i64 r)∧(r<0 ↔ cb<0)∧(0<r ↔ 0<cb)∧Kp W w') (h3:∀ W:World,Kp w W→Calls Tryz.prog 145 #[.int .u64 X1,.agg #[.int .i64 ia,.bool s,.slice p l c,.slice q k d,.int .i64 1,.bool oa]] W fun e w'=>∃ r:Int,e=.returned (.int .i64 r)∧(r<0 ↔ cc<0)∧(0<r ↔ 0<cc)∧Kp W w') (h4:∀ W:World,Kp w W→Calls Tryz.prog 145 #[.int .u64 X2,.agg #[.int .i64 ib,.bool s2,.slice p2 l2 c2,.slice q2 k2 d2,.int .i64 1,.bool ob]] W fun e w'=>∃ r:Int,e=.returned (.int .i64 r)∧(r<0 ↔ cd<0)∧(0<r ↔ 0<cd)∧Kp W w') (hra:cc<0→∀ W:World,Kp w W→Calls Tryz.prog 146 #[.int .i64 (-1),.agg #[.int .i64 ia,.bool s,.slice p l c,.slice q k d,.int .i64 1,.bool oa]] W fun e w'=>e=.returned (.int .u64 Z1)∧Kp W w') (hrb:0<cd→∀ W:World,Kp w W→Calls Tryz.prog 146 #[.int .i64 1,.agg #[.int .i64 ib,.bool s2,.slice p2 l2 c2,.slice q2 k2 d2,.int .i64 1,.bool ob]] W fun e w'=>e=.returned (.int .u64 Z2)∧Kp W w') (u1:ca<0∨(ca=0∧ob=false)) (u2:0<cb∨(cb=0∧oa=false)) (u3:(cc<0∧Z1=Y1)∨(0≤cc∧X1=Y1)) (u4:(0<cd∧Z2=Y2)∨(cd≤0∧X2=Y2)):Calls Tryz.prog 92 #[.agg #[.int .u64 X1,.int .u64 X2],.agg #[.bool false,.int .i64 ia,.bool s,.slice p l c,.slice q k d,.int .i64 1,.bool oa,.int .i64 ib,.bool s2,.slice p2 l2 c2,.slice q2 k2 d2,.int .i64 1,.bool ob]] w fun e w'=>e=.returned (.agg #[.int .u64 Y1,.int .u64 Y2])∧Kp w w':=by
 go_enter Tryz.func92,Tryz.ntmps92
 go_upto_region 1 with fail
 have kw:Kp w (((w.alloc (.cells #[.int .u64 X1,.int .u64 X2] 24)).alloc (.cells #[.bool false,.int .i64 ia,.bool s,.slice p l c,.slice q k d,.int .i64 1,.bool oa,.int .i64 ib,.bool s2,.slice p2 l2 c2,.slice q2 k2 d2,.int .i64 1,.bool ob] 61)).alloc (.cells #[.int .u64 0,.int .u64 0] 24)):=(((Kp.refl w).alloc _).alloc _).alloc _
 have hX:BK (((w.alloc (.cells #[.int .u64 X1,.int .u64 X2] 24)).alloc (.cells #[.bool false,.int .i64 ia,.bool s,.slice p l c,.slice q k d,.int .i64 1,.bool oa,.int .i64 ib,.bool s2,.slice p2 l2 c2,.slice q2 k2 d2,.int .i64 1,.bool ob] 61)).alloc (.cells #[.int .u64 0,.int .u64 0] 24)) w.heap.size #[.int .u64 X1,.int .u64 X2] 24:=((BK.new w #[.int .u64 X1,.int .u64 X2] 24).kp ((Kp.refl _).alloc _)).kp ((Kp.refl _).alloc _)
 have hP:BK (((w.alloc (.cells #[.int .u64 X1,.int .u64 X2] 24)).alloc (.cells #[.bool false,.int .i64 ia,.bool s,.slice p l c,.slice q k d,.int .i64 1,.bool oa,.int .i64 ib,.bool s2,.slice p2 l2 c2,.slice q2 k2 d2,.int .i64 1,.bool ob] 61)).alloc (.cells #[.int .u64 0,.int .u64 0] 24)) (w.heap.size+1) #[.bool false,.int .i64 ia,.bool s,.slice p l c,.slice q k d,.int .i64 1,.bool oa,.int .i64 ib,.bool s2,.slice p2 l2 c2,.slice q2 k2 d2,.int .i64 1,.bool ob] 61:=(BK.newAt (by simp) _ _).kp ((Kp.refl _).alloc _)
 have hR:BK (((w.alloc (.cells #[.int .u64 X1,.int .u64 X2] 24)).alloc (.cells #[.bool false,.int .i64 ia,.bool s,.slice p l c,.slice q k d,.int .i64 1,.bool oa,.int .i64 ib,.bool s2,.slice p2 l2 c2,.slice q2 k2 d2,.int .i64 1,.bool ob] 61)).alloc (.cells #[.int .u64 0,.int .u64 0] 24)) (w.heap.size+2) #[.int .u64 0,.int .u64 0] 24:=BK.newAt (by simp) _ _
 generalize (((w.alloc (.cells #[.int .u64 X1,.int .u64 X2] 24)).alloc (.cells #[.bool false,.int .i64 ia,.bool s,.slice p l c,.slice q k d,.int .i64 1,.bool oa,.int .i64 ib,.bool s2,.slice p2 l2 c2,.slice q2 k2 d2,.int .i64 1,.bool ob] 61)).alloc (.cells #[.int .u64 0,.int .u64 0] 24))=W at kw hX hP hR ⊢
 have xw0:W.cell? ⟨w.heap.size,0,none⟩=some (.int .u64 X1):=(hX.cell 0).trans rfl
 have xw1:W.cell? ⟨w.heap.size,1,none⟩=some (.int .u64 X2):=(hX.cell 1).trans rfl
 have xw2:W.cell? ⟨w.heap.size+1,0,none⟩=some (.bool false):=(hP.cell 0).trans rfl
 have dw0:W.drew.cell? ⟨w.heap.size,0,none⟩=some (.int .u64 X1):=xw0
 have dw1:W.drew.cell? ⟨w.heap.size,1,none⟩=some (.int .u64 X2):=xw1
 have dw2:W.drew.cell? ⟨w.heap.size+1,0,none⟩=some (.bool false):=xw2
 go_region_held3 (fun w'=>w'.cell? ⟨w.heap.size,0,none⟩=some (.int .u64 X1)∧w'.cell? ⟨w.heap.size,1,none⟩=some (.int .u64 X2)∧w'.cell? ⟨w.heap.size+1,0,none⟩=some (.bool false)) (first | (with_reducible exact ⟨xw0,xw1,xw2⟩) | (with_reducible exact ⟨dw0,dw1,dw2⟩) | (with_reducible exact ⟨wA0,wA1,wA2⟩)) (first | (go_at_call 72;refine (hE _).mono ?_;rintro e wA ⟨rfl,gA⟩;have kA:Kp W wA:=Kp.trans (Kp.drew (Kp.refl _)) gA;have wA0:=kkeep kA xw0;have wA1:=kkeep kA xw1;have wA2:=kkeep kA xw2))
 replace kw:=Kp.trans kw kA
 replace hX:=hX.kp kA
 replace hP:=hP.kp kA
 replace hR:=hR.kp kA
 clear xw0 xw1 xw2 dw0 dw1 dw2 kA gA wA0 wA1 wA2
 generalize hWA:wA=W at kw hX hP hR ⊢
 clear hWA
 obtain ⟨x00,x0z0,x01,x0z1⟩:=(show BK W (w.heap.size) #[.int .u64 X1,.int .u64 X2] _ from hX).c2;obtain ⟨p00,p0z0,p01,p0z1,p02,p0z2,p03,p0z3,p04,p0z4,p05,p0z5,p06,p0z6,p07,p0z7,p08,p0z8,p09,p0z9,p010,p0z10,p011,p0z11,p012,p0z12⟩:=(show BK W (w.heap.size+1) #[.bool false,.int .i64 ia,.bool s,.slice p l c,.slice q k d,.int .i64 1,.bool oa,.int .i64 ib,.bool s2,.slice p2 l2 c2,.slice q2 k2 d2,.int .i64 1,.bool ob] _ from hP).c13;obtain ⟨z00,z0z0,z01,z0z1⟩:=(show BK W (w.heap.size+2) #[.int .u64 0,.int .u64 0] _ from hR).c2;skip
 go_upto_region 5 with (first | (have z9:=q1a;clear z9;go_at_call 145;refine (h2 _ kw).mono ?_;rintro e w2 ⟨r2,rfl,q2a,q2b,g2⟩;replace hX:=hX.kp g2;replace hP:=hP.kp g2;replace hR:=hR.kp g2;replace kw:=Kp.trans kw g2;obtain ⟨x20,x2z0,x21,x2z1⟩:=(show BK w2 (w.heap.size) #[.int .u64 X1,.int .u64 X2] _ from hX).c2;obtain ⟨p20,p2z0,p21,p2z1,p22,p2z2,p23,p2z3,p24,p2z4,p25,p2z5,p26,p2z6,p27,p2z7,p28,p2z8,p29,p2z9,p210,p2z10,p211,p2z11,p212,p2z12⟩:=(show BK w2 (w.heap.size+1) #[.bool false,.int .i64 ia,.bool s,.slice p l c,.slice q k d,.int .i64 1,.bool oa,.int .i64 ib,.bool s2,.slice p2 l2 c2,.slice q2 k2 d2,.int .i64 1,.bool ob] _ from hP).c13;obtain ⟨z20,z2z0,z21,z2z1⟩:=(show BK w2 (w.heap.size+2) #[.int .u64 0,.int .u64 0] _ from hR).c2;skip) | (go_at_call 145;refine (h1 _ kw).mono ?_;rintro e w1 ⟨r1,rfl,q1a,q1b,g1⟩;replace hX:=hX.kp g1;replace hP:=hP.kp g1;replace hR:=hR.kp g1;replace kw:=Kp.trans kw g1;obtain ⟨x10,x1z0,x11,x1z1⟩:=(show BK w1 (w.heap.size) #[.int .u64 X1,.int .u64 X2] _ from hX).c2;obtain ⟨p10,p1z0,p11,p1z1,p12,p1z2,p13,p1z3,p14,p1z4,p15,p1z5,p16,p1z6,p17,p1z7,p18,p1z8,p19,p1z9,p110,p1z10,p111,p1z11,p112,p1z12⟩:=(show BK w1 (w.heap.size+1) #[.bool false,.int .i64 ia,.bool s,.slice p l c,.slice q k d,.int .i64 1,.bool oa,.int .i64 ib,.bool s2,.slice p2 l2 c2,.slice q2 k2 d2,.int .i64 1,.bool ob] _ from hP).c13;obtain ⟨z10,z1z0,z11,z1z1⟩:=(show BK w1 (w.heap.size+2) #[.int .u64 0,.int .u64 0] _ from hR).c2;skip))
 generalize hW2:w2=W at kw hX hP hR ⊢
 clear hW2
 obtain ⟨x50,x5z0,x51,x5z1⟩:=(show BK W (w.heap.size) #[.int .u64 X1,.int .u64 X2] _ from hX).c2;obtain ⟨p50,p5z0,p51,p5z1,p52,p5z2,p53,p5z3,p54,p5z4,p55,p5z5,p56,p5z6,p57,p5z7,p58,p5z8,p59,p5z9,p510,p5z10,p511,p5z11,p512,p5z12⟩:=(show BK W (w.heap.size+1) #[.bool false,.int .i64 ia,.bool s,.slice p l c,.slice q k d,.int .i64 1,.bool oa,.int .i64 ib,.bool s2,.slice p2 l2 c2,.slice q2 k2 d2,.int .i64 1,.bool ob] _ from hP).c13;obtain ⟨z50,z5z0,z51,z5z1⟩:=(show BK W (w.heap.size+2) #[.int .u64 0,.int .u64 0] _ from hR).c2;skip
 go_cut [49] (fun s49 wx=>s49=.bool false∧wx=W)
 case first =>
  rcases u1 with u1 | ⟨u1,rfl⟩ <;> rcases u2 with u2 | ⟨u2,rfl⟩
  ·have t1:¬ 0<r1:=tril q1b u1;have t1q:(r1 == 0)=false:=trin q1a u1;have t2:¬ r2<0:=trig q2a u2;have t2q:(r2 == 0)=false:=trip q2b u2;clear q1a q1b q2a q2b u1 u2;go_wp2;go_meet;exact ⟨rfl,rfl⟩
  ·have t1:¬ 0<r1:=tril q1b u1;have t1q:(r1 == 0)=false:=trin q1a u1;obtain rfl:r2=0:=tri0 q2a q2b u2;clear q1a q1b q2a q2b u1 u2;go_wp2;go_meet;exact ⟨rfl,rfl⟩
  ·obtain rfl:r1=0:=tri0 q1a q1b u1;have t2:¬ r2<0:=trig q2a u2;have t2q:(r2 == 0)=false:=trip q2b u2;clear q1a q1b q2a q2b u1 u2;go_wp2;go_meet;exact ⟨rfl,rfl⟩
  ·obtain rfl:r1=0:=tri0 q1a q1b u1;obtain rfl:r2=0:=tri0 q2a q2b u2;clear q1a q1b q2a q2b u1 u2;go_wp2;go_meet;exact ⟨rfl,rfl⟩
 case rest =>
 obtain ⟨rfl,hwc⟩:=hcut
 rw [hwc]
 clear hwc wc
 clear q1a q1b q2a q2b u1 u2
 generalize hwq:W=w2 at kw hX hP hR ⊢
 clear hwq
 obtain ⟨x60,x6z0,x61,x6z1⟩:=(show BK w2 (w.heap.size) #[.int .u64 X1,.int .u64 X2] _ from hX).c2;obtain ⟨p60,p6z0,p61,p6z1,p62,p6z2,p63,p6z3,p64,p6z4,p65,p6z5,p66,p6z6,p67,p6z7,p68,p6z8,p69,p6z9,p610,p6z10,p611,p6z11,p612,p6z12⟩:=(show BK w2 (w.heap.size+1) #[.bool false,.int .i64 ia,.bool s,.slice p l c,.slice q k d,.int .i64 1,.bool oa,.int .i64 ib,.bool s2,.slice p2 l2 c2,.slice q2 k2 d2,.int .i64 1,.bool ob] _ from hP).c13;obtain ⟨z60,z6z0,z61,z6z1⟩:=(show BK w2 (w.heap.size+2) #[.int .u64 0,.int .u64 0] _ from hR).c2;skip
 go_upto_region 8 with fail
 have ky:Kp w2 (w2.alloc (.cells #[.int .u64 X1,.int .u64 X2] 24)):=(Kp.refl _).alloc _
 have hY:BK (w2.alloc (.cells #[.int .u64 X1,.int .u64 X2] 24)) w2.heap.size #[.int .u64 X1,.int .u64 X2] 24:=BK.new _ _ _
 have hle:w.heap.size≤w2.heap.size:=Below.size kw
 have hlt:=hR.lt
 replace kw:=Kp.trans kw ky
 replace hX:=hX.kp ky;replace hP:=hP.kp ky;replace hR:=hR.kp ky
 generalize (w2.alloc (.cells #[.int .u64 X1,.int .u64 X2] 24))=W3 at kw hX hP hR hY ⊢
 generalize w2.heap.size=yb at hY hle hlt ⊢
 have hn0:yb≠w.heap.size:=by omega
 have hn1:yb≠w.heap.size+1:=by omega
 have hn2:yb≠w.heap.size+2:=by omega
 obtain ⟨xc0,xcz0,xc1,xcz1⟩:=(show BK W3 (w.heap.size) #[.int .u64 X1,.int .u64 X2] _ from hX).c2;obtain ⟨pc0,pcz0,pc1,pcz1,pc2,pcz2,pc3,pcz3,pc4,pcz4,pc5,pcz5,pc6,pcz6,pc7,pcz7,pc8,pcz8,pc9,pcz9,pc10,pcz10,pc11,pcz11,pc12,pcz12⟩:=(show BK W3 (w.heap.size+1) #[.bool false,.int .i64 ia,.bool s,.slice p l c,.slice q k d,.int .i64 1,.bool oa,.int .i64 ib,.bool s2,.slice p2 l2 c2,.slice q2 k2 d2,.int .i64 1,.bool ob] _ from hP).c13;obtain ⟨zc0,zcz0,zc1,zcz1⟩:=(show BK W3 (w.heap.size+2) #[.int .u64 0,.int .u64 0] _ from hR).c2;obtain ⟨yc0,ycz0,yc1,ycz1⟩:=(show BK W3 (yb) #[.int .u64 X1,.int .u64 X2] _ from hY).c2;skip
 rcases u3 with ⟨u3,rfl⟩ | ⟨u3,rfl⟩
 ·go_upto_region 10 with (first | (have z9:=t3;clear z9;go_at_call 146;refine (hra u3 _ kw).mono ?_;rintro e wa ⟨rfl,ga⟩;replace hX:=hX.kp ga;replace hP:=hP.kp ga;replace hR:=hR.kp ga;replace hY:=hY.kp ga;replace kw:=Kp.trans kw ga;obtain ⟨sa0,saz0,sa1,saz1⟩:=(show BK wa (yb) #[.int .u64 X1,.int .u64 X2] _ from hY).c2;skip) | (go_at_call 145;refine (h3 _ kw).mono ?_;rintro e w3 ⟨r3,rfl,q3a,q3b,g3⟩;replace hX:=hX.kp g3;replace hP:=hP.kp g3;replace hR:=hR.kp g3;replace hY:=hY.kp g3;replace kw:=Kp.trans kw g3;(have t3:=q3a.2 u3);obtain ⟨xa0,xaz0,xa1,xaz1⟩:=(show BK w3 (w.heap.size) #[.int .u64 X1,.int .u64 X2] _ from hX).c2;obtain ⟨pa0,paz0,pa1,paz1,pa2,paz2,pa3,paz3,pa4,paz4,pa5,paz5,pa6,paz6,pa7,paz7,pa8,paz8,pa9,paz9,pa10,paz10,pa11,paz11,pa12,paz12⟩:=(show BK w3 (w.heap.size+1) #[.bool false,.int .i64 ia,.bool s,.slice p l c,.slice q k d,.int .i64 1,.bool oa,.int .i64 ib,.bool s2,.slice p2 l2 c2,.slice q2 k2 d2,.int .i64 1,.bool ob] _ from hP).c13;obtain ⟨za0,zaz0,za1,zaz1⟩:=(show BK w3 (w.heap.size+2) #[.int .u64 0,.int .u64 0] _ from hR).c2;obtain ⟨ya0,yaz0,ya1,yaz1⟩:=(show BK w3 (yb) #[.int .u64 X1,.int .u64 X2] _ from hY).c2;skip))
  replace kw:=kw.setCell (p:=⟨yb,0,none⟩) hle (.int .u64 Z1)
  replace hX:=hX.far ⟨yb,0,none⟩ (.int .u64 Z1) hn0
  replace hP:=hP.far ⟨yb,0,none⟩ (.int .u64 Z1) hn1
  replace hR:=hR.far ⟨yb,0,none⟩ (.int .u64 Z1) hn2
  replace hY:BK (wa.setCell ⟨yb,0,none⟩ (.int .u64 Z1)) yb #[.int .u64 Z1,.int .u64 X2] 24:=hY.put 0 _
  generalize wa.setCell ⟨yb,0,none⟩ (.int .u64 Z1)=W4 at kw hX hP hR hY ⊢
  obtain ⟨xb0,xbz0,xb1,xbz1⟩:=(show BK W4 (w.heap.size) #[.int .u64 X1,.int .u64 X2] _ from hX).c2;obtain ⟨pb0,pbz0,pb1,pbz1,pb2,pbz2,pb3,pbz3,pb4,pbz4,pb5,pbz5,pb6,pbz6,pb7,pbz7,pb8,pbz8,pb9,pbz9,pb10,pbz10,pb11,pbz11,pb12,pbz12⟩:=(show BK W4 (w.heap.size+1) #[.bool false,.int .i64 ia,.bool s,.slice p l c,.slice q k d,.int .i64 1,.bool oa,.int .i64 ib,.bool s2,.slice p2 l2 c2,.slice q2 k2 d2,.int .i64 1,.bool ob] _ from hP).c13;obtain ⟨zb0,zbz0,zb1,zbz1⟩:=(show BK W4 (w.heap.size+2) #[.int .u64 0,.int .u64 0] _ from hR).c2;obtain ⟨yb0,ybz0,yb1,ybz1⟩:=(show BK W4 (yb) #[.int .u64 Z1,.int .u64 X2] _ from hY).c2;skip
  rcases u4 with ⟨u4,rfl⟩ | ⟨u4,rfl⟩
  ·go_upto_region 12 with (first | (have z9:=t4;clear z9;go_at_call 146;refine (hrb u4 _ kw).mono ?_;rintro e wa ⟨rfl,ga⟩;replace hX:=hX.kp ga;replace hP:=hP.kp ga;replace hR:=hR.kp ga;replace hY:=hY.kp ga;replace kw:=Kp.trans kw ga;obtain ⟨sa0,saz0,sa1,saz1⟩:=(show BK wa (yb) #[.int .u64 Z1,.int .u64 X2] _ from hY).c2;skip) | (go_at_call 145;refine (h4 _ kw).mono ?_;rintro e w4 ⟨r4,rfl,q4a,q4b,g4⟩;replace hX:=hX.kp g4;replace hP:=hP.kp g4;replace hR:=hR.kp g4;replace hY:=hY.kp g4;replace kw:=Kp.trans kw g4;(have t4:=q4b.2 u4);obtain ⟨xa0,xaz0,xa1,xaz1⟩:=(show BK w4 (w.heap.size) #[.int .u64 X1,.int .u64 X2] _ from hX).c2;obtain ⟨pa0,paz0,pa1,paz1,pa2,paz2,pa3,paz3,pa4,paz4,pa5,paz5,pa6,paz6,pa7,paz7,pa8,paz8,pa9,paz9,pa10,paz10,pa11,paz11,pa12,paz12⟩:=(show BK w4 (w.heap.size+1) #[.bool false,.int .i64 ia,.bool s,.slice p l c,.slice q k d,.int .i64 1,.bool oa,.int .i64 ib,.bool s2,.slice p2 l2 c2,.slice q2 k2 d2,.int .i64 1,.bool ob] _ from hP).c13;obtain ⟨za0,zaz0,za1,zaz1⟩:=(show BK w4 (w.heap.size+2) #[.int .u64 0,.int .u64 0] _ from hR).c2;obtain ⟨ya0,yaz0,ya1,yaz1⟩:=(show BK w4 (yb) #[.int .u64 Z1,.int .u64 X2] _ from hY).c2;skip))
   replace kw:=kw.setCell (p:=⟨yb,1,none⟩) hle (.int .u64 Z2)
   replace hX:=hX.far ⟨yb,1,none⟩ (.int .u64 Z2) hn0
   replace hP:=hP.far ⟨yb,1,none⟩ (.int .u64 Z2) hn1
   replace hR:=hR.far ⟨yb,1,none⟩ (.int .u64 Z2) hn2
   replace hY:BK (wa.setCell ⟨yb,1,none⟩ (.int .u64 Z2)) yb #[.int .u64 Z1,.int .u64 Z2] 24:=hY.put 1 _
   generalize wa.setCell ⟨yb,1,none⟩ (.int .u64 Z2)=W5 at kw hX hP hR hY ⊢
   obtain ⟨y0,yz0,y1,yz1⟩:=(show BK W5 (yb) #[.int .u64 Z1,.int .u64 Z2] _ from hY).c2;obtain ⟨r0,rz0,r1,rz1⟩:=(show BK W5 (w.heap.size+2) #[.int .u64 0,.int .u64 0] _ from hR).c2;skip
   go_wp2
   exact BR (v:=.agg #[.int .u64 Z1,.int .u64 Z2]) (by simp [results,Tryz.results92,go_sem,r0,r1]) rfl ⟨rfl,((kw.setCell (by first | omega | (simp <;> omega)) _).setCell (by first | omega | (simp <;> omega)) _)⟩
  ·go_upto_region 12 with (first | (go_at_call 145;refine (h4 _ kw).mono ?_;rintro e w4 ⟨r4,rfl,q4a,q4b,g4⟩;replace hX:=hX.kp g4;replace hP:=hP.kp g4;replace hR:=hR.kp g4;replace hY:=hY.kp g4;replace kw:=Kp.trans kw g4;(have t4:=cm4 q4b u4);obtain ⟨xa0,xaz0,xa1,xaz1⟩:=(show BK w4 (w.heap.size) #[.int .u64 X1,.int .u64 X2] _ from hX).c2;obtain ⟨pa0,paz0,pa1,paz1,pa2,paz2,pa3,paz3,pa4,paz4,pa5,paz5,pa6,paz6,pa7,paz7,pa8,paz8,pa9,paz9,pa10,paz10,pa11,paz11,pa12,paz12⟩:=(show BK w4 (w.heap.size+1) #[.bool false,.int .i64 ia,.bool s,.slice p l c,.slice q k d,.int .i64 1,.bool oa,.int .i64 ib,.bool s2,.slice p2 l2 c2,.slice q2 k2 d2,.int .i64 1,.bool ob] _ from hP).c13;obtain ⟨za0,zaz0,za1,zaz1⟩:=(show BK w4 (w.heap.size+2) #[.int .u64 0,.int .u64 0] _ from hR).c2;obtain ⟨ya0,yaz0,ya1,yaz1⟩:=(show BK w4 (yb) #[.int .u64 Z1,.int .u64 X2] _ from hY).c2;skip))
   generalize w4=W5 at kw hX hP hR hY ⊢
   obtain ⟨y0,yz0,y1,yz1⟩:=(show BK W5 (yb) #[.int .u64 Z1,.int .u64 X2] _ from hY).c2;obtain ⟨r0,rz0,r1,rz1⟩:=(show BK W5 (w.heap.size+2) #[.int .u64 0,.int .u64 0] _ from hR).c2;skip
   go_wp2
   exact BR (v:=.agg #[.int .u64 Z1,.int .u64 X2]) (by simp [results,Tryz.results92,go_sem,r0,r1]) rfl ⟨rfl,((kw.setCell (by first | omega | (simp <;> omega)) _).setCell (by first | omega | (simp <;> omega)) _)⟩
 ·go_upto_region 10 with (first | (go_at_call 145;refine (h3 _ kw).mono ?_;rintro e w3 ⟨r3,rfl,q3a,q3b,g3⟩;replace hX:=hX.kp g3;replace hP:=hP.kp g3;replace hR:=hR.kp g3;replace hY:=hY.kp g3;replace kw:=Kp.trans kw g3;(have t3:=cm3 q3a u3);obtain ⟨xa0,xaz0,xa1,xaz1⟩:=(show BK w3 (w.heap.size) #[.int .u64 X1,.int .u64 X2] _ from hX).c2;obtain ⟨pa0,paz0,pa1,paz1,pa2,paz2,pa3,paz3,pa4,paz4,pa5,paz5,pa6,paz6,pa7,paz7,pa8,paz8,pa9,paz9,pa10,paz10,pa11,paz11,pa12,paz12⟩:=(show BK w3 (w.heap.size+1) #[.bool false,.int .i64 ia,.bool s,.slice p l c,.slice q k d,.int .i64 1,.bool oa,.int .i64 ib,.bool s2,.slice p2 l2 c2,.slice q2 k2 d2,.int .i64 1,.bool ob] _ from hP).c13;obtain ⟨za0,zaz0,za1,zaz1⟩:=(show BK w3 (w.heap.size+2) #[.int .u64 0,.int .u64 0] _ from hR).c2;obtain ⟨ya0,yaz0,ya1,yaz1⟩:=(show BK w3 (yb) #[.int .u64 X1,.int .u64 X2] _ from hY).c2;skip))
  generalize w3=W4 at kw hX hP hR hY ⊢
  obtain ⟨xb0,xbz0,xb1,xbz1⟩:=(show BK W4 (w.heap.size) #[.int .u64 X1,.int .u64 X2] _ from hX).c2;obtain ⟨pb0,pbz0,pb1,pbz1,pb2,pbz2,pb3,pbz3,pb4,pbz4,pb5,pbz5,pb6,pbz6,pb7,pbz7,pb8,pbz8,pb9,pbz9,pb10,pbz10,pb11,pbz11,pb12,pbz12⟩:=(show BK W4 (w.heap.size+1) #[.bool false,.int .i64 ia,.bool s,.slice p l c,.slice q k d,.int .i64 1,.bool oa,.int .i64 ib,.bool s2,.slice p2 l2 c2,.slice q2 k2 d2,.int .i64 1,.bool ob] _ from hP).c13;obtain ⟨zb0,zbz0,zb1,zbz1⟩:=(show BK W4 (w.heap.size+2) #[.int .u64 0,.int .u64 0] _ from hR).c2;obtain ⟨yb0,ybz0,yb1,ybz1⟩:=(show BK W4 (yb) #[.int .u64 X1,.int .u64 X2] _ from hY).c2;skip
  rcases u4 with ⟨u4,rfl⟩ | ⟨u4,rfl⟩
  ·go_upto_region 12 with (first | (have z9:=t4;clear z9;go_at_call 146;refine (hrb u4 _ kw).mono ?_;rintro e wa ⟨rfl,ga⟩;replace hX:=hX.kp ga;replace hP:=hP.kp ga;replace hR:=hR.kp ga;replace hY:=hY.kp ga;replace kw:=Kp.trans kw ga;obtain ⟨sa0,saz0,sa1,saz1⟩:=(show BK wa (yb) #[.int .u64 X1,.int .u64 X2] _ from hY).c2;skip) | (go_at_call 145;refine (h4 _ kw).mono ?_;rintro e w4 ⟨r4,rfl,q4a,q4b,g4⟩;replace hX:=hX.kp g4;replace hP:=hP.kp g4;replace hR:=hR.kp g4;replace hY:=hY.kp g4;replace kw:=Kp.trans kw g4;(have t4:=q4b.2 u4);obtain ⟨xa0,xaz0,xa1,xaz1⟩:=(show BK w4 (w.heap.size) #[.int .u64 X1,.int .u64 X2] _ from hX).c2;obtain ⟨pa0,paz0,pa1,paz1,pa2,paz2,pa3,paz3,pa4,paz4,pa5,paz5,pa6,paz6,pa7,paz7,pa8,paz8,pa9,paz9,pa10,paz10,pa11,paz11,pa12,paz12⟩:=(show BK w4 (w.heap.size+1) #[.bool false,.int .i64 ia,.bool s,.slice p l c,.slice q k d,.int .i64 1,.bool oa,.int .i64 ib,.bool s2,.slice p2 l2 c2,.slice q2 k2 d2,.int .i64 1,.bool ob] _ from hP).c13;obtain ⟨za0,zaz0,za1,zaz1⟩:=(show BK w4 (w.heap.size+2) #[.int .u64 0,.int .u64 0] _ from hR).c2;obtain ⟨ya0,yaz0,ya1,yaz1⟩:=(show BK w4 (yb) #[.int .u64 X1,.int .u64 X2] _ from hY).c2;skip))
   replace kw:=kw.setCell (p:=⟨yb,1,none⟩) hle (.int .u64 Z2)
   replace hX:=hX.far ⟨yb,1,none⟩ (.int .u64 Z2) hn0
   replace hP:=hP.far ⟨yb,1,none⟩ (.int .u64 Z2) hn1
   replace hR:=hR.far ⟨yb,1,none⟩ (.int .u64 Z2) hn2
   replace hY:BK (wa.setCell ⟨yb,1,none⟩ (.int .u64 Z2)) yb #[.int .u64 X1,.int .u64 Z2] 24:=hY.put 1 _
   generalize wa.setCell ⟨yb,1,none⟩ (.int .u64 Z2)=W5 at kw hX hP hR hY ⊢
   obtain ⟨y0,yz0,y1,yz1⟩:=(show BK W5 (yb) #[.int .u64 X1,.int .u64 Z2] _ from hY).c2;obtain ⟨r0,rz0,r1,rz1⟩:=(show BK W5 (w.heap.size+2) #[.int .u64 0,.int .u64 0] _ from hR).c2;skip
   go_wp2
   exact BR (v:=.agg #[.int .u64 X1,.int .u64 Z2]) (by simp [results,Tryz.results92,go_sem,r0,r1]) rfl ⟨rfl,((kw.setCell (by first | omega | (simp <;> omega)) _).setCell (by first | omega | (simp <;> omega)) _)⟩
  ·go_upto_region 12 with (first | (go_at_call 145;refine (h4 _ kw).mono ?_;rintro e w4 ⟨r4,rfl,q4a,q4b,g4⟩;replace hX:=hX.kp g4;replace hP:=hP.kp g4;replace hR:=hR.kp g4;replace hY:=hY.kp g4;replace kw:=Kp.trans kw g4;(have t4:=cm4 q4b u4);obtain ⟨xa0,xaz0,xa1,xaz1⟩:=(show BK w4 (w.heap.size) #[.int .u64 X1,.int .u64 X2] _ from hX).c2;obtain ⟨pa0,paz0,pa1,paz1,pa2,paz2,pa3,paz3,pa4,paz4,pa5,paz5,pa6,paz6,pa7,paz7,pa8,paz8,pa9,paz9,pa10,paz10,pa11,paz11,pa12,paz12⟩:=(show BK w4 (w.heap.size+1) #[.bool false,.int .i64 ia,.bool s,.slice p l c,.slice q k d,.int .i64 1,.bool oa,.int .i64 ib,.bool s2,.slice p2 l2 c2,.slice q2 k2 d2,.int .i64 1,.bool ob] _ from hP).c13;obtain ⟨za0,zaz0,za1,zaz1⟩:=(show BK w4 (w.heap.size+2) #[.int .u64 0,.int .u64 0] _ from hR).c2;obtain ⟨ya0,yaz0,ya1,yaz1⟩:=(show BK w4 (yb) #[.int .u64 X1,.int .u64 X2] _ from hY).c2;skip))
   generalize w4=W5 at kw hX hP hR hY ⊢
   obtain ⟨y0,yz0,y1,yz1⟩:=(show BK W5 (yb) #[.int .u64 X1,.int .u64 X2] _ from hY).c2;obtain ⟨r0,rz0,r1,rz1⟩:=(show BK W5 (w.heap.size+2) #[.int .u64 0,.int .u64 0] _ from hR).c2;skip
   go_wp2
   exact BR (v:=.agg #[.int .u64 X1,.int .u64 X2]) (by simp [results,Tryz.results92,go_sem,r0,r1]) rfl ⟨rfl,((kw.setCell (by first | omega | (simp <;> omega)) _).setCell (by first | omega | (simp <;> omega)) _)⟩
end Go.Proofs.YtmpjcknaelgnoaaGreatDoor
