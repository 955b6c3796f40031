import Derived.Test.YtmpjcknaelgnoaaGreatDoorKEC4
set_option maxHeartbeats 1000000
set_option maxRecDepth 20000
namespace Go.Proofs.YtmpjcknaelgnoaaGreatDoor
open Go.RowKit
theorem raddEqO_ (sa sb:Bool) (a1 a2 b1 b2:Nat) (P1 P2 Q1 Q2:Option Addr) (C1 C2 D1 D2:Nat) (w:World) (h1:Arr w P1 (dig a1)) (l1:(dig a1).length≤C1) (h2:Arr w P2 (dig a2)) (l2:(dig a2).length≤C2) (h3:Arr w Q1 (dig b1)) (l3:(dig b1).length≤D1) (h4:Arr w Q2 (dig b2)) (l4:(dig b2).length≤D2) (k1:len32 a1≤4000) (k2:len32 a2≤4000) (k3:len32 b1≤4000) (k4:len32 b2≤4000) (z2:a2≠0) (z4:b2≠0) (X Y D:Nat) (hX:X=a1*b2) (hY:Y=b1*a2) (hD:D=a2*b2) (lX:len32 X≤16000) (lY:len32 Y≤16000) (lD:len32 D≤16000) (lS:len32 (X+Y)≤16000) (hst:sa=sb) :
  Calls Tryz.prog 151 #[.agg #[.bool sa,.slice P1 (dig a1).length C1,.slice P2 (dig a2).length C2],.agg #[.bool sb,.slice Q1 (dig b1).length D1,.slice Q2 (dig b2).length D2]] w fun e w'=>∃ (vn vd:Value) (a' b':Nat) (ng:Bool),e=.returned (.agg #[.bool ng,vn,vd])∧Own w' w.heap.size vn (dig a')∧Own w' w.heap.size vd (dig b')∧(FracOf (X+Y) D 0 a' b'∧(X+Y≠0→ng=sa))∧Kp w w':=by
 have hz:D≠0:=by rw [hD];exact Nat.mul_ne_zero z2 z4
 obtain ⟨E1,g1⟩:∃ E,E=(dig a1).length:=⟨_,rfl⟩
 obtain ⟨E2,g2⟩:∃ E,E=(dig a2).length:=⟨_,rfl⟩
 obtain ⟨E3,g3⟩:∃ E,E=(dig b1).length:=⟨_,rfl⟩
 obtain ⟨E4,g4⟩:∃ E,E=(dig b2).length:=⟨_,rfl⟩
 rw [← g1,← g2,← g3,← g4]
 obtain ⟨B,hB⟩:∃ B,B=w.heap.size:=⟨_,rfl⟩
 obtain ⟨wA,hwA⟩:∃ wA,wA=w.alloc (.cells #[.bool sa,.slice P1 E1 C1,.slice P2 E2 C2] 57):=⟨_,rfl⟩
 obtain ⟨wB,hwB⟩:∃ wB,wB=wA.alloc (.cells #[.bool sb,.slice Q1 E3 D1,.slice Q2 E4 D2] 57):=⟨_,rfl⟩
 obtain ⟨w0,hw0⟩:∃ w0,w0=wB.alloc (.cells #[.bool false,.slice none 0 0,.slice none 0 0] 57):=⟨_,rfl⟩
 have sA:wA.heap.size=B+1:=by rw [hwA,hB];simp
 have sB:wB.heap.size=B+2:=by rw [hwB];simp [sA]
 obtain ⟨x0,x1,x2⟩:wA.cell? ⟨B,0,none⟩=some (.bool sa)∧wA.cell? ⟨B,1,none⟩=some (.slice P1 E1 C1)∧wA.cell? ⟨B,2,none⟩=some (.slice P2 E2 C2):=by rw [hwA,hB];simp [go_sem]
 obtain ⟨y0,y1,y2⟩:wB.cell? ⟨B+1,0,none⟩=some (.bool sb)∧wB.cell? ⟨B+1,1,none⟩=some (.slice Q1 E3 D1)∧wB.cell? ⟨B+1,2,none⟩=some (.slice Q2 E4 D2):=by rw [hwB,← sA];simp [go_sem]
 obtain ⟨r0,r1,r2,f0,f1,f2⟩:w0.cell? ⟨B+2,0,none⟩=some (.bool false)∧w0.cell? ⟨B+2,1,none⟩=some (.slice none 0 0)∧w0.cell? ⟨B+2,2,none⟩=some (.slice none 0 0)∧w0.frozen? ⟨B+2,0,none⟩=false∧w0.frozen? ⟨B+2,1,none⟩=false∧w0.frozen? ⟨B+2,2,none⟩=false:=by rw [hw0,← sB];simp [go_sem]
 have kw:Kp w w0:=by rw [hw0,hwB,hwA];exact (((Kp.refl w).alloc _).alloc _).alloc _
 have kAB:Kp wA wB:=by rw [hwB];exact (Kp.refl wA).alloc _
 have kB0:Kp wB w0:=by rw [hw0];exact (Kp.refl wB).alloc _
 have kA0:Kp wA w0:=kAB.trans kB0
 have hlt:=cell_lt r0
 -- the products
 have t1:=timesR (.slice P1 E1 C1) (.slice Q2 E4 D2) a1 b2 w0 ⟨P1,C1,by rw [g1],h1.grown kw,l1⟩ ⟨Q2,D2,by rw [g4],h4.grown kw,l4⟩ (by omega) (by omega)
 have t2:=fun w9 (k:Kp w0 w9)=>timesR (.slice Q1 E3 D1) (.slice P2 E2 C2) b1 a2 w9 ⟨Q1,D1,by rw [g3],h3.grown (kw.trans k),l3⟩ ⟨P2,C2,by rw [g2],h2.grown (kw.trans k),l2⟩ (by omega) (by omega)
 have t3:=fun w9 (k:Kp w0 w9)=>timesR (.slice P2 E2 C2) (.slice Q2 E4 D2) a2 b2 w9 ⟨P2,C2,by rw [g2],h2.grown (kw.trans k),l2⟩ ⟨Q2,D2,by rw [g4],h4.grown (kw.trans k),l4⟩ (by omega) (by omega)
 rw [← hX] at t1
 rw [← hY] at t2
 rw [← hD] at t3
 have HW:Hid (w0=wB.alloc (.cells #[.bool false,.slice none 0 0,.slice none 0 0] 57)∧wB=wA.alloc (.cells #[.bool sb,.slice Q1 E3 D1,.slice Q2 E4 D2] 57)∧wA=w.alloc (.cells #[.bool sa,.slice P1 E1 C1,.slice P2 E2 C2] 57)∧B=w.heap.size∧wA.heap.size=B+1∧wB.heap.size=B+2∧Kp w w0∧Kp wA w0∧Kp wB w0):=⟨hw0,hwB,hwA,hB,sA,sB,kw,kA0,kB0⟩
 have X0:=kkeep kA0 x0
 have X1:=kkeep kA0 x1
 have X2:=kkeep kA0 x2
 have Y0:=kkeep kB0 y0
 have Y1:=kkeep kB0 y1
 have Y2:=kkeep kB0 y2
 have HL:Hid (D≠0∧len32 X≤16000∧len32 Y≤16000∧len32 D≤16000∧len32 (X+Y)≤16000):=⟨hz,lX,lY,lD,lS⟩
 clear hw0 hwB hwA hB sA sB kw kAB kB0 kA0 h1 l1 h2 l2 h3 l3 h4 l4 k1 k2 k3 k4 z2 z4 hX hY hD hz lX lY lD lS g1 g2 g3 g4 x1 x2 y1 y2
 subst hst
 go_enter Tryz.func151,Tryz.ntmps151
 go_wp2_with fail
 rw [← HW.out.2.2.2.1]
 try rw [← HW.out.2.2.1]
 try rw [← HW.out.2.1]
 try rw [← HW.out.1]
 refine t1.mono ?_;rintro e w1 ⟨p1,c1,rfl,s1,m1,k1⟩
 obtain ⟨N1,hN1⟩:∃ N,N=(dig X).length:=⟨_,rfl⟩
 rw [← hN1]
 have H1:Hid (N1=(dig X).length):=hN1
 clear hN1
 replace X0:=kkeep k1 X0
 replace X2:=kkeep k1 X2
 replace Y0:=kkeep k1 Y0
 replace Y1:=kkeep k1 Y1
 replace Y2:=kkeep k1 Y2
 have t2':=t2 w1 k1
 clear t1 t2
 go_wp2_with fail
 refine t2'.mono ?_;rintro e w2 ⟨p2,c2,rfl,s2,m2,k2⟩
 obtain ⟨N2,hN2⟩:∃ N,N=(dig Y).length:=⟨_,rfl⟩
 rw [← hN2]
 have H2:Hid (N2=(dig Y).length):=hN2
 clear hN2
 replace X0:=kkeep k2 X0
 replace X2:=kkeep k2 X2
 replace Y0:=kkeep k2 Y0
 replace Y2:=kkeep k2 Y2
 have t3':=t3 w2 (k1.trans k2)
 clear t2' t3
 go_wp2_with fail
 refine t3'.mono ?_;rintro e w3 ⟨p3,c3,rfl,s3,m3,k3⟩
 obtain ⟨N3,hN3⟩:∃ N,N=(dig D).length:=⟨_,rfl⟩
 rw [← hN3]
 have H3:Hid (N3=(dig D).length):=hN3
 clear hN3
 replace X0:=kkeep k3 X0
 replace Y0:=kkeep k3 Y0
 have k03:=(k1.trans k2).trans k3
 have HS:Hid (Ls w3 (.slice p1 N1 c1) (dig X)∧Ls w3 (.slice p2 N2 c2) (dig Y)∧Ls w3 (.slice p3 N3 c3) (dig D)):=⟨⟨p1,c1,by rw [H1.out],(s1.grown k2).grown k3,m1⟩,⟨p2,c2,by rw [H2.out],s2.grown k3,m2⟩,⟨p3,c3,by rw [H3.out],s3,m3⟩⟩
 clear t3' s1 s2 s3 m1 m2 m3 k1 k2 k3 H1 H2 H3 X1 X2 Y1 Y2
 -- the last region
 replace r0:=kkeep k03 r0
 replace r1:=kkeep k03 r1
 replace r2:=kkeep k03 r2
 replace f0:=(kfro k03 hlt).trans f0
 replace f1:=(kfro k03 hlt).trans f1
 replace f2:=(kfro k03 hlt).trans f2
 have hlt3:=cell_lt r0
 have kS:Kp wA w3:=HW.out.2.2.2.2.2.2.2.1.trans k03
 have kD:Kp wA w3.drew:=kS.drew
 have hge:wA.heap.size≤(⟨B+2,0,none⟩:Addr).block:=by have:=HW.out.2.2.2.2.1;have:=HW.out.2.2.2.2.2.1;simp only;omega
 have HP:Hid (∀ W,Kp w3 W→Calls Tryz.prog 168 #[.slice p1 N1 c1,.slice p2 N2 c2] W fun e w'=>∃ p c,e=.returned (.slice p (dig (X+Y)).length c)∧Arr w' p (dig (X+Y))∧(dig (X+Y)).length≤c∧Kp W w'):=fun W kk=>plusR _ _ X Y W (HS.out.1.kp kk) (HS.out.2.1.kp kk) (by have:=HL.out;omega) (by have:=HL.out;omega)
 have HFR:Hid (∀ (p:Option Addr) (c:Nat) (W:World),Kp w3 W→Arr W p (dig (X+Y))→(dig (X+Y)).length≤c→Calls Tryz.prog 132 #[.bool sa,.slice p (dig (X+Y)).length c,.slice p3 N3 c3,.int .i64 0] W fun e w'=>∃ (vn vd:Value) (a' b':Nat) (ng:Bool),e=.returned (.agg #[.bool ng,vn,vd])∧Own w' W.heap.size vn (dig a')∧Own w' W.heap.size vd (dig b')∧(FracOf (X+Y) D 0 a' b'∧(X+Y≠0→ng=sa))∧Kp W w'):=by
  show ∀ (p:Option Addr) (c:Nat) (W:World),Kp w3 W→Arr W p (dig (X+Y))→(dig (X+Y)).length≤c→Calls Tryz.prog 132 #[.bool sa,.slice p (dig (X+Y)).length c,.slice p3 N3 c3,.int .i64 0] W fun e w'=>∃ (vn vd:Value) (a' b':Nat) (ng:Bool),e=.returned (.agg #[.bool ng,vn,vd])∧Own w' W.heap.size vn (dig a')∧Own w' W.heap.size vd (dig b')∧(FracOf (X+Y) D 0 a' b'∧(X+Y≠0→ng=sa))∧Kp W w'
  intro p c W kk ar ll
  obtain ⟨z,q1,q2,q3,q4⟩:=HL.out
  have g:=frac_ sa (.slice p (dig (X+Y)).length c) (.slice p3 N3 c3) (dig (X+Y)) (dig D) 0 W ⟨p,c,rfl,ar,ll⟩ (HS.out.2.2.kp kk) (Wd_dig _) (Wd_dig _) (by change len32 _≤_;omega) (by change len32 _≤_;omega) (by rw [val_dig];exact z) (by decide)
  rw [val_dig,val_dig] at g
  exact g
 obtain ⟨NX,hNX⟩:∃ N,N=(dig (X+Y)).length:=⟨_,rfl⟩
 rw [← hNX] at HP HFR
 clear hNX
 go_upto_region 5 with fail
 go_region_held3 (fun w'=>w'.cell? ⟨B,0,none⟩=some (.bool sa)) ((refine kkeep (W:=wA) ?_ x0;(repeat (first | with_reducible exact kB | with_reducible exact kA | with_reducible exact kD | with_reducible exact Kp.refl _ | with_reducible refine Kp.drew ?_ | refine Kp.setCell ?_ hge _));done)) (first | (go_at_call 132;have hh:=ar1;refine (HFR.out pp cc _ ?q1 ?q2 ll1).mono ?_;(case q1=>(repeat (first | with_reducible exact kk1 | with_reducible exact Kp.refl _ | with_reducible refine Kp.drew ?_));done);(case q2=>exact ar1);rintro e v2 ⟨vn,vd,a',b',ng,rfl,o1,o2,ff,k12⟩;have kk2:Kp w3 v2:=kk1.trans k12;have kB:Kp wA v2:=kS.trans kk2;obtain ⟨pn,cn,rfl,an,ln⟩:=o1.arr;obtain ⟨pd,cd,rfl,ad,ld⟩:=o2.arr;have R0:=kkeep kk2 r0;have R1:=kkeep kk2 r1;have R2:=kkeep kk2 r2;have F0:=(kfro kk2 hlt3).trans f0;have F1:=(kfro kk2 hlt3).trans f1;have F2:=(kfro kk2 hlt3).trans f2) | (go_at_call 168;refine (HP.out _ ?q3).mono ?_;(case q3=>(repeat (first | with_reducible exact Kp.refl _ | with_reducible refine Kp.drew ?_));done);rintro e v1 ⟨pp,cc,rfl,ar1,ll1,k01⟩;have kk1:Kp w3 v1:=Kp.trans ?q4 k01;(case q4=>(repeat (first | with_reducible exact Kp.refl _ | with_reducible refine Kp.drew ?_));done);have kA:Kp wA v1:=kS.trans kk1))
 have hs1:=Below.size kk1
 obtain ⟨wz,hwz⟩:∃ wz,wz=((v2.setCell ⟨B+2,0,none⟩ (.bool ng)).setCell ⟨B+2,1,none⟩ (.slice pn (dig a').length cn)).setCell ⟨B+2,2,none⟩ (.slice pd (dig b').length cd):=⟨_,rfl⟩
 have kb:Kb (B+2) v2 wz:=by rw [hwz];exact (((Kb.refl (B+2) v2).setCell 0 _).setCell 1 _).setCell 2 _
 have O1:=o1.kb kb (fun g hg=>by have:=o1.lt g hg;omega)
 have O2:=o2.kb kb (fun g hg=>by have:=o2.lt g hg;omega)
 have hkw:Kp w wz:=kb.kp ((HW.out.2.2.2.2.2.2.1.trans k03).trans kk2) (by rw [HW.out.2.2.2.1];omega)
 have HO:Hid (Own wz w.heap.size (.slice pn (dig a').length cn) (dig a')∧Own wz w.heap.size (.slice pd (dig b').length cd) (dig b')∧(FracOf (X+Y) D 0 a' b'∧(X+Y≠0→ng=sa))∧Kp w wz∧wz=((v2.setCell ⟨B+2,0,none⟩ (.bool ng)).setCell ⟨B+2,1,none⟩ (.slice pn (dig a').length cn)).setCell ⟨B+2,2,none⟩ (.slice pd (dig b').length cd)):=⟨O1.mono (by have e9:=HW.out.2.2.2.1;first | omega | exact Nat.le_trans (show w.heap.size≤v1.heap.size by omega) (Nat.le_refl _)),O2.mono (by have e9:=HW.out.2.2.2.1;first | omega | exact Nat.le_trans (show w.heap.size≤v1.heap.size by omega) (Nat.le_refl _)),ff,hkw,hwz⟩
 clear hs1 hwz kb O1 O2 hkw o1 o2 ff k12 kk2 kB an ln ad ld kk1 k01 kA ar1 ll1 HP HFR HS HL kS kD hge k03
 go_wp2
 obtain ⟨q1,q2,q3,q4,q5⟩:=HO.out
 rw [q5] at q1 q2 q4
 exact BR (v:=.agg #[.bool ng,.slice pn (dig a').length cn,.slice pd (dig b').length cd]) (by simp [results,Tryz.results151,go_sem,R0,R1,R2]) rfl ⟨_,_,a',b',ng,rfl,q1,q2,q3,q4⟩
theorem raddGeO_ (sa sb:Bool) (a1 a2 b1 b2:Nat) (P1 P2 Q1 Q2:Option Addr) (C1 C2 D1 D2:Nat) (w:World) (h1:Arr w P1 (dig a1)) (l1:(dig a1).length≤C1) (h2:Arr w P2 (dig a2)) (l2:(dig a2).length≤C2) (h3:Arr w Q1 (dig b1)) (l3:(dig b1).length≤D1) (h4:Arr w Q2 (dig b2)) (l4:(dig b2).length≤D2) (k1:len32 a1≤4000) (k2:len32 a2≤4000) (k3:len32 b1≤4000) (k4:len32 b2≤4000) (z2:a2≠0) (z4:b2≠0) (X Y D:Nat) (hX:X=a1*b2) (hY:Y=b1*a2) (hD:D=a2*b2) (lX:len32 X≤16000) (lY:len32 Y≤16000) (lD:len32 D≤16000) (lS:len32 (X+Y)≤16000) (hst:sa≠sb) (hle:Y≤X) :
  Calls Tryz.prog 151 #[.agg #[.bool sa,.slice P1 (dig a1).length C1,.slice P2 (dig a2).length C2],.agg #[.bool sb,.slice Q1 (dig b1).length D1,.slice Q2 (dig b2).length D2]] w fun e w'=>∃ (vn vd:Value) (a' b':Nat) (ng:Bool),e=.returned (.agg #[.bool ng,vn,vd])∧Own w' w.heap.size vn (dig a')∧Own w' w.heap.size vd (dig b')∧(FracOf (X - Y) D 0 a' b'∧(X - Y≠0→ng=sa))∧Kp w w':=by
 have hz:D≠0:=by rw [hD];exact Nat.mul_ne_zero z2 z4
 obtain ⟨E1,g1⟩:∃ E,E=(dig a1).length:=⟨_,rfl⟩
 obtain ⟨E2,g2⟩:∃ E,E=(dig a2).length:=⟨_,rfl⟩
 obtain ⟨E3,g3⟩:∃ E,E=(dig b1).length:=⟨_,rfl⟩
 obtain ⟨E4,g4⟩:∃ E,E=(dig b2).length:=⟨_,rfl⟩
 rw [← g1,← g2,← g3,← g4]
 obtain ⟨B,hB⟩:∃ B,B=w.heap.size:=⟨_,rfl⟩
 obtain ⟨wA,hwA⟩:∃ wA,wA=w.alloc (.cells #[.bool sa,.slice P1 E1 C1,.slice P2 E2 C2] 57):=⟨_,rfl⟩
 obtain ⟨wB,hwB⟩:∃ wB,wB=wA.alloc (.cells #[.bool sb,.slice Q1 E3 D1,.slice Q2 E4 D2] 57):=⟨_,rfl⟩
 obtain ⟨w0,hw0⟩:∃ w0,w0=wB.alloc (.cells #[.bool false,.slice none 0 0,.slice none 0 0] 57):=⟨_,rfl⟩
 have sA:wA.heap.size=B+1:=by rw [hwA,hB];simp
 have sB:wB.heap.size=B+2:=by rw [hwB];simp [sA]
 obtain ⟨x0,x1,x2⟩:wA.cell? ⟨B,0,none⟩=some (.bool sa)∧wA.cell? ⟨B,1,none⟩=some (.slice P1 E1 C1)∧wA.cell? ⟨B,2,none⟩=some (.slice P2 E2 C2):=by rw [hwA,hB];simp [go_sem]
 obtain ⟨y0,y1,y2⟩:wB.cell? ⟨B+1,0,none⟩=some (.bool sb)∧wB.cell? ⟨B+1,1,none⟩=some (.slice Q1 E3 D1)∧wB.cell? ⟨B+1,2,none⟩=some (.slice Q2 E4 D2):=by rw [hwB,← sA];simp [go_sem]
 obtain ⟨r0,r1,r2,f0,f1,f2⟩:w0.cell? ⟨B+2,0,none⟩=some (.bool false)∧w0.cell? ⟨B+2,1,none⟩=some (.slice none 0 0)∧w0.cell? ⟨B+2,2,none⟩=some (.slice none 0 0)∧w0.frozen? ⟨B+2,0,none⟩=false∧w0.frozen? ⟨B+2,1,none⟩=false∧w0.frozen? ⟨B+2,2,none⟩=false:=by rw [hw0,← sB];simp [go_sem]
 have kw:Kp w w0:=by rw [hw0,hwB,hwA];exact (((Kp.refl w).alloc _).alloc _).alloc _
 have kAB:Kp wA wB:=by rw [hwB];exact (Kp.refl wA).alloc _
 have kB0:Kp wB w0:=by rw [hw0];exact (Kp.refl wB).alloc _
 have kA0:Kp wA w0:=kAB.trans kB0
 have hlt:=cell_lt r0
 -- the products
 have t1:=timesR (.slice P1 E1 C1) (.slice Q2 E4 D2) a1 b2 w0 ⟨P1,C1,by rw [g1],h1.grown kw,l1⟩ ⟨Q2,D2,by rw [g4],h4.grown kw,l4⟩ (by omega) (by omega)
 have t2:=fun w9 (k:Kp w0 w9)=>timesR (.slice Q1 E3 D1) (.slice P2 E2 C2) b1 a2 w9 ⟨Q1,D1,by rw [g3],h3.grown (kw.trans k),l3⟩ ⟨P2,C2,by rw [g2],h2.grown (kw.trans k),l2⟩ (by omega) (by omega)
 have t3:=fun w9 (k:Kp w0 w9)=>timesR (.slice P2 E2 C2) (.slice Q2 E4 D2) a2 b2 w9 ⟨P2,C2,by rw [g2],h2.grown (kw.trans k),l2⟩ ⟨Q2,D2,by rw [g4],h4.grown (kw.trans k),l4⟩ (by omega) (by omega)
 rw [← hX] at t1
 rw [← hY] at t2
 rw [← hD] at t3
 have HW:Hid (w0=wB.alloc (.cells #[.bool false,.slice none 0 0,.slice none 0 0] 57)∧wB=wA.alloc (.cells #[.bool sb,.slice Q1 E3 D1,.slice Q2 E4 D2] 57)∧wA=w.alloc (.cells #[.bool sa,.slice P1 E1 C1,.slice P2 E2 C2] 57)∧B=w.heap.size∧wA.heap.size=B+1∧wB.heap.size=B+2∧Kp w w0∧Kp wA w0∧Kp wB w0):=⟨hw0,hwB,hwA,hB,sA,sB,kw,kA0,kB0⟩
 have X0:=kkeep kA0 x0
 have X1:=kkeep kA0 x1
 have X2:=kkeep kA0 x2
 have Y0:=kkeep kB0 y0
 have Y1:=kkeep kB0 y1
 have Y2:=kkeep kB0 y2
 have HL:Hid (D≠0∧len32 X≤16000∧len32 Y≤16000∧len32 D≤16000∧len32 (X+Y)≤16000):=⟨hz,lX,lY,lD,lS⟩
 clear hw0 hwB hwA hB sA sB kw kAB kB0 kA0 h1 l1 h2 l2 h3 l3 h4 l4 k1 k2 k3 k4 z2 z4 hX hY hD hz lX lY lD lS g1 g2 g3 g4 x1 x2 y1 y2
 have est:(sa == sb)=false:=by cases sa <;> cases sb <;> simp_all
 have est':decide (sa=sb)=false:=by simp [hst]
 clear hst
 have HG:Hid (Y≤X):=hle
 clear hle
 go_enter Tryz.func151,Tryz.ntmps151
 go_wp2_with fail
 rw [← HW.out.2.2.2.1]
 try rw [← HW.out.2.2.1]
 try rw [← HW.out.2.1]
 try rw [← HW.out.1]
 refine t1.mono ?_;rintro e w1 ⟨p1,c1,rfl,s1,m1,k1⟩
 obtain ⟨N1,hN1⟩:∃ N,N=(dig X).length:=⟨_,rfl⟩
 rw [← hN1]
 have H1:Hid (N1=(dig X).length):=hN1
 clear hN1
 replace X0:=kkeep k1 X0
 replace X2:=kkeep k1 X2
 replace Y0:=kkeep k1 Y0
 replace Y1:=kkeep k1 Y1
 replace Y2:=kkeep k1 Y2
 have t2':=t2 w1 k1
 clear t1 t2
 go_wp2_with fail
 refine t2'.mono ?_;rintro e w2 ⟨p2,c2,rfl,s2,m2,k2⟩
 obtain ⟨N2,hN2⟩:∃ N,N=(dig Y).length:=⟨_,rfl⟩
 rw [← hN2]
 have H2:Hid (N2=(dig Y).length):=hN2
 clear hN2
 replace X0:=kkeep k2 X0
 replace X2:=kkeep k2 X2
 replace Y0:=kkeep k2 Y0
 replace Y2:=kkeep k2 Y2
 have t3':=t3 w2 (k1.trans k2)
 clear t2' t3
 go_wp2_with fail
 refine t3'.mono ?_;rintro e w3 ⟨p3,c3,rfl,s3,m3,k3⟩
 obtain ⟨N3,hN3⟩:∃ N,N=(dig D).length:=⟨_,rfl⟩
 rw [← hN3]
 have H3:Hid (N3=(dig D).length):=hN3
 clear hN3
 replace X0:=kkeep k3 X0
 replace Y0:=kkeep k3 Y0
 have k03:=(k1.trans k2).trans k3
 have HS:Hid (Ls w3 (.slice p1 N1 c1) (dig X)∧Ls w3 (.slice p2 N2 c2) (dig Y)∧Ls w3 (.slice p3 N3 c3) (dig D)):=⟨⟨p1,c1,by rw [H1.out],(s1.grown k2).grown k3,m1⟩,⟨p2,c2,by rw [H2.out],s2.grown k3,m2⟩,⟨p3,c3,by rw [H3.out],s3,m3⟩⟩
 clear t3' s1 s2 s3 m1 m2 m3 k1 k2 k3 H1 H2 H3 X1 X2 Y1 Y2
 have hcm:=cmpR (.slice p1 N1 c1) (.slice p2 N2 c2) X Y w3 HS.out.1 HS.out.2.1 (by have:=blen_len X 16000 HL.out.2.1;omega) (by have:=blen_len Y 16000 HL.out.2.2.1;omega)
 obtain ⟨cv9,hcv9⟩:∃ cv9,cv9=cmpN X Y:=⟨_,rfl⟩
 rw [← hcv9] at hcm
 have tcv:0≤cv9:=by
  rw [hcv9];unfold cmpN;have:=HG.out;rw [if_neg (by omega)];split <;> omega
 clear hcv9
 go_wp2_with fail
 refine hcm.mono ?_;rintro e w4 ⟨rfl,k4⟩
 clear hcm
 replace X0:=kkeep k4 X0
 replace Y0:=kkeep k4 Y0
 replace HS:Hid (Ls w4 (.slice p1 N1 c1) (dig X)∧Ls w4 (.slice p2 N2 c2) (dig Y)∧Ls w4 (.slice p3 N3 c3) (dig D)):=⟨HS.out.1.kp k4,HS.out.2.1.kp k4,HS.out.2.2.kp k4⟩
 replace k03:=k03.trans k4
 clear k4
 -- the last region
 replace r0:=kkeep k03 r0
 replace r1:=kkeep k03 r1
 replace r2:=kkeep k03 r2
 replace f0:=(kfro k03 hlt).trans f0
 replace f1:=(kfro k03 hlt).trans f1
 replace f2:=(kfro k03 hlt).trans f2
 have hlt3:=cell_lt r0
 have kS:Kp wA w4:=HW.out.2.2.2.2.2.2.2.1.trans k03
 have kD:Kp wA w4.drew:=kS.drew
 have hge:wA.heap.size≤(⟨B+2,0,none⟩:Addr).block:=by have:=HW.out.2.2.2.2.1;have:=HW.out.2.2.2.2.2.1;simp only;omega
 have HP:Hid (∀ W,Kp w4 W→Calls Tryz.prog 190 #[.slice p1 N1 c1,.slice p2 N2 c2] W fun e w'=>∃ p c,e=.returned (.slice p (dig (X - Y)).length c)∧Arr w' p (dig (X - Y))∧(dig (X - Y)).length≤c∧Kp W w'):=fun W kk=>minusR _ _ X Y W (HS.out.1.kp kk) (HS.out.2.1.kp kk) (by have:=HL.out;omega) HG.out
 have HFR:Hid (∀ (p:Option Addr) (c:Nat) (W:World),Kp w4 W→Arr W p (dig (X - Y))→(dig (X - Y)).length≤c→Calls Tryz.prog 132 #[.bool sa,.slice p (dig (X - Y)).length c,.slice p3 N3 c3,.int .i64 0] W fun e w'=>∃ (vn vd:Value) (a' b':Nat) (ng:Bool),e=.returned (.agg #[.bool ng,vn,vd])∧Own w' W.heap.size vn (dig a')∧Own w' W.heap.size vd (dig b')∧(FracOf (X - Y) D 0 a' b'∧(X - Y≠0→ng=sa))∧Kp W w'):=by
  show ∀ (p:Option Addr) (c:Nat) (W:World),Kp w4 W→Arr W p (dig (X - Y))→(dig (X - Y)).length≤c→Calls Tryz.prog 132 #[.bool sa,.slice p (dig (X - Y)).length c,.slice p3 N3 c3,.int .i64 0] W fun e w'=>∃ (vn vd:Value) (a' b':Nat) (ng:Bool),e=.returned (.agg #[.bool ng,vn,vd])∧Own w' W.heap.size vn (dig a')∧Own w' W.heap.size vd (dig b')∧(FracOf (X - Y) D 0 a' b'∧(X - Y≠0→ng=sa))∧Kp W w'
  intro p c W kk ar ll
  obtain ⟨z,q1,q2,q3,q4⟩:=HL.out
  have g:=frac_ sa (.slice p (dig (X - Y)).length c) (.slice p3 N3 c3) (dig (X - Y)) (dig D) 0 W ⟨p,c,rfl,ar,ll⟩ (HS.out.2.2.kp kk) (Wd_dig _) (Wd_dig _) (by change len32 _≤_;have:=len32_mono (Nat.sub_le X Y);omega) (by change len32 _≤_;omega) (by rw [val_dig];exact z) (by decide)
  rw [val_dig,val_dig] at g
  exact g
 obtain ⟨NX,hNX⟩:∃ N,N=(dig (X - Y)).length:=⟨_,rfl⟩
 rw [← hNX] at HP HFR
 clear hNX
 go_upto_region 7 with fail
 go_region_held3 (fun w'=>w'.cell? ⟨B,0,none⟩=some (.bool sa)) ((refine kkeep (W:=wA) ?_ x0;(repeat (first | with_reducible exact kB | with_reducible exact kA | with_reducible exact kD | with_reducible exact Kp.refl _ | with_reducible refine Kp.drew ?_ | refine Kp.setCell ?_ hge _));done)) (first | (go_at_call 132;have hh:=ar1;refine (HFR.out pp cc _ ?q1 ?q2 ll1).mono ?_;(case q1=>(repeat (first | with_reducible exact kk1 | with_reducible exact Kp.refl _ | with_reducible refine Kp.drew ?_));done);(case q2=>exact ar1);rintro e v2 ⟨vn,vd,a',b',ng,rfl,o1,o2,ff,k12⟩;have kk2:Kp w4 v2:=kk1.trans k12;have kB:Kp wA v2:=kS.trans kk2;obtain ⟨pn,cn,rfl,an,ln⟩:=o1.arr;obtain ⟨pd,cd,rfl,ad,ld⟩:=o2.arr;have R0:=kkeep kk2 r0;have R1:=kkeep kk2 r1;have R2:=kkeep kk2 r2;have F0:=(kfro kk2 hlt3).trans f0;have F1:=(kfro kk2 hlt3).trans f1;have F2:=(kfro kk2 hlt3).trans f2) | (go_at_call 190;refine (HP.out _ ?q3).mono ?_;(case q3=>(repeat (first | with_reducible exact Kp.refl _ | with_reducible refine Kp.drew ?_));done);rintro e v1 ⟨pp,cc,rfl,ar1,ll1,k01⟩;have kk1:Kp w4 v1:=Kp.trans ?q4 k01;(case q4=>(repeat (first | with_reducible exact Kp.refl _ | with_reducible refine Kp.drew ?_));done);have kA:Kp wA v1:=kS.trans kk1))
 have hs1:=Below.size kk1
 obtain ⟨wz,hwz⟩:∃ wz,wz=((v2.setCell ⟨B+2,0,none⟩ (.bool ng)).setCell ⟨B+2,1,none⟩ (.slice pn (dig a').length cn)).setCell ⟨B+2,2,none⟩ (.slice pd (dig b').length cd):=⟨_,rfl⟩
 have kb:Kb (B+2) v2 wz:=by rw [hwz];exact (((Kb.refl (B+2) v2).setCell 0 _).setCell 1 _).setCell 2 _
 have O1:=o1.kb kb (fun g hg=>by have:=o1.lt g hg;omega)
 have O2:=o2.kb kb (fun g hg=>by have:=o2.lt g hg;omega)
 have hkw:Kp w wz:=kb.kp ((HW.out.2.2.2.2.2.2.1.trans k03).trans kk2) (by rw [HW.out.2.2.2.1];omega)
 have HO:Hid (Own wz w.heap.size (.slice pn (dig a').length cn) (dig a')∧Own wz w.heap.size (.slice pd (dig b').length cd) (dig b')∧(FracOf (X - Y) D 0 a' b'∧(X - Y≠0→ng=sa))∧Kp w wz∧wz=((v2.setCell ⟨B+2,0,none⟩ (.bool ng)).setCell ⟨B+2,1,none⟩ (.slice pn (dig a').length cn)).setCell ⟨B+2,2,none⟩ (.slice pd (dig b').length cd)):=⟨O1.mono (by have e9:=HW.out.2.2.2.1;first | omega | exact Nat.le_trans (show w.heap.size≤v1.heap.size by omega) (Nat.le_refl _)),O2.mono (by have e9:=HW.out.2.2.2.1;first | omega | exact Nat.le_trans (show w.heap.size≤v1.heap.size by omega) (Nat.le_refl _)),ff,hkw,hwz⟩
 clear hs1 hwz kb O1 O2 hkw o1 o2 ff k12 kk2 kB an ln ad ld kk1 k01 kA ar1 ll1 HP HFR HS HL kS kD hge k03
 go_wp2
 obtain ⟨q1,q2,q3,q4,q5⟩:=HO.out
 rw [q5] at q1 q2 q4
 exact BR (v:=.agg #[.bool ng,.slice pn (dig a').length cn,.slice pd (dig b').length cd]) (by simp [results,Tryz.results151,go_sem,R0,R1,R2]) rfl ⟨_,_,a',b',ng,rfl,q1,q2,q3,q4⟩
theorem raddLtO_ (sa sb:Bool) (a1 a2 b1 b2:Nat) (P1 P2 Q1 Q2:Option Addr) (C1 C2 D1 D2:Nat) (w:World) (h1:Arr w P1 (dig a1)) (l1:(dig a1).length≤C1) (h2:Arr w P2 (dig a2)) (l2:(dig a2).length≤C2) (h3:Arr w Q1 (dig b1)) (l3:(dig b1).length≤D1) (h4:Arr w Q2 (dig b2)) (l4:(dig b2).length≤D2) (k1:len32 a1≤4000) (k2:len32 a2≤4000) (k3:len32 b1≤4000) (k4:len32 b2≤4000) (z2:a2≠0) (z4:b2≠0) (X Y D:Nat) (hX:X=a1*b2) (hY:Y=b1*a2) (hD:D=a2*b2) (lX:len32 X≤16000) (lY:len32 Y≤16000) (lD:len32 D≤16000) (lS:len32 (X+Y)≤16000) (hst:sa≠sb) (hle:X<Y) :
  Calls Tryz.prog 151 #[.agg #[.bool sa,.slice P1 (dig a1).length C1,.slice P2 (dig a2).length C2],.agg #[.bool sb,.slice Q1 (dig b1).length D1,.slice Q2 (dig b2).length D2]] w fun e w'=>∃ (vn vd:Value) (a' b':Nat) (ng:Bool),e=.returned (.agg #[.bool ng,vn,vd])∧Own w' w.heap.size vn (dig a')∧Own w' w.heap.size vd (dig b')∧(FracOf (Y - X) D 0 a' b'∧(Y - X≠0→ng=sb))∧Kp w w':=by
 have hz:D≠0:=by rw [hD];exact Nat.mul_ne_zero z2 z4
 obtain ⟨E1,g1⟩:∃ E,E=(dig a1).length:=⟨_,rfl⟩
 obtain ⟨E2,g2⟩:∃ E,E=(dig a2).length:=⟨_,rfl⟩
 obtain ⟨E3,g3⟩:∃ E,E=(dig b1).length:=⟨_,rfl⟩
 obtain ⟨E4,g4⟩:∃ E,E=(dig b2).length:=⟨_,rfl⟩
 rw [← g1,← g2,← g3,← g4]
 obtain ⟨B,hB⟩:∃ B,B=w.heap.size:=⟨_,rfl⟩
 obtain ⟨wA,hwA⟩:∃ wA,wA=w.alloc (.cells #[.bool sa,.slice P1 E1 C1,.slice P2 E2 C2] 57):=⟨_,rfl⟩
 obtain ⟨wB,hwB⟩:∃ wB,wB=wA.alloc (.cells #[.bool sb,.slice Q1 E3 D1,.slice Q2 E4 D2] 57):=⟨_,rfl⟩
 obtain ⟨w0,hw0⟩:∃ w0,w0=wB.alloc (.cells #[.bool false,.slice none 0 0,.slice none 0 0] 57):=⟨_,rfl⟩
 have sA:wA.heap.size=B+1:=by rw [hwA,hB];simp
 have sB:wB.heap.size=B+2:=by rw [hwB];simp [sA]
 obtain ⟨x0,x1,x2⟩:wA.cell? ⟨B,0,none⟩=some (.bool sa)∧wA.cell? ⟨B,1,none⟩=some (.slice P1 E1 C1)∧wA.cell? ⟨B,2,none⟩=some (.slice P2 E2 C2):=by rw [hwA,hB];simp [go_sem]
 obtain ⟨y0,y1,y2⟩:wB.cell? ⟨B+1,0,none⟩=some (.bool sb)∧wB.cell? ⟨B+1,1,none⟩=some (.slice Q1 E3 D1)∧wB.cell? ⟨B+1,2,none⟩=some (.slice Q2 E4 D2):=by rw [hwB,← sA];simp [go_sem]
 obtain ⟨r0,r1,r2,f0,f1,f2⟩:w0.cell? ⟨B+2,0,none⟩=some (.bool false)∧w0.cell? ⟨B+2,1,none⟩=some (.slice none 0 0)∧w0.cell? ⟨B+2,2,none⟩=some (.slice none 0 0)∧w0.frozen? ⟨B+2,0,none⟩=false∧w0.frozen? ⟨B+2,1,none⟩=false∧w0.frozen? ⟨B+2,2,none⟩=false:=by rw [hw0,← sB];simp [go_sem]
 have kw:Kp w w0:=by rw [hw0,hwB,hwA];exact (((Kp.refl w).alloc _).alloc _).alloc _
 have kAB:Kp wA wB:=by rw [hwB];exact (Kp.refl wA).alloc _
 have kB0:Kp wB w0:=by rw [hw0];exact (Kp.refl wB).alloc _
 have kA0:Kp wA w0:=kAB.trans kB0
 have hlt:=cell_lt r0
 -- the products
 have t1:=timesR (.slice P1 E1 C1) (.slice Q2 E4 D2) a1 b2 w0 ⟨P1,C1,by rw [g1],h1.grown kw,l1⟩ ⟨Q2,D2,by rw [g4],h4.grown kw,l4⟩ (by omega) (by omega)
 have t2:=fun w9 (k:Kp w0 w9)=>timesR (.slice Q1 E3 D1) (.slice P2 E2 C2) b1 a2 w9 ⟨Q1,D1,by rw [g3],h3.grown (kw.trans k),l3⟩ ⟨P2,C2,by rw [g2],h2.grown (kw.trans k),l2⟩ (by omega) (by omega)
 have t3:=fun w9 (k:Kp w0 w9)=>timesR (.slice P2 E2 C2) (.slice Q2 E4 D2) a2 b2 w9 ⟨P2,C2,by rw [g2],h2.grown (kw.trans k),l2⟩ ⟨Q2,D2,by rw [g4],h4.grown (kw.trans k),l4⟩ (by omega) (by omega)
 rw [← hX] at t1
 rw [← hY] at t2
 rw [← hD] at t3
 have HW:Hid (w0=wB.alloc (.cells #[.bool false,.slice none 0 0,.slice none 0 0] 57)∧wB=wA.alloc (.cells #[.bool sb,.slice Q1 E3 D1,.slice Q2 E4 D2] 57)∧wA=w.alloc (.cells #[.bool sa,.slice P1 E1 C1,.slice P2 E2 C2] 57)∧B=w.heap.size∧wA.heap.size=B+1∧wB.heap.size=B+2∧Kp w w0∧Kp wA w0∧Kp wB w0):=⟨hw0,hwB,hwA,hB,sA,sB,kw,kA0,kB0⟩
 have X0:=kkeep kA0 x0
 have X1:=kkeep kA0 x1
 have X2:=kkeep kA0 x2
 have Y0:=kkeep kB0 y0
 have Y1:=kkeep kB0 y1
 have Y2:=kkeep kB0 y2
 have HL:Hid (D≠0∧len32 X≤16000∧len32 Y≤16000∧len32 D≤16000∧len32 (X+Y)≤16000):=⟨hz,lX,lY,lD,lS⟩
 clear hw0 hwB hwA hB sA sB kw kAB kB0 kA0 h1 l1 h2 l2 h3 l3 h4 l4 k1 k2 k3 k4 z2 z4 hX hY hD hz lX lY lD lS g1 g2 g3 g4 x1 x2 y1 y2
 have est:(sa == sb)=false:=by cases sa <;> cases sb <;> simp_all
 have est':decide (sa=sb)=false:=by simp [hst]
 clear hst
 have HG:Hid (X<Y):=hle
 clear hle
 go_enter Tryz.func151,Tryz.ntmps151
 go_wp2_with fail
 rw [← HW.out.2.2.2.1]
 try rw [← HW.out.2.2.1]
 try rw [← HW.out.2.1]
 try rw [← HW.out.1]
 refine t1.mono ?_;rintro e w1 ⟨p1,c1,rfl,s1,m1,k1⟩
 obtain ⟨N1,hN1⟩:∃ N,N=(dig X).length:=⟨_,rfl⟩
 rw [← hN1]
 have H1:Hid (N1=(dig X).length):=hN1
 clear hN1
 replace X0:=kkeep k1 X0
 replace X2:=kkeep k1 X2
 replace Y0:=kkeep k1 Y0
 replace Y1:=kkeep k1 Y1
 replace Y2:=kkeep k1 Y2
 have t2':=t2 w1 k1
 clear t1 t2
 go_wp2_with fail
 refine t2'.mono ?_;rintro e w2 ⟨p2,c2,rfl,s2,m2,k2⟩
 obtain ⟨N2,hN2⟩:∃ N,N=(dig Y).length:=⟨_,rfl⟩
 rw [← hN2]
 have H2:Hid (N2=(dig Y).length):=hN2
 clear hN2
 replace X0:=kkeep k2 X0
 replace X2:=kkeep k2 X2
 replace Y0:=kkeep k2 Y0
 replace Y2:=kkeep k2 Y2
 have t3':=t3 w2 (k1.trans k2)
 clear t2' t3
 go_wp2_with fail
 refine t3'.mono ?_;rintro e w3 ⟨p3,c3,rfl,s3,m3,k3⟩
 obtain ⟨N3,hN3⟩:∃ N,N=(dig D).length:=⟨_,rfl⟩
 rw [← hN3]
 have H3:Hid (N3=(dig D).length):=hN3
 clear hN3
 replace X0:=kkeep k3 X0
 replace Y0:=kkeep k3 Y0
 have k03:=(k1.trans k2).trans k3
 have HS:Hid (Ls w3 (.slice p1 N1 c1) (dig X)∧Ls w3 (.slice p2 N2 c2) (dig Y)∧Ls w3 (.slice p3 N3 c3) (dig D)):=⟨⟨p1,c1,by rw [H1.out],(s1.grown k2).grown k3,m1⟩,⟨p2,c2,by rw [H2.out],s2.grown k3,m2⟩,⟨p3,c3,by rw [H3.out],s3,m3⟩⟩
 clear t3' s1 s2 s3 m1 m2 m3 k1 k2 k3 H1 H2 H3 X1 X2 Y1 Y2
 have hcm:=cmpR (.slice p1 N1 c1) (.slice p2 N2 c2) X Y w3 HS.out.1 HS.out.2.1 (by have:=blen_len X 16000 HL.out.2.1;omega) (by have:=blen_len Y 16000 HL.out.2.2.1;omega)
 obtain ⟨cv9,hcv9⟩:∃ cv9,cv9=cmpN X Y:=⟨_,rfl⟩
 rw [← hcv9] at hcm
 have tcv:¬ 0≤cv9:=by
  rw [hcv9];unfold cmpN;rw [if_pos HG.out];decide
 clear hcv9
 go_wp2_with fail
 refine hcm.mono ?_;rintro e w4 ⟨rfl,k4⟩
 clear hcm
 replace X0:=kkeep k4 X0
 replace Y0:=kkeep k4 Y0
 replace HS:Hid (Ls w4 (.slice p1 N1 c1) (dig X)∧Ls w4 (.slice p2 N2 c2) (dig Y)∧Ls w4 (.slice p3 N3 c3) (dig D)):=⟨HS.out.1.kp k4,HS.out.2.1.kp k4,HS.out.2.2.kp k4⟩
 replace k03:=k03.trans k4
 clear k4
 -- the last region
 replace r0:=kkeep k03 r0
 replace r1:=kkeep k03 r1
 replace r2:=kkeep k03 r2
 replace f0:=(kfro k03 hlt).trans f0
 replace f1:=(kfro k03 hlt).trans f1
 replace f2:=(kfro k03 hlt).trans f2
 have hlt3:=cell_lt r0
 have kS:Kp wB w4:=HW.out.2.2.2.2.2.2.2.2.trans k03
 have kD:Kp wB w4.drew:=kS.drew
 have hge:wB.heap.size≤(⟨B+2,0,none⟩:Addr).block:=by have:=HW.out.2.2.2.2.1;have:=HW.out.2.2.2.2.2.1;simp only;omega
 have HP:Hid (∀ W,Kp w4 W→Calls Tryz.prog 190 #[.slice p2 N2 c2,.slice p1 N1 c1] W fun e w'=>∃ p c,e=.returned (.slice p (dig (Y - X)).length c)∧Arr w' p (dig (Y - X))∧(dig (Y - X)).length≤c∧Kp W w'):=fun W kk=>minusR _ _ Y X W (HS.out.2.1.kp kk) (HS.out.1.kp kk) (by have:=HL.out;omega) (Nat.le_of_lt HG.out)
 have HFR:Hid (∀ (p:Option Addr) (c:Nat) (W:World),Kp w4 W→Arr W p (dig (Y - X))→(dig (Y - X)).length≤c→Calls Tryz.prog 132 #[.bool sb,.slice p (dig (Y - X)).length c,.slice p3 N3 c3,.int .i64 0] W fun e w'=>∃ (vn vd:Value) (a' b':Nat) (ng:Bool),e=.returned (.agg #[.bool ng,vn,vd])∧Own w' W.heap.size vn (dig a')∧Own w' W.heap.size vd (dig b')∧(FracOf (Y - X) D 0 a' b'∧(Y - X≠0→ng=sb))∧Kp W w'):=by
  show ∀ (p:Option Addr) (c:Nat) (W:World),Kp w4 W→Arr W p (dig (Y - X))→(dig (Y - X)).length≤c→Calls Tryz.prog 132 #[.bool sb,.slice p (dig (Y - X)).length c,.slice p3 N3 c3,.int .i64 0] W fun e w'=>∃ (vn vd:Value) (a' b':Nat) (ng:Bool),e=.returned (.agg #[.bool ng,vn,vd])∧Own w' W.heap.size vn (dig a')∧Own w' W.heap.size vd (dig b')∧(FracOf (Y - X) D 0 a' b'∧(Y - X≠0→ng=sb))∧Kp W w'
  intro p c W kk ar ll
  obtain ⟨z,q1,q2,q3,q4⟩:=HL.out
  have g:=frac_ sb (.slice p (dig (Y - X)).length c) (.slice p3 N3 c3) (dig (Y - X)) (dig D) 0 W ⟨p,c,rfl,ar,ll⟩ (HS.out.2.2.kp kk) (Wd_dig _) (Wd_dig _) (by change len32 _≤_;have:=len32_mono (Nat.sub_le Y X);omega) (by change len32 _≤_;omega) (by rw [val_dig];exact z) (by decide)
  rw [val_dig,val_dig] at g
  exact g
 obtain ⟨NX,hNX⟩:∃ N,N=(dig (Y - X)).length:=⟨_,rfl⟩
 rw [← hNX] at HP HFR
 clear hNX
 go_upto_region 8 with fail
 go_region_held3 (fun w'=>w'.cell? ⟨B+1,0,none⟩=some (.bool sb)) ((refine kkeep (W:=wB) ?_ y0;(repeat (first | with_reducible exact kB | with_reducible exact kA | with_reducible exact kD | with_reducible exact Kp.refl _ | with_reducible refine Kp.drew ?_ | refine Kp.setCell ?_ hge _));done)) (first | (go_at_call 132;have hh:=ar1;refine (HFR.out pp cc _ ?q1 ?q2 ll1).mono ?_;(case q1=>(repeat (first | with_reducible exact kk1 | with_reducible exact Kp.refl _ | with_reducible refine Kp.drew ?_));done);(case q2=>exact ar1);rintro e v2 ⟨vn,vd,a',b',ng,rfl,o1,o2,ff,k12⟩;have kk2:Kp w4 v2:=kk1.trans k12;have kB:Kp wB v2:=kS.trans kk2;obtain ⟨pn,cn,rfl,an,ln⟩:=o1.arr;obtain ⟨pd,cd,rfl,ad,ld⟩:=o2.arr;have R0:=kkeep kk2 r0;have R1:=kkeep kk2 r1;have R2:=kkeep kk2 r2;have F0:=(kfro kk2 hlt3).trans f0;have F1:=(kfro kk2 hlt3).trans f1;have F2:=(kfro kk2 hlt3).trans f2) | (go_at_call 190;refine (HP.out _ ?q3).mono ?_;(case q3=>(repeat (first | with_reducible exact Kp.refl _ | with_reducible refine Kp.drew ?_));done);rintro e v1 ⟨pp,cc,rfl,ar1,ll1,k01⟩;have kk1:Kp w4 v1:=Kp.trans ?q4 k01;(case q4=>(repeat (first | with_reducible exact Kp.refl _ | with_reducible refine Kp.drew ?_));done);have kA:Kp wB v1:=kS.trans kk1))
 have hs1:=Below.size kk1
 obtain ⟨wz,hwz⟩:∃ wz,wz=((v2.setCell ⟨B+2,0,none⟩ (.bool ng)).setCell ⟨B+2,1,none⟩ (.slice pn (dig a').length cn)).setCell ⟨B+2,2,none⟩ (.slice pd (dig b').length cd):=⟨_,rfl⟩
 have kb:Kb (B+2) v2 wz:=by rw [hwz];exact (((Kb.refl (B+2) v2).setCell 0 _).setCell 1 _).setCell 2 _
 have O1:=o1.kb kb (fun g hg=>by have:=o1.lt g hg;omega)
 have O2:=o2.kb kb (fun g hg=>by have:=o2.lt g hg;omega)
 have hkw:Kp w wz:=kb.kp ((HW.out.2.2.2.2.2.2.1.trans k03).trans kk2) (by rw [HW.out.2.2.2.1];omega)
 have HO:Hid (Own wz w.heap.size (.slice pn (dig a').length cn) (dig a')∧Own wz w.heap.size (.slice pd (dig b').length cd) (dig b')∧(FracOf (Y - X) D 0 a' b'∧(Y - X≠0→ng=sb))∧Kp w wz∧wz=((v2.setCell ⟨B+2,0,none⟩ (.bool ng)).setCell ⟨B+2,1,none⟩ (.slice pn (dig a').length cn)).setCell ⟨B+2,2,none⟩ (.slice pd (dig b').length cd)):=⟨O1.mono (by have e9:=HW.out.2.2.2.1;first | omega | exact Nat.le_trans (show w.heap.size≤v1.heap.size by omega) (Nat.le_refl _)),O2.mono (by have e9:=HW.out.2.2.2.1;first | omega | exact Nat.le_trans (show w.heap.size≤v1.heap.size by omega) (Nat.le_refl _)),ff,hkw,hwz⟩
 clear hs1 hwz kb O1 O2 hkw o1 o2 ff k12 kk2 kB an ln ad ld kk1 k01 kA ar1 ll1 HP HFR HS HL kS kD hge k03
 go_wp2
 obtain ⟨q1,q2,q3,q4,q5⟩:=HO.out
 rw [q5] at q1 q2 q4
 exact BR (v:=.agg #[.bool ng,.slice pn (dig a').length cn,.slice pd (dig b').length cd]) (by simp [results,Tryz.results151,go_sem,R0,R1,R2]) rfl ⟨_,_,a',b',ng,rfl,q1,q2,q3,q4⟩

def QP (base:Nat) (w:World) (s:Bool) (p:Option Addr) (l c:Nat) (q:Option Addr) (k d:Nat) (Z:Int→Nat):Prop:=∃ a b,Own w base (.slice p l c) (dig a)∧Own w base (.slice q k d) (dig b)∧b≠0∧blen a≤4194304∧blen b≤4194304∧∀ dd:Int,refW 53 1074 2098 9218868437227405311 0 dd s a b=Z dd
theorem QP.kp {base:Nat} {w w':World} {s:Bool} {p:Option Addr} {l c:Nat} {q:Option Addr} {k d:Nat} {Z:Int→Nat} (h:QP base w s p l c q k d Z) (g:Kp w w'):QP base w' s p l c q k d Z:=by
 obtain ⟨a,b,h1,h2,h3⟩:=h
 exact ⟨a,b,h1.kp g,h2.kp g,h3⟩
theorem RP.qp {base:Nat} {w:World} {s:Bool} {p:Option Addr} {l c:Nat} {q:Option Addr} {k d:Nat} {n:Bool} {m:Nat} (h:RP base w s p l c q k d n m):QP base w s p l c q k d (fun dd=>sumW dd (Iv n m)):=by
 obtain ⟨a,b,h1,h2,h3⟩:=h
 obtain ⟨K,hK⟩:∃ K:Nat,K=1074:=⟨_,rfl⟩
 obtain ⟨f1,f2,f3,f4,f5⟩:=h3 K hK
 refine ⟨a,b,h1,h2,f1,by omega,by omega,fun dd=>?_⟩
 refine ratio_sum dd (Iv n m) a b a b K s hK f1 ⟨f1,Iff.rfl,fun d' p' t' _=>by rw [Int.add_zero],by omega,by omega⟩ ?_ s (fun _=>rfl) ?_
 ·rw [f2]
  congr 1
  unfold Iv;cases n <;> simp
 ·intro hne
  rw [f3] at hne ⊢
  cases s <;> simp at hne ⊢ <;> omega

theorem qbits_ s p l c q k d (Z:Int→Nat) (dd:Int) (B1:Nat) (w:World) (h:QP B1 w s p l c q k d Z):Calls Tryz.prog 150 #[.int .i64 dd,.agg #[.bool s,.slice p l c,.slice q k d]] w fun e w'=>e=.returned (.int .u64 ((Z dd:Nat):Int))∧Kp w w':=by
 obtain ⟨a,b,u1,u2,u3,u4,u5,u6⟩:=h
 have h:=rbits_ dd s (.slice p l c) (.slice q k d) a b w u1.ls u2.ls u3 u4 u5
 rw [u6 dd] at h
 exact h
end Go.Proofs.YtmpjcknaelgnoaaGreatDoor
