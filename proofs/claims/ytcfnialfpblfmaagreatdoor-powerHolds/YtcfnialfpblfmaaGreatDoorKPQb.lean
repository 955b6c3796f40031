import Derived.Test.YtcfnialfpblfmaaGreatDoorKPTa
import Derived.Laws.OwnMore
set_option maxHeartbeats 4000000
set_option maxRecDepth 20000
namespace Go.Proofs.YtcfnialfpblfmaaGreatDoor
open Go.RowKit
set_option linter.unusedVariables false
theorem rquoWO_ (sa sb:Bool) (a1 a2 b1 b2:Nat) (P1 P2 Q1 Q2:Option Addr) (C1 C2 D1 D2:Nat) (w:World) (h1:Arr w P1 (dig a1)) (l1:(dig a1).length≤C1) (h2:Arr w P2 (dig a2)) (l2:(dig a2).length≤C2) (h3:Arr w Q1 (dig b1)) (l3:(dig b1).length≤D1) (h4:Arr w Q2 (dig b2)) (l4:(dig b2).length≤D2) (k1:len32 a1≤65536) (k2:len32 a2≤65536) (k3:len32 b1≤65536) (k4:len32 b2≤65536) (z2:a2≠0) (z4:b1≠0) (X D:Nat) (hX:X=a1*b2) (hD:D=a2*b1) (lX:len32 X≤65536) (lD:len32 D≤65536) :
  Calls Tryz.prog 31 #[.agg #[.bool sa,.slice P1 (dig a1).length C1,.slice P2 (dig a2).length C2],.agg #[.bool sb,.slice Q1 (dig b1).length D1,.slice Q2 (dig b2).length D2]] w fun e w'=>∃ (vn vd:Value) (a' b':Nat) (ng:Bool),e=.returned (.agg #[.bool ng,vn,vd])∧Own w' w.heap.size vn (dig a')∧Own w' w.heap.size vd (dig b')∧(FracT X D 0 a' b'∧(X≠0→ng=(sa ^^ sb)))∧Kp w w':=by
 have hz:D≠0:=by rw [hD];exact Nat.mul_ne_zero z2 z4
 obtain ⟨E1,g1⟩:∃ E,E=(dig a1).length:=⟨_,rfl⟩
 obtain ⟨E2,g2⟩:∃ E,E=(dig a2).length:=⟨_,rfl⟩
 obtain ⟨E3,g3⟩:∃ E,E=(dig b1).length:=⟨_,rfl⟩
 obtain ⟨E4,g4⟩:∃ E,E=(dig b2).length:=⟨_,rfl⟩
 rw [← g1,← g2,← g3,← g4]
 obtain ⟨B,hB⟩:∃ B,B=w.heap.size:=⟨_,rfl⟩
 obtain ⟨wA,hwA⟩:∃ wA,wA=w.alloc (.cells #[.bool sa,.slice P1 E1 C1,.slice P2 E2 C2] 43):=⟨_,rfl⟩
 obtain ⟨wB,hwB⟩:∃ wB,wB=wA.alloc (.cells #[.bool sb,.slice Q1 E3 D1,.slice Q2 E4 D2] 43):=⟨_,rfl⟩
 obtain ⟨w0,hw0⟩:∃ w0,w0=wB.alloc (.cells #[.bool false,.slice none 0 0,.slice none 0 0] 43):=⟨_,rfl⟩
 have sA:wA.heap.size=B+1:=by rw [hwA,hB];simp
 have sB:wB.heap.size=B+2:=by rw [hwB];simp [sA]
 have kAB:Kp wA wB:=by rw [hwB];exact (Kp.refl wA).alloc _
 have x0:wB.cell? ⟨B,0,none⟩=some (.bool sa):=kkeep kAB (by rw [hwA,hB];simp [go_sem])
 have x1:wB.cell? ⟨B,1,none⟩=some (.slice P1 E1 C1):=kkeep kAB (by rw [hwA,hB];simp [go_sem])
 have x2:wB.cell? ⟨B,2,none⟩=some (.slice P2 E2 C2):=kkeep kAB (by rw [hwA,hB];simp [go_sem])
 obtain ⟨y0,y1,y2⟩:wB.cell? ⟨B+1,0,none⟩=some (.bool sb)∧wB.cell? ⟨B+1,1,none⟩=some (.slice Q1 E3 D1)∧wB.cell? ⟨B+1,2,none⟩=some (.slice Q2 E4 D2):=by rw [hwB,← sA];simp [go_sem]
 obtain ⟨r0,r1,r2,f0,f1,f2⟩:w0.cell? ⟨B+2,0,none⟩=some (.bool false)∧w0.cell? ⟨B+2,1,none⟩=some (.slice none 0 0)∧w0.cell? ⟨B+2,2,none⟩=some (.slice none 0 0)∧w0.frozen? ⟨B+2,0,none⟩=false∧w0.frozen? ⟨B+2,1,none⟩=false∧w0.frozen? ⟨B+2,2,none⟩=false:=by rw [hw0,← sB];simp [go_sem]
 have kw:Kp w w0:=by rw [hw0,hwB,hwA];exact (((Kp.refl w).alloc _).alloc _).alloc _
 have kS:Kp wB w0:=by rw [hw0];exact (Kp.refl wB).alloc _
 have kD:Kp wB w0.drew:=kS.drew
 have hge:wB.heap.size≤(⟨B+2,0,none⟩:Addr).block:=by simp only;omega
 have hlt:=cell_lt r0
 have HP1:Hid (∀ W:World,Kp w0 W→Calls Tryz.prog 70 #[.slice P1 E1 C1,.slice Q2 E4 D2] W fun e w'=>∃ p c,e=.returned (.slice p (dig X).length c)∧Arr w' p (dig X)∧(dig X).length≤c∧Kp W w'):=by
  show ∀ W:World,Kp w0 W→Calls Tryz.prog 70 #[.slice P1 E1 C1,.slice Q2 E4 D2] W fun e w'=>∃ p c,e=.returned (.slice p (dig X).length c)∧Arr w' p (dig X)∧(dig X).length≤c∧Kp W w'
  intro W k
  rw [hX];exact timesW _ _ a1 b2 W ⟨P1,C1,by rw [g1],h1.grown (kw.trans k),l1⟩ ⟨Q2,D2,by rw [g4],h4.grown (kw.trans k),l4⟩ (by omega) (by omega)
 have HP2:Hid (∀ W:World,Kp w0 W→Calls Tryz.prog 70 #[.slice P2 E2 C2,.slice Q1 E3 D1] W fun e w'=>∃ p c,e=.returned (.slice p (dig D).length c)∧Arr w' p (dig D)∧(dig D).length≤c∧Kp W w'):=by
  show ∀ W:World,Kp w0 W→Calls Tryz.prog 70 #[.slice P2 E2 C2,.slice Q1 E3 D1] W fun e w'=>∃ p c,e=.returned (.slice p (dig D).length c)∧Arr w' p (dig D)∧(dig D).length≤c∧Kp W w'
  intro W k
  rw [hD];exact timesW _ _ a2 b1 W ⟨P2,C2,by rw [g2],h2.grown (kw.trans k),l2⟩ ⟨Q1,D1,by rw [g3],h3.grown (kw.trans k),l3⟩ (by omega) (by omega)
 obtain ⟨NX,hNX⟩:∃ N,N=(dig X).length:=⟨_,rfl⟩
 obtain ⟨ND,hND⟩:∃ N,N=(dig D).length:=⟨_,rfl⟩
 obtain ⟨st,hst⟩:∃ st,st=(sa ^^ sb):=⟨_,rfl⟩
 have hst2:(sa != sb)=st:=by rw [hst]
 have hst3:(!decide (sa=sb))=st:=by rw [hst];cases sa <;> cases sb <;> rfl
 have hst4:(!(sa == sb))=st:=by rw [hst];cases sa <;> cases sb <;> rfl
 have HFR:Hid (∀ (p:Option Addr) (c:Nat) (q:Option Addr) (d:Nat) (W:World),Kp w0 W→Arr W p (dig X)→(dig X).length≤c→Arr W q (dig D)→(dig D).length≤d→Calls Tryz.prog 66 #[.bool st,.slice p (dig X).length c,.slice q (dig D).length d,.int .i64 0] W fun e w'=>∃ (vn vd:Value) (a' b':Nat) (ng:Bool),e=.returned (.agg #[.bool ng,vn,vd])∧Own w' W.heap.size vn (dig a')∧Own w' W.heap.size vd (dig b')∧(FracT X D 0 a' b'∧(X≠0→ng=st))∧Kp W w'):=by
  show ∀ (p:Option Addr) (c:Nat) (q:Option Addr) (d:Nat) (W:World),Kp w0 W→Arr W p (dig X)→(dig X).length≤c→Arr W q (dig D)→(dig D).length≤d→Calls Tryz.prog 66 #[.bool st,.slice p (dig X).length c,.slice q (dig D).length d,.int .i64 0] W fun e w'=>∃ (vn vd:Value) (a' b':Nat) (ng:Bool),e=.returned (.agg #[.bool ng,vn,vd])∧Own w' W.heap.size vn (dig a')∧Own w' W.heap.size vd (dig b')∧(FracT X D 0 a' b'∧(X≠0→ng=st))∧Kp W w'
  intro p c q d W kk ar ll ar' ll'
  have g:=fracW_ st (.slice p (dig X).length c) (.slice q (dig D).length d) (dig X) (dig D) 0 W ⟨p,c,rfl,ar,ll⟩ ⟨q,d,rfl,ar',ll'⟩ (Wd_dig _) (Wd_dig _) (by change len32 _≤_;omega) (by change len32 _≤_;omega) (by rw [val_dig];exact hz) (by decide)
  rw [val_dig,val_dig] at g
  exact g
 rw [← hNX,← hND] at HFR
 rw [← hNX] at HP1
 rw [← hND] at HP2
 rw [← hst]
 have HW:Hid (w0=wB.alloc (.cells #[.bool false,.slice none 0 0,.slice none 0 0] 43)∧wB=wA.alloc (.cells #[.bool sb,.slice Q1 E3 D1,.slice Q2 E4 D2] 43)∧wA=w.alloc (.cells #[.bool sa,.slice P1 E1 C1,.slice P2 E2 C2] 43)∧B=w.heap.size∧Kp w w0):=⟨hw0,hwB,hwA,hB,kw⟩
 clear hNX hND hst hw0 hwB hwA hB sA sB kw kAB h1 l1 h2 l2 h3 l3 h4 l4 k1 k2 k3 k4 z2 z4 hX hD hz lX lD g1 g2 g3 g4
 go_enter Tryz.func31,Tryz.ntmps31
 go_upto_region 1 with fail
 rw [← HW.out.2.2.2.1]
 try rw [← HW.out.2.2.1]
 try rw [← HW.out.2.1]
 try rw [← HW.out.1]
 go_region_held3 (fun w'=>w'.cell? ⟨B,0,none⟩=some (.bool sa)∧w'.cell? ⟨B,1,none⟩=some (.slice P1 E1 C1)∧w'.cell? ⟨B,2,none⟩=some (.slice P2 E2 C2)∧w'.cell? ⟨B+1,0,none⟩=some (.bool sb)∧w'.cell? ⟨B+1,1,none⟩=some (.slice Q1 E3 D1)∧w'.cell? ⟨B+1,2,none⟩=some (.slice Q2 E4 D2)) (refine ⟨kkeep (W:=wB) ?_ x0,kkeep (W:=wB) ?_ x1,kkeep (W:=wB) ?_ x2,kkeep (W:=wB) ?_ y0,kkeep (W:=wB) ?_ y1,kkeep (W:=wB) ?_ y2⟩ <;> ((repeat (first | with_reducible exact kC | with_reducible exact kB | with_reducible exact kA | with_reducible exact kS | with_reducible exact kD | with_reducible exact Kp.refl _ | with_reducible refine Kp.drew ?_ | refine Kp.setCell ?_ hge _));done)) (first | (go_at_call 66;have hh:=ar2;refine (HFR.out pp cc pq cq _ ?q1 ?q2 ll1 ?q3 ll2).mono ?_;(case q1=>((repeat (first | with_reducible exact kk2 | with_reducible exact kk1 | with_reducible exact Kp.refl _ | with_reducible refine Kp.drew ?_));done));(case q2=>exact ar1.grown k12);(case q3=>exact ar2);rintro e v3 ⟨vn,vd,a',b',ng,rfl,o1,o2,ff,k23⟩;have kk3:Kp w0 v3:=Kp.trans ?q4 k23;(case q4=>((repeat (first | with_reducible exact kk2 | with_reducible exact kk1 | with_reducible exact Kp.refl _ | with_reducible refine Kp.drew ?_));done));have kC:Kp wB v3:=kS.trans kk3;obtain ⟨pn,cn,rfl,an,ln⟩:=o1.arr;obtain ⟨pd,cd,rfl,ad,ld⟩:=o2.arr;have R0:=kkeep kk3 r0;have R1:=kkeep kk3 r1;have R2:=kkeep kk3 r2;have F0:=(kfro kk3 hlt).trans f0;have F1:=(kfro kk3 hlt).trans f1;have F2:=(kfro kk3 hlt).trans f2) | (go_at_call 70;have hh:=ar1;refine (HP2.out _ ?q5).mono ?_;(case q5=>((repeat (first | with_reducible exact kk2 | with_reducible exact kk1 | with_reducible exact Kp.refl _ | with_reducible refine Kp.drew ?_));done));rintro e v2 ⟨pq,cq,rfl,ar2,ll2,k12⟩;have kk2:Kp w0 v2:=Kp.trans ?q7 k12;(case q7=>((repeat (first | with_reducible exact kk2 | with_reducible exact kk1 | with_reducible exact Kp.refl _ | with_reducible refine Kp.drew ?_));done));have kB:Kp wB v2:=kS.trans kk2) | (go_at_call 70;refine (HP1.out _ ?q8).mono ?_;(case q8=>((repeat (first | with_reducible exact kk2 | with_reducible exact kk1 | with_reducible exact Kp.refl _ | with_reducible refine Kp.drew ?_));done));rintro e v1 ⟨pp,cc,rfl,ar1,ll1,k01⟩;have kk1:Kp w0 v1:=Kp.trans ?q10 k01;(case q10=>((repeat (first | with_reducible exact kk2 | with_reducible exact kk1 | with_reducible exact Kp.refl _ | with_reducible refine Kp.drew ?_));done));have kA:Kp wB v1:=kS.trans kk1))
 have hs1:=Below.size kk2
 obtain ⟨wz,hwz⟩:∃ wz,wz=((v3.setCell ⟨B+2,0,none⟩ (.bool ng)).setCell ⟨B+2,1,none⟩ (.slice pn (dig a').length cn)).setCell ⟨B+2,2,none⟩ (.slice pd (dig b').length cd):=⟨_,rfl⟩
 have kb:Kb (B+2) v3 wz:=by rw [hwz];exact (((Kb.refl (B+2) v3).setCell 0 _).setCell 1 _).setCell 2 _
 have O1:=o1.kb kb (fun g hg=>by have:=o1.lt g hg;omega)
 have O2:=o2.kb kb (fun g hg=>by have:=o2.lt g hg;omega)
 have hkw:Kp w wz:=kb.kp (HW.out.2.2.2.2.trans kk3) (by rw [HW.out.2.2.2.1];omega)
 have HO:Hid (Own wz w.heap.size (.slice pn (dig a').length cn) (dig a')∧Own wz w.heap.size (.slice pd (dig b').length cd) (dig b')∧(FracT X D 0 a' b'∧(X≠0→ng=st))∧Kp w wz∧wz=((v3.setCell ⟨B+2,0,none⟩ (.bool ng)).setCell ⟨B+2,1,none⟩ (.slice pn (dig a').length cn)).setCell ⟨B+2,2,none⟩ (.slice pd (dig b').length cd)):=⟨O1.mono (by have e9:=HW.out.2.2.2.1;first | omega | exact Nat.le_trans (show w.heap.size≤v1.heap.size by omega) (Nat.le_refl _)),O2.mono (by have e9:=HW.out.2.2.2.1;first | omega | exact Nat.le_trans (show w.heap.size≤v1.heap.size by omega) (Nat.le_refl _)),ff,hkw,hwz⟩
 clear hs1 hwz kb O1 O2 hkw o1 o2 ff k23 kk3 kC an ln ad ld kk2 k12 kB ar2 ll2 kk1 k01 kA ar1 ll1 HP1 HP2 HFR kS kD hge
 go_wp2
 obtain ⟨q1,q2,q3,q4,q5⟩:=HO.out
 rw [q5] at q1 q2 q4
 exact BR (v:=.agg #[.bool ng,.slice pn (dig a').length cn,.slice pd (dig b').length cd]) (by simp [results,Tryz.results31,go_sem,R0,R1,R2]) rfl ⟨_,_,a',b',ng,rfl,q1,q2,q3,q4⟩
theorem xquoW_ (V:Int) (U:Nat) (t:Bool) (hU:U≠0) (C C' N N':Nat) (hN:N+N'≤2000000) s p l c q k d s2 p2 l2 c2 q2 k2 d2 (B1 B2:Nat) (w:World) (h1:XP B1 w s p l c q k d V C N) (h2:XP B2 w s2 p2 l2 c2 q2 k2 d2 (rvI t U) C' N'):Calls Tryz.prog 31 #[.agg #[.bool s,.slice p l c,.slice q k d],.agg #[.bool s2,.slice p2 l2 c2,.slice q2 k2 d2]] w fun e w'=>∃ s3 p3 l3 c3 q3 k3 d3,e=.returned (.agg #[.bool s3,.slice p3 l3 c3,.slice q3 k3 d3])∧XP w.heap.size w' s3 p3 l3 c3 q3 k3 d3 (rvI t 1*V*(C':Int)) (C*U) (2*(N+N')+3)∧Kp w w':=by
 obtain ⟨a1,a2,u1,u2,u3⟩:=h1
 obtain ⟨b1,b2,v1,v2,v3⟩:=h2
 obtain ⟨P1,C1,e1,x1,y1⟩:=u1.arr
 obtain ⟨P2,C2,e2,x2,y2⟩:=u2.arr
 obtain ⟨Q1,D1,e3,x3,y3⟩:=v1.arr
 obtain ⟨Q2,D2,e4,x4,y4⟩:=v2.arr
 rw [e1,e2,e3,e4]
 obtain ⟨X,hX⟩:∃ X,X=a1*b2:=⟨_,rfl⟩
 obtain ⟨D,hD⟩:∃ D,D=a2*b1:=⟨_,rfl⟩
 have ba1:=u3.2.2.2.1
 have ba2:=u3.2.2.2.2
 have bb1:=v3.2.2.2.1
 have bb2:=v3.2.2.2.2
 have bX:blen X≤N+N':=by rw [hX];exact blen_mulX _ _ _ _ ba1 bb2
 have bD:blen D≤N+N':=by rw [hD];exact blen_mulX _ _ _ _ ba2 bb1
 have zb:b1≠0:=by
  intro z
  obtain ⟨g1,g2,g3,-,-⟩:=v3
  rw [z] at g3
  have q1:(U:Int)*(b2:Int)≠0:=by have:(0:Int)<(U:Int)*(b2:Int):=Int.mul_pos (by omega) (by omega);omega
  unfold rvI at g3
  cases s2 <;> cases t <;> simp [Int.neg_mul] at g3 <;> omega
 have hzD:D≠0:=by rw [hD];exact Nat.mul_ne_zero u3.1 zb
 refine (rquoWO_ s s2 a1 a2 b1 b2 P1 P2 Q1 Q2 C1 C2 D1 D2 w x1 y1 x2 y2 x3 y3 x4 y4 (dlen a1 65536 (by omega)) (dlen a2 65536 (by omega)) (dlen b1 65536 (by omega)) (dlen b2 65536 (by omega)) u3.1 zb X D hX hD (dlen X 65536 (by omega)) (dlen D 65536 (by omega))).mono ?_
 rintro e w' ⟨vn,vd,a',b',ng,rfl,o1,o2,⟨hF,hn⟩,g⟩
 obtain ⟨p3,c3,rfl,-,-⟩:=o1.arr
 obtain ⟨q3,d3,rfl,-,-⟩:=o2.arr
 exact ⟨ng,p3,_,c3,q3,_,d3,rfl,⟨a',b',o1,o2,XF.quo s s2 ng a1 a2 b1 b2 a' b' V U t C C' N N' _ u3 v3 hU hF.1.1 (by have h:=frac_x X D a' b' ng _ hzD hF.1 hn;rw [hX] at h;rw [hD,Int.natCast_mul] at h;exact h) (by have g1:=hF.1.2.2.2.1;simp at g1;omega) (by have g1:=hF.1.2.2.2.2;simp at g1;omega)⟩,g⟩
set_option linter.unusedVariables false
def TX (b N:Nat) (i1 V1:Int) (C1:Nat) (i2 V2:Int) (C2:Nat) (W:World) (v:Value):Prop:=∃ (s:Bool) (p:Option Addr) (l c:Nat) (q:Option Addr) (k d:Nat) (s2:Bool) (p2:Option Addr) (l2 c2:Nat) (q2:Option Addr) (k2 d2:Nat),v=.agg #[.bool false,.int .i64 i1,.bool s,.slice p l c,.slice q k d,.int .i64 i2,.bool s2,.slice p2 l2 c2,.slice q2 k2 d2]∧XP b W s p l c q k d V1 C1 N∧XP b W s2 p2 l2 c2 q2 k2 d2 V2 C2 N
set_option linter.unusedVariables false
def limZ (n:Int):Int:=if n < -64∨64<n then 3 else n
theorem limA_ (n:Int) (h:n < -64) (w:World):Calls Tryz.prog 23 #[.int .i64 n] w fun e w'=>e=.returned (.int .i64 3)∧Kp w w':=by
 go_enter Tryz.func23,Tryz.ntmps23
 go_wp2
 exact BR (v:=.int .i64 3) (by simp [results,Tryz.results23,go_sem]) rfl ⟨rfl,(by repeat (with_reducible (first | assumption | exact Kp.refl _ | apply Kp.drew | apply Kp.alloc | apply Kp.drewN | (refine Kp.setCell ?_ (by first | omega | (simp <;> omega)) _) | (refine Kp.trans ?_ (by assumption)))))⟩
theorem limB_ (n:Int) (h:¬ (n < -64)) (h2:64<n) (w:World):Calls Tryz.prog 23 #[.int .i64 n] w fun e w'=>e=.returned (.int .i64 3)∧Kp w w':=by
 go_enter Tryz.func23,Tryz.ntmps23
 go_wp2
 exact BR (v:=.int .i64 3) (by simp [results,Tryz.results23,go_sem]) rfl ⟨rfl,(by repeat (with_reducible (first | assumption | exact Kp.refl _ | apply Kp.drew | apply Kp.alloc | apply Kp.drewN | (refine Kp.setCell ?_ (by first | omega | (simp <;> omega)) _) | (refine Kp.trans ?_ (by assumption)))))⟩
theorem limC_ (n:Int) (h:¬ (n < -64)) (h2:¬ (64<n)) (w:World):Calls Tryz.prog 23 #[.int .i64 n] w fun e w'=>e=.returned (.int .i64 n)∧Kp w w':=by
 go_enter Tryz.func23,Tryz.ntmps23
 go_wp2
 exact BR (v:=.int .i64 n) (by simp [results,Tryz.results23,go_sem]) rfl ⟨rfl,(by repeat (with_reducible (first | assumption | exact Kp.refl _ | apply Kp.drew | apply Kp.alloc | apply Kp.drewN | (refine Kp.setCell ?_ (by first | omega | (simp <;> omega)) _) | (refine Kp.trans ?_ (by assumption)))))⟩
theorem lim_ (n:Int) (w:World):Calls Tryz.prog 23 #[.int .i64 n] w fun e w'=>e=.returned (.int .i64 (limZ n))∧Kp w w':=by
 unfold limZ
 by_cases a:n < -64
 ·rw [if_pos (Or.inl a)];exact limA_ n a w
 ·by_cases b:64<n
  ·rw [if_pos (Or.inr b)];exact limB_ n a b w
  ·rw [if_neg (by omega)];exact limC_ n a b w
theorem pw_v (z:Int):pw z=if z<0 then 9223372036854775808+z.natAbs else z.natAbs:=by
 unfold pw Fq.wD
 by_cases c:z<0
 ·rw [if_pos (decide_eq_true c),if_pos c]
 ·rw [if_neg (by simpa using c),if_neg c]
theorem fromZ_ (K:Nat) (hK:K=1074) (z:Int) (f:-9218868437227405312<z∧z<9218868437227405312) (w:World):Calls Tryz.prog 26 #[.int .u64 (pI z)] w fun e w'=>∃ s2 p2 l2 c2 q2 k2 d2,e=.returned (.agg #[.bool s2,.slice p2 l2 c2,.slice q2 k2 d2])∧XP 0 w' s2 p2 l2 c2 q2 k2 d2 (vZ z) (2 ^ K) 1500∧Kp w w':=by
 refine (fromR_ (decide (z<0)) z.natAbs (by omega) w).mono ?_
 rintro e w' ⟨s2,p2,l2,c2,q2,k2,d2,rfl,h,g⟩
 exact ⟨s2,p2,l2,c2,q2,k2,d2,rfl,(h.xp K hK).mono (Nat.zero_le _),g⟩
theorem holds9_ (K:Nat) (hK:K=1074) (lo hi:Int) (d:VdZ lo hi) (nI:lo≠9218868437227405312) (V:Int) (C N:Nat) (hN:N≤3100000) (s:Bool) (p:Option Addr) (l c:Nat) (q:Option Addr) (k d9:Nat) (B1:Nat) (w:World) (h:XP B1 w s p l c q k d9 V C N) (c1:lo = -9218868437227405312∨vZ lo*(C:Int)≤V*((2 ^ K:Nat):Int)) (c2:hi=9218868437227405312∨V*((2 ^ K:Nat):Int)≤vZ hi*(C:Int)):Calls Tryz.prog 28 #[.agg #[.float .f64 (pw lo),.float .f64 (pw hi)],.agg #[.bool s,.slice p l c,.slice q k d9]] w fun e w'=>e=.returned (.bool true)∧Kp w w':=by
 have b1:=d.lo
 have b2:=d.hi
 have hv:=d
 unfold VdZ at hv
 unfold BdZ at b1 b2
 have e1:=pw_v lo
 have e2:=pw_v hi
 have tE:(pI lo == 9218868437227405312)=false:=by
  unfold pI;rw [e1,beq_eq_false_iff_ne];split <;> omega
 have tL:∀ x:Bool,decide (lo = -9218868437227405312)=x→(pI lo == 18442240474082181120)=x:=fun x hx=>by
  rw [← hx];unfold pI;rw [e1,Bool.eq_iff_iff,beq_iff_eq,decide_eq_true_iff];split <;> omega
 have tH:∀ x:Bool,decide (hi=9218868437227405312)=x→(pI hi == 9218868437227405312)=x:=fun x hx=>by
  rw [← hx];unfold pI;rw [e2,Bool.eq_iff_iff,beq_iff_eq,decide_eq_true_iff];split <;> omega
 have hO:=fun (W:World)=>out9_ (pw lo) (pw hi) W
 have hV:=fun (W:World)=>valid9_ lo hi d W
 have cL:=fun (hl:vZ lo*(C:Int)≤V*((2 ^ K:Nat):Int)) (W:World) s2 p2 l2 c2 q2 k2 d2 (g:Kp w W) (hx:XP 0 W s2 p2 l2 c2 q2 k2 d2 (vZ lo) (2 ^ K) 1500)=>xcmp_ 0 B1 (vZ lo) V (2 ^ K) C 1500 N (by decide) hN s2 p2 l2 c2 q2 k2 d2 s p l c q k d9 W hx (h.kp g)
 have cH:=fun (hl:V*((2 ^ K:Nat):Int)≤vZ hi*(C:Int)) (W:World) s2 p2 l2 c2 q2 k2 d2 (g:Kp w W) (hx:XP 0 W s2 p2 l2 c2 q2 k2 d2 (vZ hi) (2 ^ K) 1500)=>xcmp_ B1 0 V (vZ hi) C (2 ^ K) N 1500 hN (by decide) s p l c q k d9 s2 p2 l2 c2 q2 k2 d2 W (h.kp g) hx
 by_cases a:lo = -9218868437227405312
 ·by_cases b:hi=9218868437227405312
  ·exact holdsII_ _ _ _ _ s p l c q k d9 w hO hV tE (tL true (decide_eq_true a)) (tH true (decide_eq_true b))
  ·have q9:=c2.resolve_left b
   exact holdsIF_ _ _ _ _ _ s p l c q k d9 (fun w' s2 p2 l2 c2 q2 k2 d2=>XP 0 w' s2 p2 l2 c2 q2 k2 d2 (vZ hi) (2 ^ K) 1500) w hO hV tE (tL true (decide_eq_true a)) (tH false (decide_eq_false b)) (fun W=>fromZ_ K hK hi (by omega) W) (cH q9) ((cmI_le0 _ _).2 q9)
 ·have p9:=c1.resolve_left a
  by_cases b:hi=9218868437227405312
  ·exact holdsFI_ _ _ _ _ _ s p l c q k d9 (fun w' s2 p2 l2 c2 q2 k2 d2=>XP 0 w' s2 p2 l2 c2 q2 k2 d2 (vZ lo) (2 ^ K) 1500) w hO hV tE (tL false (decide_eq_false a)) (tH true (decide_eq_true b)) (fun W=>fromZ_ K hK lo (by omega) W) (cL p9) ((cmI_le0 _ _).2 p9)
  ·have q9:=c2.resolve_left b
   exact holdsFF_ _ _ _ _ _ _ s p l c q k d9 (fun w' s2 p2 l2 c2 q2 k2 d2=>XP 0 w' s2 p2 l2 c2 q2 k2 d2 (vZ lo) (2 ^ K) 1500) (fun w' s2 p2 l2 c2 q2 k2 d2=>XP 0 w' s2 p2 l2 c2 q2 k2 d2 (vZ hi) (2 ^ K) 1500) w hO hV tE (tL false (decide_eq_false a)) (tH false (decide_eq_false b)) (fun W=>fromZ_ K hK lo (by omega) W) (cL p9) ((cmI_le0 _ _).2 p9) (fun W=>fromZ_ K hK hi (by omega) W) (cH q9) ((cmI_le0 _ _).2 q9)
theorem finA_ (X Q E:Int) (Z:Bool) (f1:X / 4503599627370496=Q) (f2:bits BinOp.and IntKind.u64 Q 2047=E) (t:(E != 2047)=Z) (w:World):Calls Tryz.prog 38 #[.int .u64 X] w fun e w'=>e=.returned (.bool Z)∧w'=w:=by
 cases Z
 all_goals (
  go_enter Tryz.func38,Tryz.ntmps38
  go_wp2
  exact BR (v:=.bool _) (by simp [results,Tryz.results38,go_sem] <;> simpa using t) rfl ⟨rfl,rfl⟩)
theorem fin_ (n:Bool) (m:Nat) (hm:m<9223372036854775808) (w:World):Calls Tryz.prog 38 #[.int .u64 ((Fq.wD n m:Nat):Int)] w fun e w'=>e=.returned (.bool (decide (m<9218868437227405312)))∧w'=w:=by
 obtain ⟨X,hX⟩:∃ X,X=Fq.wD n m:=⟨_,rfl⟩
 obtain ⟨Q,hQ⟩:∃ Q,Q=X / 4503599627370496:=⟨_,rfl⟩
 have hX9:X<18446744073709551616:=by rw [hX];unfold Fq.wD;split <;> omega
 have e1:Q % 2048=m / 4503599627370496:=by rw [hQ,hX];unfold Fq.wD;split <;> omega
 have f2:bits BinOp.and IntKind.u64 (Q:Int) 2047=((m / 4503599627370496:Nat):Int):=by
  have h:=u64_and_nat Q 2047 (by omega) (by decide)
  rw [show (2047:Nat)=2 ^ 11 - 1 from by decide,Nat.and_two_pow_sub_one_eq_mod,show (2:Nat) ^ 11=2048 from by decide,e1] at h
  exact h
 rw [← hX]
 refine finA_ _ _ _ _ (by rw [hQ];exact (Int.natCast_ediv _ _).symm) f2 ?_ w
 by_cases c:m<9218868437227405312
 ·rw [decide_eq_true c];simp;omega
 ·rw [decide_eq_false c];simp;omega
set_option linter.unusedVariables false
theorem eq7n (x:Nat) (h:(FloatKind.f64.format.order x x == some Ordering.eq)=true) (w:World):(Op.equalIn 9999 22 (.float .f64 x) (.float .f64 x)).run Tryz.prog w=.ok true w:=by
 have g:=Fq.eqIn6 x x w
 rw [h] at g
 exact g
theorem of7P_ (x y:Nat) (w:World):Calls Tryz.prog 9 #[.float .f64 x,.float .f64 y] w fun e w'=>e=.returned (.agg #[.float .f64 x,.float .f64 y])∧Kp w w':=by
 go_enter Tryz.func9,Tryz.ntmps9
 go_wp2
 exact BR (v:=.agg #[.float .f64 x,.float .f64 y]) (by simp [results,Tryz.results9,go_sem]) rfl ⟨rfl,(Kp.refl w).alloc _⟩
theorem livesA_ (PP:Nat→Nat→Int→Nat→Nat→Prop) (PI:Nat→Nat→Nat→Nat→Nat→Nat→Nat→Prop) (PU:Nat→Nat→Nat→Nat→Nat→Prop) (hP:∀ x1 x2 N z1 z2,PP x1 x2 N z1 z2→∀ w:World,TU7 w→Calls Tryz.prog 11 #[.agg #[.float .f64 x1,.float .f64 x2],.int .i64 N] w fun e w'=>e=.returned (.agg #[.float .f64 z1,.float .f64 z2])∧Kp w w') (hI:∀ f x1 x2 y1 y2 z1 z2,PI f x1 x2 y1 y2 z1 z2→∀ w:World,TU7 w→Calls Tryz.prog f #[.agg #[.float .f64 x1,.float .f64 x2],.agg #[.float .f64 y1,.float .f64 y2]] w fun e w'=>e=.returned (.agg #[.float .f64 z1,.float .f64 z2])∧Kp w w') (hU:∀ f x1 x2 z1 z2,PU f x1 x2 z1 z2→∀ w:World,TU7 w→Calls Tryz.prog f #[.agg #[.float .f64 x1,.float .f64 x2]] w fun e w'=>e=.returned (.agg #[.float .f64 z1,.float .f64 z2])∧Kp w w') (hof:∀ (x y:Nat) (w:World),Calls Tryz.prog 9 #[.float .f64 x,.float .f64 y] w fun e w'=>e=.returned (.agg #[.float .f64 x,.float .f64 y])∧Kp w w') (fp0:PP 13835058055282163712 4613937818241073152 (3) 13844065254536904704 4628293042053316608) (fi0:PI 25 4607182418800017408 4616189618054758400 4611686018427387904 4613937818241073152 4611686018427387904 4616189618054758400) (fu0:PU 35 13837309855095848960 4611686018427387904 0 4613937818241073152) (fu1:PU 18 4602678819172646912 4612811918334230528 0 4611686018427387904) (w:World) (hTW:TU7 w):Calls Tryz.prog 10 #[] w fun e w'=>e=.returned (.bool true)∧Kp w w':=by
 have gq:=Kp.refl w
 have e0:=eq7n 0 (by decide +kernel)
 have e4611686018427387904:=eq7n 4611686018427387904 (by decide +kernel)
 have e4613937818241073152:=eq7n 4613937818241073152 (by decide +kernel)
 have e4616189618054758400:=eq7n 4616189618054758400 (by decide +kernel)
 have e4628293042053316608:=eq7n 4628293042053316608 (by decide +kernel)
 have e13844065254536904704:=eq7n 13844065254536904704 (by decide +kernel)
 go_enter Tryz.func10,Tryz.ntmps10
 go_wp2_with (first | (go_at_call 11;refine (hP _ _ _ _ _ (by first | exact fp0) _ hTW).mono ?_;rintro e wx ⟨rfl,gx⟩;replace gq:=Kp.trans gq gx;replace hTW:=hTW.kp gx;clear gx) | (go_at_call 25;refine (hI 25 _ _ _ _ _ _ (by first | exact fi0) _ hTW).mono ?_;rintro e wx ⟨rfl,gx⟩;replace gq:=Kp.trans gq gx;replace hTW:=hTW.kp gx;clear gx) | (go_at_call 18;refine (hU 18 _ _ _ _ (by first | exact fu0 | exact fu1) _ hTW).mono ?_;rintro e wx ⟨rfl,gx⟩;replace gq:=Kp.trans gq gx;replace hTW:=hTW.kp gx;clear gx) | (go_at_call 35;refine (hU 35 _ _ _ _ (by first | exact fu0 | exact fu1) _ hTW).mono ?_;rintro e wx ⟨rfl,gx⟩;replace gq:=Kp.trans gq gx;replace hTW:=hTW.kp gx;clear gx) | (go_at_call 9;refine (hof _ _ _).mono ?_;rintro e wx ⟨rfl,gx⟩;replace gq:=Kp.trans gq gx;replace hTW:=hTW.kp gx;clear gx))
 exact BR (v:=.bool true) (by simp [results,Tryz.results10,go_sem]) rfl ⟨rfl,gq⟩
set_option linter.unusedVariables false
theorem Rd.lit (a b:Nat) (L H:Int) (ea:pw L=a) (eb:pw H=b) (h:decide ((L=9218868437227405312∧H = -9218868437227405312)∨(-9218868437227405312≤L∧L<9218868437227405312∧-9218868437227405312<H∧H≤9218868437227405312∧L≤H))=true):Rd a b L H:=by
 have v:VdZ L H:=by unfold VdZ;exact of_decide_eq_true h
 have r:=Rd.of v
 rw [ea,eb] at r
 exact r
theorem lvp0_ (w:World) (hT:TU7 w):Calls Tryz.prog 11 #[.agg #[.float .f64 13835058055282163712,.float .f64 4613937818241073152],.int .i64 (3)] w fun e w'=>e=.returned (.agg #[.float .f64 13844065254536904704,.float .f64 4628293042053316608])∧Kp w w':=by
 have h:=pown9_ 1074 rfl 13835058055282163712 4613937818241073152 (-4611686018427387904:Int) (4613937818241073152:Int) (3) (Rd.lit 13835058055282163712 4613937818241073152 (-4611686018427387904:Int) (4613937818241073152:Int) (by decide) (by decide) (by decide)) w hT
 rw [show pw (nLo 1074 (3) (-4611686018427387904:Int) (4613937818241073152:Int))=13844065254536904704 from by decide +kernel,show pw (nHi 1074 (3) (-4611686018427387904:Int) (4613937818241073152:Int))=4628293042053316608 from by decide +kernel] at h
 exact h
theorem lvi0_ (w:World) (hT:TU7 w):Calls Tryz.prog 25 #[.agg #[.float .f64 4607182418800017408,.float .f64 4616189618054758400],.agg #[.float .f64 4611686018427387904,.float .f64 4613937818241073152]] w fun e w'=>e=.returned (.agg #[.float .f64 4611686018427387904,.float .f64 4616189618054758400])∧Kp w w':=by
 have h:=maxP9_ 4607182418800017408 4616189618054758400 4611686018427387904 4613937818241073152 (4607182418800017408:Int) (4616189618054758400:Int) (4611686018427387904:Int) (4613937818241073152:Int) (Rd.lit 4607182418800017408 4616189618054758400 (4607182418800017408:Int) (4616189618054758400:Int) (by decide) (by decide) (by decide)) (Rd.lit 4611686018427387904 4613937818241073152 (4611686018427387904:Int) (4613937818241073152:Int) (by decide) (by decide) (by decide)) w
 rw [show pw (maxLo (4607182418800017408:Int) (4616189618054758400:Int) (4611686018427387904:Int) (4613937818241073152:Int))=4611686018427387904 from by decide +kernel,show pw (maxHi (4607182418800017408:Int) (4616189618054758400:Int) (4611686018427387904:Int) (4613937818241073152:Int))=4616189618054758400 from by decide +kernel] at h
 exact h
theorem lvu0_ (w:World) (hT:TU7 w):Calls Tryz.prog 35 #[.agg #[.float .f64 13837309855095848960,.float .f64 4611686018427387904]] w fun e w'=>e=.returned (.agg #[.float .f64 0,.float .f64 4613937818241073152])∧Kp w w':=by
 have h:=absP9_ 13837309855095848960 4611686018427387904 (-4613937818241073152:Int) (4611686018427387904:Int) (Rd.lit 13837309855095848960 4611686018427387904 (-4613937818241073152:Int) (4611686018427387904:Int) (by decide) (by decide) (by decide)) w
 rw [show pw (bsLo (-4613937818241073152:Int) (4611686018427387904:Int))=0 from by decide +kernel,show pw (bsHi (-4613937818241073152:Int) (4611686018427387904:Int))=4613937818241073152 from by decide +kernel] at h
 exact h
theorem lvu1_ (w:World) (hT:TU7 w):Calls Tryz.prog 18 #[.agg #[.float .f64 4602678819172646912,.float .f64 4612811918334230528]] w fun e w'=>e=.returned (.agg #[.float .f64 0,.float .f64 4611686018427387904])∧Kp w w':=by
 have h:=stepB4_ 1074 rfl 4602678819172646912 4612811918334230528 (4602678819172646912:Int) (4612811918334230528:Int) (Rd.lit 4602678819172646912 4612811918334230528 (4602678819172646912:Int) (4612811918334230528:Int) (by decide) (by decide) (by decide)) w
 rw [show pw (gLo 1074 4 (4602678819172646912:Int) (4612811918334230528:Int))=0 from by decide +kernel,show pw (gHi 1074 4 (4602678819172646912:Int) (4612811918334230528:Int))=4611686018427387904 from by decide +kernel] at h
 exact h
theorem lives7_ (w:World) (hT:TU7 w):Calls Tryz.prog 10 #[] w fun e w'=>e=.returned (.bool true)∧Kp w w':=livesA_ (fun x1 x2 N z1 z2=>∀ w:World,TU7 w→Calls Tryz.prog 11 #[.agg #[.float .f64 x1,.float .f64 x2],.int .i64 N] w fun e w'=>e=.returned (.agg #[.float .f64 z1,.float .f64 z2])∧Kp w w') (fun f x1 x2 y1 y2 z1 z2=>∀ w:World,TU7 w→Calls Tryz.prog f #[.agg #[.float .f64 x1,.float .f64 x2],.agg #[.float .f64 y1,.float .f64 y2]] w fun e w'=>e=.returned (.agg #[.float .f64 z1,.float .f64 z2])∧Kp w w') (fun f x1 x2 z1 z2=>∀ w:World,TU7 w→Calls Tryz.prog f #[.agg #[.float .f64 x1,.float .f64 x2]] w fun e w'=>e=.returned (.agg #[.float .f64 z1,.float .f64 z2])∧Kp w w') (fun _ _ _ _ _ h=>h) (fun _ _ _ _ _ _ _ h=>h) (fun _ _ _ _ _ h=>h) of7P_ lvp0_ lvi0_ lvu0_ lvu1_ w hT
set_option linter.unusedVariables false

def QS (b:Nat) (i j:Int) (ZA ZB:Int→Nat) (W:World) (v:Value):Prop:=∃ (s:Bool) (p:Option Addr) (l c:Nat) (q:Option Addr) (k d:Nat) (s2:Bool) (p2:Option Addr) (l2 c2:Nat) (q2:Option Addr) (k2 d2:Nat),v=.agg #[.bool false,.int .i64 i,.bool s,.slice p l c,.slice q k d,.int .i64 j,.bool s2,.slice p2 l2 c2,.slice q2 k2 d2]∧(i=0→QP b W s p l c q k d ZA)∧(j=0→QP b W s2 p2 l2 c2 q2 k2 d2 ZB)
set_option linter.unusedVariables false
def Ab (V:Int) (C:Nat) (L H:Int):Prop:=(L=H∧-9218868437227405312<L∧L<9218868437227405312∧vZ L*(C:Int)=V)∨(H=L+1∧-9218868437227405312≤L∧H≤9218868437227405312∧(-9218868437227405312<L→vZ L*(C:Int)<V)∧(H<9218868437227405312→V<vZ H*(C:Int)))
theorem ab_g (C:Nat) (hC:0<C) (V:Int):Ab V C (g53 (-1) 1 C V) (g53 1 1 C V):=by
 have h:=g53_tight 1 C hC V vZ vZ_pos vZ_neg
 rw [show V*((1:Nat):Int)=V from Int.mul_one V] at h
 rcases h with ⟨h1,_,h3,h4,h5⟩ | ⟨h1,h2,h3,h4,h5,_⟩
 ·exact Or.inl ⟨h1,by omega,by omega,h5⟩
 ·exact Or.inr ⟨h1,by omega,by omega,fun h=>h4 (by omega),fun h=>h5 (by omega)⟩
set_option linter.unusedVariables false

def pA (k:Nat) (z:Int):Int:=vZ z ^ k
def pDn (K k:Nat):Nat:=2 ^ (K*(k - 1))
theorem pU_ab (K k:Nat) (z:Int) (f:-9218868437227405312<z∧z<9218868437227405312):Ab (pA k z) (pDn K k) (pU K (-1) k z) (pU K 1 k z):=by
 have e:∀ d,pU K d k z=g53 d 1 (pDn K k) (pA k z):=fun d=>by
  unfold pU pA pDn;rw [if_neg (by omega),if_neg (by omega)]
 rw [e,e]
 exact ab_g _ (Nat.two_pow_pos _) _
theorem pA_even (k:Nat) (o:k % 2=0) (z:Int):pA k (z.natAbs:Int)=pA k z:=by
 unfold pA
 rcases Int.lt_or_le z 0 with c | c
 ·rw [show ((z.natAbs:Nat):Int) = -z by omega,vZ_neg]
  have e:∀ (x:Int) (k:Nat),(-x) ^ k=if k % 2=1 then -(x ^ k) else x ^ k:=by
   intro x k
   induction k with
   | zero=>simp
   | succ j ih =>
     rw [Int.pow_succ,Int.pow_succ,ih]
     by_cases c:j % 2=1
     ·rw [if_pos c,if_neg (by omega)];simp [Int.mul_neg,Int.neg_mul]
     ·rw [if_neg c,if_pos (by omega)];simp [Int.mul_neg]
  rw [e,if_neg (by omega)]
 ·rw [show ((z.natAbs:Nat):Int)=z by omega]
theorem pU_even (K k:Nat) (d:Int) (o:k % 2=0) (z:Int) (f:-9218868437227405312<z∧z<9218868437227405312):pU K d k (z.natAbs:Int)=pU K d k z:=by
 have e:=pA_even k o z
 unfold pA at e
 unfold pU
 rw [if_neg (by omega),if_neg (by omega),if_neg (by omega),if_neg (by omega),e]
theorem mulD (D:Nat) (hD:0<D) (x y:Int) (h:x≤y):x*(D:Int)≤y*(D:Int):=Int.mul_le_mul_of_nonneg_right h (by omega)
theorem mulDl (D:Nat) (hD:0<D) (x y:Int) (h:x<y):x*(D:Int)<y*(D:Int):=Int.mul_lt_mul_of_pos_right h (by omega)
set_option linter.unusedVariables false
theorem sM_in (L H z:Int) (hd:L≤H) (h:L≤z∧z≤H):0≤sMl L H∧sMl L H≤(z.natAbs:Int)∧(z.natAbs:Int)≤sMh L H:=by
 unfold sMl sMh
 split <;> omega
theorem tp_all (K k:Nat) (hk:0<k) (hk2:k≤1024) (L H:Int) (hd:L≤H) (fL:-9218868437227405312<L) (fH:H<9218868437227405312) (z:Int) (h:L≤z∧z≤H):nLo K (k:Int) L H≤pU K (-1) k z∧pU K 1 k z≤nHi K (k:Int) L H:=by
 have n0:¬ (k:Int)=0:=by omega
 have pn:∀ d z,pnZ K d (k:Int) z=pU K d k z:=fun d z=>by unfold pnZ;rw [if_neg n0,if_pos (by omega),show ((k:Nat):Int).natAbs=k by omega]
 have s:=sM_in L H z hd h
 have a1:¬ L=9218868437227405312:=by omega
 have a2:¬ ((k:Int) < -1024∨1024<(k:Int)):=by omega
 have a3:¬ (k:Int)<0:=by omega
 unfold nLo nHi
 rw [if_neg a1,if_neg a1,if_neg a2,if_neg a2,if_neg a3,if_neg a3]
 by_cases e:k % 2=0
 ·have a4:(k:Int) % 2=0:=by omega
  rw [if_pos a4,if_pos a4,pn,pn,← pU_even K k (-1) e z (by omega),← pU_even K k 1 e z (by omega)]
  have bM:sMh L H<9218868437227405312:=by unfold sMh;omega
  exact ⟨pU_mono K (-1) k hk _ _ (by unfold BdZ;omega) (by unfold BdZ;omega) (Or.inr s.1) s.2.1,pU_mono K 1 k hk _ _ (by unfold BdZ;omega) (by unfold BdZ;omega) (Or.inr (by omega)) s.2.2⟩
 ·have a4:¬ (k:Int) % 2=0:=by omega
  rw [if_neg a4,if_neg a4,pn,pn]
  exact ⟨pU_mono K (-1) k hk _ _ (by unfold BdZ;omega) (by unfold BdZ;omega) (Or.inl (by omega)) h.1,pU_mono K 1 k hk _ _ (by unfold BdZ;omega) (by unfold BdZ;omega) (Or.inl (by omega)) h.2⟩
set_option linter.unusedVariables false
theorem ptC (K k:Nat) (hk:0<k):(((2 ^ K) ^ k:Nat):Int)=(pDn K k:Int)*((2 ^ K:Nat):Int):=by
 have h:(2 ^ K) ^ k=pDn K k*2 ^ K:=by
  unfold pDn
  obtain ⟨j,rfl⟩:∃ j,k=j+1:=⟨k - 1,by omega⟩
  rw [← Nat.pow_mul,← Nat.pow_add,Nat.add_sub_cancel,Nat.mul_succ]
 rw [h,Int.natCast_mul]
theorem sc_le (A v D P:Int) (hP:0<P) (h:A≤v*D):A*P≤v*(D*P):=by
 rw [← Int.mul_assoc];exact Int.mul_le_mul_of_nonneg_right h (Int.le_of_lt hP)
theorem sc_le2 (A v D P:Int) (hP:0<P) (h:v*D≤A):v*(D*P)≤A*P:=by
 rw [← Int.mul_assoc];exact Int.mul_le_mul_of_nonneg_right h (Int.le_of_lt hP)
theorem cmI_gt0 (x y:Int) (h:y<x):0<cmI x y:=by unfold cmI;rw [if_neg (by omega),if_pos h];decide
theorem pI_eq (z c:Int) (hz:BdZ z) (hc:BdZ c):(pI z == pI c)=decide (z=c):=by
 unfold BdZ at hz hc
 have e1:=pw_v z
 have e2:=pw_v c
 unfold pI;rw [e1,e2,Bool.eq_iff_iff,beq_iff_eq,decide_eq_true_iff]
 by_cases a:z<0
 ·by_cases b:c<0
  ·rw [if_pos a,if_pos b];omega
  ·rw [if_pos a,if_neg b];omega
 ·by_cases b:c<0
  ·rw [if_neg a,if_pos b];omega
  ·rw [if_neg a,if_neg b];omega
set_option linter.unusedVariables false
set_option linter.unusedVariables false
theorem vZ_1 (K:Nat) (hK:K=1074):vZ 4607182418800017408=((2 ^ K:Nat):Int):=by
 rw [vZ_pos _ (by omega),show (4607182418800017408:Int).natAbs=4607182418800017408 from rfl,vV_one K hK]
set_option linter.unusedVariables false
theorem stepC0_ (a b X Y:Nat) (w:World) (h:∀ W:World,Kp w W→Calls Tryz.prog 12 #[.agg #[.float .f64 a,.float .f64 b]] W fun e w'=>e=.returned (.agg #[.float .f64 X,.float .f64 Y])∧Kp W w'):Calls Tryz.prog 36 #[.int .i64 0,.agg #[.float .f64 a,.float .f64 b]] w fun e w'=>e=.returned (.agg #[.float .f64 X,.float .f64 Y])∧Kp w w':=by
 have kv:Kp w ((w.alloc (.cells #[.float .f64 a,.float .f64 b] 25)).alloc (.cells #[.float .f64 0,.float .f64 0] 25)):=((Kp.refl w).alloc _).alloc _
 have qy:=Fq.H2.two0 w (.float .f64 a) (.float .f64 b) (.float .f64 0) (.float .f64 0) 25 25
 go_enter Tryz.func36,Tryz.ntmps36
 go_wp2_with (first | (go_at_call 12;refine (h _ kv).mono ?_;rintro e w3 ⟨rfl,g3⟩;have k3:Kp w w3:=Kp.trans kv g3;obtain ⟨z0,z1,z2,z3⟩:=Fq.H2.keep qy g3))
 exact BR (v:=.agg #[.float .f64 X,.float .f64 Y]) (by simp [results,Tryz.results36,go_sem,z0,z1]) rfl ⟨rfl,(k3.setCell (by simp) _).setCell (by simp) _⟩
theorem stepC1_ (a b X Y:Nat) (w:World) (h:∀ W:World,Kp w W→Calls Tryz.prog 13 #[.agg #[.float .f64 a,.float .f64 b]] W fun e w'=>e=.returned (.agg #[.float .f64 X,.float .f64 Y])∧Kp W w'):Calls Tryz.prog 36 #[.int .i64 1,.agg #[.float .f64 a,.float .f64 b]] w fun e w'=>e=.returned (.agg #[.float .f64 X,.float .f64 Y])∧Kp w w':=by
 have kv:Kp w ((w.alloc (.cells #[.float .f64 a,.float .f64 b] 25)).alloc (.cells #[.float .f64 0,.float .f64 0] 25)):=((Kp.refl w).alloc _).alloc _
 have qy:=Fq.H2.two0 w (.float .f64 a) (.float .f64 b) (.float .f64 0) (.float .f64 0) 25 25
 go_enter Tryz.func36,Tryz.ntmps36
 go_wp2_with (first | (go_at_call 13;refine (h _ kv).mono ?_;rintro e w3 ⟨rfl,g3⟩;have k3:Kp w w3:=Kp.trans kv g3;obtain ⟨z0,z1,z2,z3⟩:=Fq.H2.keep qy g3))
 exact BR (v:=.agg #[.float .f64 X,.float .f64 Y]) (by simp [results,Tryz.results36,go_sem,z0,z1]) rfl ⟨rfl,(k3.setCell (by simp) _).setCell (by simp) _⟩
theorem stepC2_ (a b X Y:Nat) (w:World) (h:∀ W:World,Kp w W→Calls Tryz.prog 14 #[.agg #[.float .f64 a,.float .f64 b]] W fun e w'=>e=.returned (.agg #[.float .f64 X,.float .f64 Y])∧Kp W w'):Calls Tryz.prog 36 #[.int .i64 2,.agg #[.float .f64 a,.float .f64 b]] w fun e w'=>e=.returned (.agg #[.float .f64 X,.float .f64 Y])∧Kp w w':=by
 have kv:Kp w ((w.alloc (.cells #[.float .f64 a,.float .f64 b] 25)).alloc (.cells #[.float .f64 0,.float .f64 0] 25)):=((Kp.refl w).alloc _).alloc _
 have qy:=Fq.H2.two0 w (.float .f64 a) (.float .f64 b) (.float .f64 0) (.float .f64 0) 25 25
 go_enter Tryz.func36,Tryz.ntmps36
 go_wp2_with (first | (go_at_call 14;refine (h _ kv).mono ?_;rintro e w3 ⟨rfl,g3⟩;have k3:Kp w w3:=Kp.trans kv g3;obtain ⟨z0,z1,z2,z3⟩:=Fq.H2.keep qy g3))
 exact BR (v:=.agg #[.float .f64 X,.float .f64 Y]) (by simp [results,Tryz.results36,go_sem,z0,z1]) rfl ⟨rfl,(k3.setCell (by simp) _).setCell (by simp) _⟩
theorem stepC3_ (a b X Y:Nat) (w:World) (h:∀ W:World,Kp w W→Calls Tryz.prog 15 #[.agg #[.float .f64 a,.float .f64 b]] W fun e w'=>e=.returned (.agg #[.float .f64 X,.float .f64 Y])∧Kp W w'):Calls Tryz.prog 36 #[.int .i64 3,.agg #[.float .f64 a,.float .f64 b]] w fun e w'=>e=.returned (.agg #[.float .f64 X,.float .f64 Y])∧Kp w w':=by
 have kv:Kp w ((w.alloc (.cells #[.float .f64 a,.float .f64 b] 25)).alloc (.cells #[.float .f64 0,.float .f64 0] 25)):=((Kp.refl w).alloc _).alloc _
 have qy:=Fq.H2.two0 w (.float .f64 a) (.float .f64 b) (.float .f64 0) (.float .f64 0) 25 25
 go_enter Tryz.func36,Tryz.ntmps36
 go_wp2_with (first | (go_at_call 15;refine (h _ kv).mono ?_;rintro e w3 ⟨rfl,g3⟩;have k3:Kp w w3:=Kp.trans kv g3;obtain ⟨z0,z1,z2,z3⟩:=Fq.H2.keep qy g3))
 exact BR (v:=.agg #[.float .f64 X,.float .f64 Y]) (by simp [results,Tryz.results36,go_sem,z0,z1]) rfl ⟨rfl,(k3.setCell (by simp) _).setCell (by simp) _⟩
theorem stepC4_ (a b X Y:Nat) (w:World) (h:∀ W:World,Kp w W→Calls Tryz.prog 18 #[.agg #[.float .f64 a,.float .f64 b]] W fun e w'=>e=.returned (.agg #[.float .f64 X,.float .f64 Y])∧Kp W w'):Calls Tryz.prog 36 #[.int .i64 4,.agg #[.float .f64 a,.float .f64 b]] w fun e w'=>e=.returned (.agg #[.float .f64 X,.float .f64 Y])∧Kp w w':=by
 have kv:Kp w ((w.alloc (.cells #[.float .f64 a,.float .f64 b] 25)).alloc (.cells #[.float .f64 0,.float .f64 0] 25)):=((Kp.refl w).alloc _).alloc _
 have qy:=Fq.H2.two0 w (.float .f64 a) (.float .f64 b) (.float .f64 0) (.float .f64 0) 25 25
 go_enter Tryz.func36,Tryz.ntmps36
 go_wp2_with (first | (go_at_call 18;refine (h _ kv).mono ?_;rintro e w3 ⟨rfl,g3⟩;have k3:Kp w w3:=Kp.trans kv g3;obtain ⟨z0,z1,z2,z3⟩:=Fq.H2.keep qy g3))
 exact BR (v:=.agg #[.float .f64 X,.float .f64 Y]) (by simp [results,Tryz.results36,go_sem,z0,z1]) rfl ⟨rfl,(k3.setCell (by simp) _).setCell (by simp) _⟩
theorem stepC5_ (a b X Y:Nat) (w:World) (h:∀ W:World,Kp w W→Calls Tryz.prog 17 #[.agg #[.float .f64 a,.float .f64 b]] W fun e w'=>e=.returned (.agg #[.float .f64 X,.float .f64 Y])∧Kp W w'):Calls Tryz.prog 36 #[.int .i64 5,.agg #[.float .f64 a,.float .f64 b]] w fun e w'=>e=.returned (.agg #[.float .f64 X,.float .f64 Y])∧Kp w w':=by
 have kv:Kp w ((w.alloc (.cells #[.float .f64 a,.float .f64 b] 25)).alloc (.cells #[.float .f64 0,.float .f64 0] 25)):=((Kp.refl w).alloc _).alloc _
 have qy:=Fq.H2.two0 w (.float .f64 a) (.float .f64 b) (.float .f64 0) (.float .f64 0) 25 25
 go_enter Tryz.func36,Tryz.ntmps36
 go_wp2_with (first | (go_at_call 17;refine (h _ kv).mono ?_;rintro e w3 ⟨rfl,g3⟩;have k3:Kp w w3:=Kp.trans kv g3;obtain ⟨z0,z1,z2,z3⟩:=Fq.H2.keep qy g3))
 exact BR (v:=.agg #[.float .f64 X,.float .f64 Y]) (by simp [results,Tryz.results36,go_sem,z0,z1]) rfl ⟨rfl,(k3.setCell (by simp) _).setCell (by simp) _⟩
theorem step9_ (K:Nat) (hK:K=1074) (k:Nat) (hk:k<6) (a b:Nat) (L H:Int) (hx:Rd a b L H) (w:World):Calls Tryz.prog 36 #[.int .i64 (k:Int),.agg #[.float .f64 a,.float .f64 b]] w fun e w'=>e=.returned (.agg #[.float .f64 (pw (gLo K k L H)),.float .f64 (pw (gHi K k L H))])∧Kp w w':=by
 by_cases c0:k=0
 ·subst c0;exact stepC0_ a b _ _ w (fun W _=>stepB0_ K hK a b L H hx W)
 by_cases c1:k=1
 ·subst c1;exact stepC1_ a b _ _ w (fun W _=>stepB1_ K hK a b L H hx W)
 by_cases c2:k=2
 ·subst c2;exact stepC2_ a b _ _ w (fun W _=>stepB2_ K hK a b L H hx W)
 by_cases c3:k=3
 ·subst c3;exact stepC3_ a b _ _ w (fun W _=>stepB3_ K hK a b L H hx W)
 by_cases c4:k=4
 ·subst c4;exact stepC4_ a b _ _ w (fun W _=>stepB4_ K hK a b L H hx W)
 by_cases c5:k=5
 ·subst c5;exact stepC5_ a b _ _ w (fun W _=>stepB5_ K hK a b L H hx W)
 omega
set_option linter.unusedVariables false
theorem rfF_ (p:Option Addr) (l c:Nat) (q:Option Addr) (k d lq lr:Nat) (QP:World→Option Addr→Nat→Prop) (w:World) (hby:∀ W:World,Kp w W→Calls Tryz.prog 135 #[.slice p l c,.slice q k d] W fun e w'=>∃ (p1:Option Addr) (c1:Nat) (p2:Option Addr) (c2:Nat),e=.returned (.tuple #[.slice p1 lq c1,.slice p2 lr c2])∧QP w' p1 c1∧Kp W w'):Calls Tryz.prog 103 #[.agg #[.bool false,.slice p l c,.slice q k d]] w fun e w'=>∃ (p1:Option Addr) (c1:Nat),e=.returned (.tuple #[.bool false,.slice p1 lq c1])∧QP w' p1 c1∧Kp w w':=by
 have k0:Kp w (w.alloc (.cells #[.bool false,.slice p l c,.slice q k d] 43)):=(Kp.refl w).alloc _
 have q0:=H3c.new w (.bool false) (.slice p l c) (.slice q k d) 43
 obtain ⟨x0,x1,x2,x3,x4,x5⟩:=id q0
 go_enter Tryz.func103,Tryz.ntmps103
 go_wp2_with (first | (go_at_call 135;refine (hby _ k0).mono ?_;rintro e w1 ⟨p1,c1,p2,c2,rfl,h1,g1⟩;have q1:=H3c.keep q0 g1;have kw:=Kp.trans k0 g1;clear x0 x1 x2 x3 x4 x5;obtain ⟨x0,x1,x2,x3,x4,x5⟩:=id q1))
 exact BR (v:=.tuple #[.bool false,.slice p1 lq c1]) (by simp [results,Tryz.results103,go_sem]) rfl ⟨p1,c1,rfl,h1,kw⟩
theorem rfZ0_ (p:Option Addr) (l c:Nat) (q:Option Addr) (k d lq lr:Nat) (QP:World→Option Addr→Nat→Prop) (t1:lr=0) (t2:lq=0) (w:World) (hby:∀ W:World,Kp w W→Calls Tryz.prog 135 #[.slice p l c,.slice q k d] W fun e w'=>∃ (p1:Option Addr) (c1:Nat) (p2:Option Addr) (c2:Nat),e=.returned (.tuple #[.slice p1 lq c1,.slice p2 lr c2])∧QP w' p1 c1∧Kp W w'):Calls Tryz.prog 103 #[.agg #[.bool true,.slice p l c,.slice q k d]] w fun e w'=>∃ (p1:Option Addr) (c1:Nat),e=.returned (.tuple #[.bool false,.slice p1 lq c1])∧QP w' p1 c1∧Kp w w':=by
 subst t1;subst t2
 have k0:Kp w (w.alloc (.cells #[.bool true,.slice p l c,.slice q k d] 43)):=(Kp.refl w).alloc _
 have q0:=H3c.new w (.bool true) (.slice p l c) (.slice q k d) 43
 obtain ⟨x0,x1,x2,x3,x4,x5⟩:=id q0
 go_enter Tryz.func103,Tryz.ntmps103
 go_wp2_with (first | (go_at_call 135;refine (hby _ k0).mono ?_;rintro e w1 ⟨p1,c1,p2,c2,rfl,h1,g1⟩;have q1:=H3c.keep q0 g1;have kw:=Kp.trans k0 g1;clear x0 x1 x2 x3 x4 x5;obtain ⟨x0,x1,x2,x3,x4,x5⟩:=id q1))
 exact BR (v:=.tuple #[.bool false,.slice p1 0 c1]) (by simp [results,Tryz.results103,go_sem]) rfl ⟨p1,c1,rfl,h1,kw⟩
theorem rfZ1_ (p:Option Addr) (l c:Nat) (q:Option Addr) (k d lq lr:Nat) (QP:World→Option Addr→Nat→Prop) (t1:lr=0) (t2:0<lq) (w:World) (hby:∀ W:World,Kp w W→Calls Tryz.prog 135 #[.slice p l c,.slice q k d] W fun e w'=>∃ (p1:Option Addr) (c1:Nat) (p2:Option Addr) (c2:Nat),e=.returned (.tuple #[.slice p1 lq c1,.slice p2 lr c2])∧QP w' p1 c1∧Kp W w'):Calls Tryz.prog 103 #[.agg #[.bool true,.slice p l c,.slice q k d]] w fun e w'=>∃ (p1:Option Addr) (c1:Nat),e=.returned (.tuple #[.bool true,.slice p1 lq c1])∧QP w' p1 c1∧Kp w w':=by
 subst t1;have t3:(0:Int)<(lq:Int):=by omega
 have k0:Kp w (w.alloc (.cells #[.bool true,.slice p l c,.slice q k d] 43)):=(Kp.refl w).alloc _
 have q0:=H3c.new w (.bool true) (.slice p l c) (.slice q k d) 43
 obtain ⟨x0,x1,x2,x3,x4,x5⟩:=id q0
 go_enter Tryz.func103,Tryz.ntmps103
 go_wp2_with (first | (go_at_call 135;refine (hby _ k0).mono ?_;rintro e w1 ⟨p1,c1,p2,c2,rfl,h1,g1⟩;have q1:=H3c.keep q0 g1;have kw:=Kp.trans k0 g1;clear x0 x1 x2 x3 x4 x5;obtain ⟨x0,x1,x2,x3,x4,x5⟩:=id q1))
 exact BR (v:=.tuple #[.bool true,.slice p1 lq c1]) (by simp [results,Tryz.results103,go_sem]) rfl ⟨p1,c1,rfl,h1,kw⟩
theorem rfP_ (p:Option Addr) (l c:Nat) (q:Option Addr) (k d lq lr:Nat) (QP:World→Option Addr→Nat→Prop) (l3:Nat) (QS:World→Option Addr→Nat→Prop) (t1:0<lr) (t2:0<l3) (w:World) (hby:∀ W:World,Kp w W→Calls Tryz.prog 135 #[.slice p l c,.slice q k d] W fun e w'=>∃ (p1:Option Addr) (c1:Nat) (p2:Option Addr) (c2:Nat),e=.returned (.tuple #[.slice p1 lq c1,.slice p2 lr c2])∧QP w' p1 c1∧Kp W w') (hpl:∀ (W:World) (p1:Option Addr) (c1:Nat),QP W p1 c1→Calls Tryz.prog 104 #[.slice p1 lq c1,.slice (some ⟨W.heap.size,0,none⟩) 1 1] (W.alloc (.cells #[.int .u32 1] 81)) fun e w'=>∃ (p3:Option Addr) (c3:Nat),e=.returned (.slice p3 l3 c3)∧QS w' p3 c3∧Kp (W.alloc (.cells #[.int .u32 1] 81)) w'):Calls Tryz.prog 103 #[.agg #[.bool true,.slice p l c,.slice q k d]] w fun e w'=>∃ (p1:Option Addr) (c1:Nat),e=.returned (.tuple #[.bool true,.slice p1 l3 c1])∧QS w' p1 c1∧Kp w w':=by
 have t3:(0:Int)<(lr:Int):=by omega
 have t4:(0:Int)<(l3:Int):=by omega
 have k0:Kp w (w.alloc (.cells #[.bool true,.slice p l c,.slice q k d] 43)):=(Kp.refl w).alloc _
 have q0:=H3c.new w (.bool true) (.slice p l c) (.slice q k d) 43
 obtain ⟨x0,x1,x2,x3,x4,x5⟩:=id q0
 go_enter Tryz.func103,Tryz.ntmps103
 go_wp2_with (first | (go_at_call 135;refine (hby _ k0).mono ?_;rintro e w1 ⟨p1,c1,p2,c2,rfl,h1,g1⟩;have q1:=H3c.keep q0 g1;have kw:=Kp.trans k0 g1;clear x0 x1 x2 x3 x4 x5;obtain ⟨x0,x1,x2,x3,x4,x5⟩:=id q1) | (go_at_call 104;refine (hpl _ _ _ h1).mono ?_;rintro e w2 ⟨p3,c3,rfl,h3,g2⟩;have k2:=Kp.trans kw (Kp.trans ((Kp.refl _).alloc _) g2);have q2:=H3c.keep q1 (Kp.trans ((Kp.refl _).alloc _) g2);clear x0 x1 x2 x3 x4 x5;obtain ⟨x0,x1,x2,x3,x4,x5⟩:=id q2))
 exact BR (v:=.tuple #[.bool true,.slice p3 l3 c3]) (by simp [results,Tryz.results103,go_sem]) rfl ⟨p3,c3,rfl,h3,k2⟩
set_option linter.unusedVariables false

def flN (s:Bool) (a b:Nat):Nat:=if s=true∧a % b≠0 then a / b+1 else a / b
theorem flN_val (s:Bool) (a b:Nat) (hb:b≠0):rvI s (flN s a b)=rvI s a / (b:Int):=by
 have h0:(0:Int)<(b:Int):=by omega
 unfold rvI flN
 cases s
 ·simp
 ·rw [if_pos rfl,if_pos rfl]
  have e:(a:Int)=(b:Int)*((a / b:Nat):Int)+((a % b:Nat):Int):=by
   rw [← Int.natCast_mul,← Int.natCast_add,Nat.div_add_mod]
  have r0:a % b<b:=Nat.mod_lt _ (by omega)
  by_cases z:a % b=0
  ·rw [if_neg (by simp [z])]
   rw [z] at e
   have e2:-(a:Int) = -((a / b:Nat):Int)*(b:Int):=by rw [e,Int.neg_mul,Int.mul_comm];simp
   rw [e2,Int.mul_ediv_cancel _ (by omega)]
  ·rw [if_pos ⟨rfl,z⟩]
   refine (Int.ediv_eq_iff_of_pos h0 |>.2 ?_).symm
   have e3:-((a / b+1:Nat):Int)*(b:Int) = -((b:Int)*((a / b:Nat):Int)) - (b:Int):=by
    rw [Int.natCast_add,Int.neg_mul,Int.add_mul,Int.mul_comm];simp;omega
   rw [e3]
   constructor <;> omega
theorem flN_x (s:Bool) (a b:Nat) (V:Int) (C N:Nat) (h:XF s a b V C N):rvI s (flN s a b)=V / (C:Int):=by
 obtain ⟨h1,h2,h3,h4,h5⟩:=h
 rw [flN_val s a b h1]
 have e1:rvI s a / (b:Int)=(rvI s a*(C:Int)) / ((b:Int)*(C:Int)):=(Int.mul_ediv_mul_of_pos_left _ _ (by omega)).symm
 have e2:V / (C:Int)=(V*(b:Int)) / ((C:Int)*(b:Int)):=(Int.mul_ediv_mul_of_pos_left _ _ (by omega)).symm
 rw [e1,e2,h3,Int.mul_comm (b:Int)]
theorem flN_blen (s:Bool) (a b N:Nat) (h:blen a≤N):blen (flN s a b)≤N+1:=by
 have h1:flN s a b≤a+1:=by
  have:=Nat.div_le_self a b
  unfold flN;split <;> omega
 have h2:=(blen_le_iff a N).1 h
 refine (blen_le_iff _ _).2 ?_
 have:=Nat.two_pow_pos N
 rw [Nat.pow_succ];omega
theorem rfloorX_ s p l c q k d (a b:Nat) (B1 B2 N:Nat) (w:World) (o1:Own w B1 (.slice p l c) (dig a)) (o2:Own w B2 (.slice q k d) (dig b)) (zb:b≠0) (ja:blen a≤N) (jb:blen b≤N) (hN:N≤200000):Calls Tryz.prog 103 #[.agg #[.bool s,.slice p l c,.slice q k d]] w fun e w'=>∃ (ng:Bool) (v:Value),e=.returned (.tuple #[.bool ng,v])∧Ls w' v (dig (flN s a b))∧(flN s a b≠0→ng=s)∧Kp w w':=by
 have y1:=o1.ls
 have y2:=o2.ls
 have e0:∀ m:Nat,(dig m).length=0 ↔ m=0:=fun m=>dig_len_zero m
 have hby:∀ W:World,Kp w W→Calls Tryz.prog 135 #[.slice p l c,.slice q k d] W fun e w'=>∃ (p1:Option Addr) (c1:Nat) (p2:Option Addr) (c2:Nat),e=.returned (.tuple #[.slice p1 (dig (a / b)).length c1,.slice p2 (dig (a % b)).length c2])∧Ls w' (.slice p1 (dig (a / b)).length c1) (dig (a / b))∧Kp W w':=by
  intro W g
  refine (byR _ _ a b W (y1.kp g) (y2.kp g) (by omega) (by omega) (by omega)).mono ?_
  rintro e w' ⟨v1,v2,rfl,z1,z2,g1⟩
  obtain ⟨p1,c1,rfl,z3,z4⟩:=z1
  obtain ⟨p2,c2,rfl,z5,z6⟩:=z2
  exact ⟨p1,c1,p2,c2,rfl,⟨p1,c1,rfl,z3,z4⟩,g1⟩
 cases s
 ·have f:flN false a b=a / b:=by unfold flN;rw [if_neg (by simp)]
  rw [f]
  refine (rfF_ p l c q k d _ _ (fun w' p1 c1=>Ls w' (.slice p1 (dig (a / b)).length c1) (dig (a / b))) w hby).mono ?_
  rintro e w' ⟨p1,c1,rfl,z,g⟩
  exact ⟨false,_,rfl,z,fun _=>rfl,g⟩
 ·by_cases t1:a % b=0
  ·have f:flN true a b=a / b:=by unfold flN;rw [if_neg (by simp [t1])]
   rw [f]
   by_cases t2:a / b=0
   ·refine (rfZ0_ p l c q k d _ _ (fun w' p1 c1=>Ls w' (.slice p1 (dig (a / b)).length c1) (dig (a / b))) ((e0 _).2 t1) ((e0 _).2 t2) w hby).mono ?_
    rintro e w' ⟨p1,c1,rfl,z,g⟩
    exact ⟨false,_,rfl,z,fun h=>absurd t2 h,g⟩
   ·refine (rfZ1_ p l c q k d _ _ (fun w' p1 c1=>Ls w' (.slice p1 (dig (a / b)).length c1) (dig (a / b))) ((e0 _).2 t1) (by have:=e0 (a / b);omega) w hby).mono ?_
    rintro e w' ⟨p1,c1,rfl,z,g⟩
    exact ⟨true,_,rfl,z,fun _=>rfl,g⟩
  ·have f:flN true a b=a / b+1:=by unfold flN;rw [if_pos ⟨rfl,t1⟩]
   rw [f]
   have hq:blen (a / b)≤N:=Nat.le_trans (blen_mono (Nat.div_le_self a b)) ja
   have hl:=dlen (a / b) 32768 (by omega)
   refine (rfP_ p l c q k d _ _ (fun w' p1 c1=>Ls w' (.slice p1 (dig (a / b)).length c1) (dig (a / b))) (dig (a / b+1)).length (fun w' p1 c1=>Ls w' (.slice p1 (dig (a / b+1)).length c1) (dig (a / b+1))) (Nat.pos_of_ne_zero fun h=>t1 ((e0 _).1 h)) (Nat.pos_of_ne_zero fun h=>absurd ((e0 _).1 h) (Nat.succ_ne_zero _)) w hby ?_).mono ?_
   ·intro W p1 c1 z
    have d1:dig 1=[1]:=dig_one6
    have z1:Ls (W.alloc (.cells #[.int .u32 1] 81)) (.slice (some ⟨W.heap.size,0,none⟩) 1 1) (dig 1):=by
     rw [d1];exact ⟨_,1,rfl,(row1 W 1).all rfl,by decide⟩
    refine (plusR _ _ (a / b) 1 _ (z.kp ((Kp.refl W).alloc _)) z1 hl (by change (dig 1).length≤_;rw [d1];decide)).mono ?_
    rintro e w' ⟨p3,c3,rfl,z3,z4,g⟩
    exact ⟨p3,c3,rfl,⟨p3,c3,rfl,z3,z4⟩,g⟩
   ·rintro e w' ⟨p1,c1,rfl,z,g⟩
    exact ⟨true,_,rfl,z,fun _=>rfl,g⟩
end Go.Proofs.YtcfnialfpblfmaaGreatDoor
