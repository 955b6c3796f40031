import Derived.Test.YtcfnialfpblfmaaGreatDoorKPQb
set_option maxHeartbeats 1000000
set_option maxRecDepth 20000
namespace Go.Proofs.YtcfnialfpblfmaaGreatDoor
open Go.RowKit
set_option linter.unusedVariables false
theorem flA_ s p l c q k d (QP:World→Bool→Option Addr→Nat→Nat→Prop) (QS:World→World→Bool→Option Addr→Nat→Nat→Option Addr→Nat→Nat→Prop) (w:World) (hfl:∀ W:World,Kp w W→Calls Tryz.prog 103 #[.agg #[.bool s,.slice p l c,.slice q k d]] W fun e w'=>∃ (ng:Bool) (p1:Option Addr) (l1 c1:Nat),e=.returned (.tuple #[.bool ng,.slice p1 l1 c1])∧QP w' ng p1 l1 c1∧Kp W w') (hfr:∀ (W:World) (ng:Bool) (p1:Option Addr) (l1 c1:Nat),QP W ng p1 l1 c1→Calls Tryz.prog 66 #[.bool ng,.slice p1 l1 c1,.slice (some ⟨W.heap.size,0,none⟩) 1 1,.int .i64 0] (W.alloc (.cells #[.int .u32 1] 81)) fun e w'=>∃ s3 p3 l3 c3 q3 k3 d3,e=.returned (.agg #[.bool s3,.slice p3 l3 c3,.slice q3 k3 d3])∧QS W w' s3 p3 l3 c3 q3 k3 d3∧Kp W w'):Calls Tryz.prog 72 #[.agg #[.bool s,.slice p l c,.slice q k d]] w fun e w'=>∃ (W wh:World) (s3:Bool) (p3:Option Addr) (l3 c3:Nat) (q3:Option Addr) (k3 d3:Nat),e=.returned (.agg #[.bool s3,.slice p3 l3 c3,.slice q3 k3 d3])∧QS W wh s3 p3 l3 c3 q3 k3 d3∧w'=(((wh.setCell ⟨w.heap.size+1,0,none⟩ (.bool s3)).setCell ⟨w.heap.size+1,1,none⟩ (.slice p3 l3 c3)).setCell ⟨w.heap.size+1,2,none⟩ (.slice q3 k3 d3))∧w.heap.size+1<W.heap.size∧Kp w wh:=by
 have q00:=H3c.new w (.bool s) (.slice p l c) (.slice q k d) 43
 have q0:=H3c.keep q00 ((Kp.refl _).alloc (.cells #[.bool false,.slice none 0 0,.slice none 0 0] 43))
 have t0:=H3c.new (w.alloc (.cells #[.bool s,.slice p l c,.slice q k d] 43)) (.bool false) (.slice none 0 0) (.slice none 0 0) 43
 rw [show (w.alloc (.cells #[.bool s,.slice p l c,.slice q k d] 43)).heap.size=w.heap.size+1 by simp] at t0
 have kw:Kp w ((w.alloc (.cells #[.bool s,.slice p l c,.slice q k d] 43)).alloc (.cells #[.bool false,.slice none 0 0,.slice none 0 0] 43)):=((Kp.refl w).alloc _).alloc _
 obtain ⟨x0,x1,x2,x3,x4,x5⟩:=id q0
 obtain ⟨y0,y1,y2,y3,y4,y5⟩:=id t0
 have hB:=H3c.lt t0
 go_enter Tryz.func72,Tryz.ntmps72
 go_wp2_with (first | (go_at_call 103;refine (hfl _ kw).mono ?_;rintro e w1 ⟨ng,p1,l1,c1,rfl,h1,g1⟩;have k1:=Kp.trans kw g1;have q1:=H3c.keep q0 g1;have t1:=H3c.keep t0 g1;clear x0 x1 x2 x3 x4 x5 y0 y1 y2 y3 y4 y5;obtain ⟨x0,x1,x2,x3,x4,x5⟩:=id q1;obtain ⟨y0,y1,y2,y3,y4,y5⟩:=id t1) | (go_at_call 66;refine (hfr _ ng p1 l1 c1 h1).mono ?_;rintro e w2 ⟨s3,p3,l3,c3,q3,k3,d3,rfl,h3,g2⟩;have k2:=Kp.trans k1 g2;have q2:=H3c.keep q1 g2;have t2:=H3c.keep t1 g2;clear x0 x1 x2 x3 x4 x5 y0 y1 y2 y3 y4 y5;obtain ⟨x0,x1,x2,x3,x4,x5⟩:=id q2;obtain ⟨y0,y1,y2,y3,y4,y5⟩:=id t2))
 have z1:w.heap.size+1<w1.heap.size:=H3c.lt t1
 exact BR (v:=.agg #[.bool s3,.slice p3 l3 c3,.slice q3 k3 d3]) (by simp [results,Tryz.results72,go_sem,y0,y1,y2]) rfl ⟨w1,w2,s3,p3,l3,c3,q3,k3,d3,rfl,h3,rfl,z1,k2⟩

def FP (base:Nat) (w:World) (s:Bool) (p:Option Addr) (l c:Nat) (q:Option Addr) (k d:Nat) (V:Int) (N:Nat):Prop:=∃ a,Own w base (.slice p l c) (dig a)∧Own w base (.slice q k d) (dig 1)∧rvI s a=V∧blen a≤N
theorem FP.kp {base:Nat} {w:World} {s:Bool} {p:Option Addr} {l c:Nat} {q:Option Addr} {k d:Nat} {V:Int} {N:Nat} {w':World} (h:FP base w s p l c q k d V N) (g:Kp w w'):FP base w' s p l c q k d V N:=by
 obtain ⟨a,h1,h2,h3⟩:=h
 exact ⟨a,h1.kp g,h2.kp g,h3⟩
theorem FP.mono {base:Nat} {w:World} {s:Bool} {p:Option Addr} {l c:Nat} {q:Option Addr} {k d:Nat} {V:Int} {N:Nat} {base':Nat} (h:FP base w s p l c q k d V N) (g:base'≤base):FP base' w s p l c q k d V N:=by
 obtain ⟨a,h1,h2,h3⟩:=h
 exact ⟨a,h1.mono g,h2.mono g,h3⟩
theorem FP.set {base:Nat} {w:World} {s:Bool} {p:Option Addr} {l c:Nat} {q:Option Addr} {k d:Nat} {V:Int} {N:Nat} (h:FP base w s p l c q k d V N) {x:Addr} (hx:x.block<base) (u:Value):FP base (w.setCell x u) s p l c q k d V N:=by
 obtain ⟨a,h1,h2,h3⟩:=h
 exact ⟨a,h1.setOther hx u,h2.setOther hx u,h3⟩
theorem FP.xp {base:Nat} {w:World} {s:Bool} {p:Option Addr} {l c:Nat} {q:Option Addr} {k d:Nat} {V:Int} {N:Nat} (h:FP base w s p l c q k d V N):XP base w s p l c q k d V 1 (N+1):=by
 obtain ⟨a,h1,h2,h3,h4⟩:=h
 have h5:blen 1=1:=blen_uniq 1 0 (by decide) (by decide)
 exact ⟨a,1,h1,h2,by decide,by decide,by rw [h3],by omega,by omega⟩
theorem fracX_whole (a a' b':Nat) (h:FracX a 1 0 a' b'):a'=a∧b'=1:=by
 obtain ⟨h1,h2,h3⟩:=h
 by_cases z:a=0
 ·exact ⟨by rw [(h2 z).1,z],(h2 z).2⟩
 ·obtain ⟨a1,b1,ka,kb,x,y,o1,o2,e1,e2,e3,e4,e5,e6⟩:=h3 z
  have p1:=Nat.eq_one_of_mul_eq_one_left e2.symm
  have p2:=Nat.eq_one_of_mul_eq_one_right e2.symm
  have kb0:kb=0:=by
   rcases Nat.eq_zero_or_pos kb with c | c
   ·exact c
   ·have:2 ^ 1≤2 ^ kb:=Nat.pow_le_pow_right (by decide) c
    omega
  have y0:y=0:=by omega
  have x0:x=ka:=by omega
  have b10:b1=1:=by rw [kb0] at e2;simp at e2;omega
  exact ⟨by rw [e3,x0,← e1],by rw [e4,y0,b10]⟩
theorem floorX_ (V:Int) (C N:Nat) (hN:N≤200000) s p l c q k d (B1:Nat) (w:World) (h:XP B1 w s p l c q k d V C N):Calls Tryz.prog 72 #[.agg #[.bool s,.slice p l c,.slice q k d]] w fun e w'=>∃ s3 p3 l3 c3 q3 k3 d3,e=.returned (.agg #[.bool s3,.slice p3 l3 c3,.slice q3 k3 d3])∧FP w.heap.size w' s3 p3 l3 c3 q3 k3 d3 (V / (C:Int)) (N+1)∧Kp w w':=by
 obtain ⟨a,b,o1,o2,hx⟩:=h
 have hx':=hx
 obtain ⟨zb,zc,i1,j1,j2⟩:=hx
 obtain ⟨M,hM⟩:∃ M,M=flN s a b:=⟨_,rfl⟩
 have bM:blen M≤N+1:=by rw [hM];exact flN_blen s a b N j1
 have eM:rvI s M=V / (C:Int):=by rw [hM];exact flN_x s a b V C N hx'
 have lM:=dlen M 32768 (by omega)
 have L1:(dig 1).length=1:=by rw [dig_one6];rfl
 refine (flA_ s p l c q k d (fun w' ng p1 l1 c1=>Ls w' (.slice p1 l1 c1) (dig M)∧(M≠0→ng=s)) (fun W w' s3 p3 l3 c3 q3 k3 d3=>FP W.heap.size w' s3 p3 l3 c3 q3 k3 d3 (V / (C:Int)) (N+1)) w (fun W g=>?_) (fun W ng p1 l1 c1 hq=>?_)).mono ?_
 ·refine (rfloorX_ s p l c q k d a b B1 B1 N W (o1.kp g) (o2.kp g) zb j1 j2 hN).mono ?_
  rintro e w' ⟨ng,v,rfl,z1,z2,g1⟩
  rw [← hM] at z1 z2
  obtain ⟨p1,c1,rfl,z3,z4⟩:=z1
  exact ⟨ng,p1,_,c1,rfl,⟨⟨p1,c1,rfl,z3,z4⟩,z2⟩,g1⟩
 ·obtain ⟨z1,z2⟩:=hq
  have kW:Kp W (W.alloc (.cells #[.int .u32 1] 81)):=(Kp.refl W).alloc _
  have ar:Ls (W.alloc (.cells #[.int .u32 1] 81)) (.slice (some ⟨W.heap.size,0,none⟩) 1 1) (dig 1):=by
   rw [dig_one6];exact ⟨_,1,rfl,(row1 W 1).all rfl,by decide⟩
  have h:=fracX_ ng (.slice p1 l1 c1) (.slice (some ⟨W.heap.size,0,none⟩) 1 1) (dig M) (dig 1) 0 _ (z1.kp kW) ar (Wd_dig _) (Wd_dig _) lM (by rw [L1];decide) (by rw [val_dig];decide) (by decide)
  rw [val_dig,val_dig] at h
  refine h.mono ?_
  rintro e w5 ⟨vn,vd,a',b',ng',rfl,u1,u2,ff,k5⟩
  obtain ⟨rfl,rfl⟩:=fracX_whole _ _ _ ff.1
  obtain ⟨pn,cn,rfl,an,ln⟩:=u1.arr
  obtain ⟨pd,cd,rfl,ad,ld⟩:=u2.arr
  refine ⟨ng',pn,_,cn,pd,_,cd,rfl, ?_,Kp.trans kW k5⟩
  have hs:=Below.size kW
  refine ⟨a',u1.mono hs,u2.mono hs, ?_,bM⟩
  rw [← eM]
  by_cases z:a'=0
  ·rw [z];unfold rvI;simp
  ·rw [ff.2 z,z2 z]
 ·rintro e w' ⟨W,wh,s3,p3,l3,c3,q3,k3,d3,rfl,hq,rfl,hlt,g⟩
  exact ⟨s3,p3,l3,c3,q3,k3,d3,rfl,FP.mono ((((hq).set (x:=⟨w.heap.size+1,0,none⟩) hlt (.bool s3)).set (x:=⟨w.heap.size+1,1,none⟩) hlt (.slice p3 l3 c3)).set (x:=⟨w.heap.size+1,2,none⟩) hlt (.slice q3 k3 d3)) (by omega),KS3 (g) (by first | omega | (simp <;> omega))⟩
set_option linter.unusedVariables false
theorem stA0_ (sg:Int) s p l c q k d (QS:World→World→Bool→Option Addr→Nat→Nat→Option Addr→Nat→Nat→Prop) (w:World) (hs:∀ W:World,Kp w W→Calls Tryz.prog 30 #[.agg #[.bool s,.slice p l c,.slice q k d]] W fun e w'=>e=.returned (.int .i64 sg)∧Kp W w') (hi:∀ W:World,Kp w W→RC 32 #[.int .i64 sg] W (QS W)):Calls Tryz.prog 37 #[.int .i64 0,.agg #[.bool s,.slice p l c,.slice q k d]] w fun e w'=>∃ (W wh:World) (s3:Bool) (p3:Option Addr) (l3 c3:Nat) (q3:Option Addr) (k3 d3:Nat),e=.returned (.agg #[.bool s3,.slice p3 l3 c3,.slice q3 k3 d3])∧QS W wh s3 p3 l3 c3 q3 k3 d3∧w'=(((wh.setCell ⟨w.heap.size+1,0,none⟩ (.bool s3)).setCell ⟨w.heap.size+1,1,none⟩ (.slice p3 l3 c3)).setCell ⟨w.heap.size+1,2,none⟩ (.slice q3 k3 d3))∧w.heap.size+1<W.heap.size∧Kp w wh:=by
 have q00:=H3c.new w (.bool s) (.slice p l c) (.slice q k d) 43
 have q0:=H3c.keep q00 ((Kp.refl _).alloc (.cells #[.bool false,.slice none 0 0,.slice none 0 0] 43))
 have t0:=H3c.new (w.alloc (.cells #[.bool s,.slice p l c,.slice q k d] 43)) (.bool false) (.slice none 0 0) (.slice none 0 0) 43
 rw [show (w.alloc (.cells #[.bool s,.slice p l c,.slice q k d] 43)).heap.size=w.heap.size+1 by simp] at t0
 have k0:Kp w ((w.alloc (.cells #[.bool s,.slice p l c,.slice q k d] 43)).alloc (.cells #[.bool false,.slice none 0 0,.slice none 0 0] 43)):=((Kp.refl w).alloc _).alloc _
 obtain ⟨x0,x1,x2,x3,x4,x5⟩:=id q0
 obtain ⟨y0,y1,y2,y3,y4,y5⟩:=id t0
 go_enter Tryz.func37,Tryz.ntmps37
 go_wp2_with (first | (go_at_call 30;refine (hs _ k0).mono ?_;rintro e w1 ⟨rfl,g1⟩;have k1:=Kp.trans k0 g1;have q1:=H3c.keep q0 g1;have t1:=H3c.keep t0 g1;clear x0 x1 x2 x3 x4 x5 y0 y1 y2 y3 y4 y5;obtain ⟨x0,x1,x2,x3,x4,x5⟩:=id q1;obtain ⟨y0,y1,y2,y3,y4,y5⟩:=id t1) | (go_at_call 32;refine (hi _ k1).mono ?_;rintro e w3 ⟨s3,p3,l3,c3,q3,k3,d3,rfl,h3,g3⟩;have kk:=Kp.trans k1 g3;have tt:=H3c.keep t1 g3;clear x0 x1 x2 x3 x4 x5 y0 y1 y2 y3 y4 y5;obtain ⟨y0,y1,y2,y3,y4,y5⟩:=id tt))
 exact BR (v:=.agg #[.bool s3,.slice p3 l3 c3,.slice q3 k3 d3]) (by simp [results,Tryz.results37,go_sem,y0,y1,y2]) rfl ⟨w1,w3,s3,p3,l3,c3,q3,k3,d3,rfl,h3,rfl,H3c.lt t1,kk⟩
theorem stA1_ s p l c q k d (QS:World→World→Bool→Option Addr→Nat→Nat→Option Addr→Nat→Nat→Prop) (w:World) (hi:∀ W:World,Kp w W→RC 72 #[.agg #[.bool s,.slice p l c,.slice q k d]] W (QS W)):Calls Tryz.prog 37 #[.int .i64 1,.agg #[.bool s,.slice p l c,.slice q k d]] w fun e w'=>∃ (W wh:World) (s3:Bool) (p3:Option Addr) (l3 c3:Nat) (q3:Option Addr) (k3 d3:Nat),e=.returned (.agg #[.bool s3,.slice p3 l3 c3,.slice q3 k3 d3])∧QS W wh s3 p3 l3 c3 q3 k3 d3∧w'=(((wh.setCell ⟨w.heap.size+1,0,none⟩ (.bool s3)).setCell ⟨w.heap.size+1,1,none⟩ (.slice p3 l3 c3)).setCell ⟨w.heap.size+1,2,none⟩ (.slice q3 k3 d3))∧w.heap.size+1<W.heap.size∧Kp w wh:=by
 have q00:=H3c.new w (.bool s) (.slice p l c) (.slice q k d) 43
 have q0:=H3c.keep q00 ((Kp.refl _).alloc (.cells #[.bool false,.slice none 0 0,.slice none 0 0] 43))
 have t0:=H3c.new (w.alloc (.cells #[.bool s,.slice p l c,.slice q k d] 43)) (.bool false) (.slice none 0 0) (.slice none 0 0) 43
 rw [show (w.alloc (.cells #[.bool s,.slice p l c,.slice q k d] 43)).heap.size=w.heap.size+1 by simp] at t0
 have k0:Kp w ((w.alloc (.cells #[.bool s,.slice p l c,.slice q k d] 43)).alloc (.cells #[.bool false,.slice none 0 0,.slice none 0 0] 43)):=((Kp.refl w).alloc _).alloc _
 obtain ⟨x0,x1,x2,x3,x4,x5⟩:=id q0
 obtain ⟨y0,y1,y2,y3,y4,y5⟩:=id t0
 go_enter Tryz.func37,Tryz.ntmps37
 go_wp2_with (first | (go_at_call 72;refine (hi _ k0).mono ?_;rintro e w3 ⟨s3,p3,l3,c3,q3,k3,d3,rfl,h3,g3⟩;have kk:=Kp.trans k0 g3;have tt:=H3c.keep t0 g3;clear x0 x1 x2 x3 x4 x5 y0 y1 y2 y3 y4 y5;obtain ⟨y0,y1,y2,y3,y4,y5⟩:=id tt))
 exact BR (v:=.agg #[.bool s3,.slice p3 l3 c3,.slice q3 k3 d3]) (by simp [results,Tryz.results37,go_sem,y0,y1,y2]) rfl ⟨_,w3,s3,p3,l3,c3,q3,k3,d3,rfl,h3,rfl,H3c.lt t0,kk⟩
theorem stA2_ s p l c q k d (P5 P6:World→Bool→Option Addr→Nat→Nat→Option Addr→Nat→Nat→Prop) (QS:World→World→Bool→Option Addr→Nat→Nat→Option Addr→Nat→Nat→Prop) (w:World) (hn:∀ W:World,Kp w W→RC 34 #[.agg #[.bool s,.slice p l c,.slice q k d]] W P5) (hf:∀ (W:World) s5 p5 l5 c5 q5 k5 d5,Kp w W→P5 W s5 p5 l5 c5 q5 k5 d5→RC 72 #[.agg #[.bool s5,.slice p5 l5 c5,.slice q5 k5 d5]] W P6) (hm:∀ (W:World) s6 p6 l6 c6 q6 k6 d6,Kp w W→P6 W s6 p6 l6 c6 q6 k6 d6→RC 34 #[.agg #[.bool s6,.slice p6 l6 c6,.slice q6 k6 d6]] W (QS W)):Calls Tryz.prog 37 #[.int .i64 2,.agg #[.bool s,.slice p l c,.slice q k d]] w fun e w'=>∃ (W wh:World) (s3:Bool) (p3:Option Addr) (l3 c3:Nat) (q3:Option Addr) (k3 d3:Nat),e=.returned (.agg #[.bool s3,.slice p3 l3 c3,.slice q3 k3 d3])∧QS W wh s3 p3 l3 c3 q3 k3 d3∧w'=(((wh.setCell ⟨w.heap.size+1,0,none⟩ (.bool s3)).setCell ⟨w.heap.size+1,1,none⟩ (.slice p3 l3 c3)).setCell ⟨w.heap.size+1,2,none⟩ (.slice q3 k3 d3))∧w.heap.size+1<W.heap.size∧Kp w wh:=by
 have q00:=H3c.new w (.bool s) (.slice p l c) (.slice q k d) 43
 have q0:=H3c.keep q00 ((Kp.refl _).alloc (.cells #[.bool false,.slice none 0 0,.slice none 0 0] 43))
 have t0:=H3c.new (w.alloc (.cells #[.bool s,.slice p l c,.slice q k d] 43)) (.bool false) (.slice none 0 0) (.slice none 0 0) 43
 rw [show (w.alloc (.cells #[.bool s,.slice p l c,.slice q k d] 43)).heap.size=w.heap.size+1 by simp] at t0
 have k0:Kp w ((w.alloc (.cells #[.bool s,.slice p l c,.slice q k d] 43)).alloc (.cells #[.bool false,.slice none 0 0,.slice none 0 0] 43)):=((Kp.refl w).alloc _).alloc _
 obtain ⟨x0,x1,x2,x3,x4,x5⟩:=id q0
 obtain ⟨y0,y1,y2,y3,y4,y5⟩:=id t0
 go_enter Tryz.func37,Tryz.ntmps37
 go_wp2_with (first | (go_at_call 34;refine (hm _ s6 p6 l6 c6 q6 k6 d6 k2 h6).mono ?_;rintro e w3 ⟨s3,p3,l3,c3,q3,k3,d3,rfl,h3,g3⟩;have kk:=Kp.trans k2 g3;have tt:=H3c.keep t2 g3;clear x0 x1 x2 x3 x4 x5 y0 y1 y2 y3 y4 y5;obtain ⟨y0,y1,y2,y3,y4,y5⟩:=id tt) | (go_at_call 72;refine (hf _ s5 p5 l5 c5 q5 k5 d5 k1 h5).mono ?_;rintro e w2 ⟨s6,p6,l6,c6,q6,k6,d6,rfl,h6,g2⟩;have k2:=Kp.trans k1 g2;have q2:=H3c.keep q1 g2;have t2:=H3c.keep t1 g2;clear x0 x1 x2 x3 x4 x5 y0 y1 y2 y3 y4 y5;obtain ⟨x0,x1,x2,x3,x4,x5⟩:=id q2;obtain ⟨y0,y1,y2,y3,y4,y5⟩:=id t2) | (go_at_call 34;refine (hn _ k0).mono ?_;rintro e w1 ⟨s5,p5,l5,c5,q5,k5,d5,rfl,h5,g1⟩;have k1:=Kp.trans k0 g1;have q1:=H3c.keep q0 g1;have t1:=H3c.keep t0 g1;clear x0 x1 x2 x3 x4 x5 y0 y1 y2 y3 y4 y5;obtain ⟨x0,x1,x2,x3,x4,x5⟩:=id q1;obtain ⟨y0,y1,y2,y3,y4,y5⟩:=id t1))
 exact BR (v:=.agg #[.bool s3,.slice p3 l3 c3,.slice q3 k3 d3]) (by simp [results,Tryz.results37,go_sem,y0,y1,y2]) rfl ⟨w2,w3,s3,p3,l3,c3,q3,k3,d3,rfl,h3,rfl,H3c.lt t2,kk⟩
set_option linter.unusedVariables false
theorem stA3_ (sg:Int) (hsg:¬ sg<0) s p l c q k d (QS:World→World→Bool→Option Addr→Nat→Nat→Option Addr→Nat→Nat→Prop) (w:World) (hs:∀ W:World,Kp w W→Calls Tryz.prog 30 #[.agg #[.bool s,.slice p l c,.slice q k d]] W fun e w'=>e=.returned (.int .i64 sg)∧Kp W w') (hf:∀ W:World,Kp w W→RC 72 #[.agg #[.bool s,.slice p l c,.slice q k d]] W (QS W)):Calls Tryz.prog 37 #[.int .i64 3,.agg #[.bool s,.slice p l c,.slice q k d]] w fun e w'=>∃ (W W2 wh:World) (s3:Bool) (p3:Option Addr) (l3 c3:Nat) (q3:Option Addr) (k3 d3:Nat),e=.returned (.agg #[.bool s3,.slice p3 l3 c3,.slice q3 k3 d3])∧QS W W2 s3 p3 l3 c3 q3 k3 d3∧Kp W2 wh∧w'=(((wh.setCell ⟨w.heap.size+1,0,none⟩ (.bool s3)).setCell ⟨w.heap.size+1,1,none⟩ (.slice p3 l3 c3)).setCell ⟨w.heap.size+1,2,none⟩ (.slice q3 k3 d3))∧w.heap.size+1<W.heap.size∧Kp w wh:=by
 have q00:=H3c.new w (.bool s) (.slice p l c) (.slice q k d) 43
 have q0:=H3c.keep q00 ((Kp.refl _).alloc (.cells #[.bool false,.slice none 0 0,.slice none 0 0] 43))
 have t0:=H3c.new (w.alloc (.cells #[.bool s,.slice p l c,.slice q k d] 43)) (.bool false) (.slice none 0 0) (.slice none 0 0) 43
 rw [show (w.alloc (.cells #[.bool s,.slice p l c,.slice q k d] 43)).heap.size=w.heap.size+1 by simp] at t0
 have k0:Kp w ((w.alloc (.cells #[.bool s,.slice p l c,.slice q k d] 43)).alloc (.cells #[.bool false,.slice none 0 0,.slice none 0 0] 43)):=((Kp.refl w).alloc _).alloc _
 obtain ⟨x0,x1,x2,x3,x4,x5⟩:=id q0
 obtain ⟨y0,y1,y2,y3,y4,y5⟩:=id t0
 go_enter Tryz.func37,Tryz.ntmps37
 go_wp2_with (first | (go_at_call 72;refine (hf _ (Kp.trans k1 ((Kp.refl _).alloc _))).mono ?_;rintro e w2 ⟨s3,p3,l3,c3,q3,k3,d3,rfl,h3,g2⟩;have ga:=Kp.trans ((Kp.refl w1).alloc (.cells #[.bool s,.slice p l c,.slice q k d] 43)) g2;have k2:=Kp.trans k1 ga;have q2:=H3c.keep q1 ga;have t2:=H3c.keep t1 ga;clear x0 x1 x2 x3 x4 x5 y0 y1 y2 y3 y4 y5;obtain ⟨x0,x1,x2,x3,x4,x5⟩:=id q2;obtain ⟨y0,y1,y2,y3,y4,y5⟩:=id t2;have t2a:=H3c.keep t2 ((Kp.refl w2).alloc (.cells #[.bool s3,.slice p3 l3 c3,.slice q3 k3 d3] 43));obtain ⟨z0,z1,z2,z3,z4,z5⟩:=id t2a) | (go_at_call 30;refine (hs _ k0).mono ?_;rintro e w1 ⟨rfl,g1⟩;have k1:=Kp.trans k0 g1;have q1:=H3c.keep q0 g1;have t1:=H3c.keep t0 g1;clear x0 x1 x2 x3 x4 x5 y0 y1 y2 y3 y4 y5;obtain ⟨x0,x1,x2,x3,x4,x5⟩:=id q1;obtain ⟨y0,y1,y2,y3,y4,y5⟩:=id t1))
 have lt:=H3c.lt t1
 exact BR (v:=.agg #[.bool s3,.slice p3 l3 c3,.slice q3 k3 d3]) (by simp [results,Tryz.results37,go_sem,z0,z1,z2]) rfl ⟨_,w2,_,s3,p3,l3,c3,q3,k3,d3,rfl,h3,(Kp.refl _).alloc _,rfl,by simp;omega,Kp.trans k2 ((Kp.refl _).alloc _)⟩
theorem stA3n_ (sg:Int) (hsg:sg<0) s p l c q k d (P5:World→World→Bool→Option Addr→Nat→Nat→Option Addr→Nat→Nat→Prop) (P6:World→Bool→Option Addr→Nat→Nat→Option Addr→Nat→Nat→Prop) (QS:World→World→Bool→Option Addr→Nat→Nat→Option Addr→Nat→Nat→Prop) (w:World) (hs:∀ W:World,Kp w W→Calls Tryz.prog 30 #[.agg #[.bool s,.slice p l c,.slice q k d]] W fun e w'=>e=.returned (.int .i64 sg)∧Kp W w') (hn:∀ W:World,Kp w W→RC 34 #[.agg #[.bool s,.slice p l c,.slice q k d]] W (P5 W)) (hf:∀ (W W':World) (b:Nat) s5 p5 l5 c5 q5 k5 d5,Kp w (((W'.setCell ⟨b,0,none⟩ (.bool s5)).setCell ⟨b,1,none⟩ (.slice p5 l5 c5)).setCell ⟨b,2,none⟩ (.slice q5 k5 d5))→P5 W W' s5 p5 l5 c5 q5 k5 d5→b<W.heap.size→RC 72 #[.agg #[.bool s5,.slice p5 l5 c5,.slice q5 k5 d5]] (((W'.setCell ⟨b,0,none⟩ (.bool s5)).setCell ⟨b,1,none⟩ (.slice p5 l5 c5)).setCell ⟨b,2,none⟩ (.slice q5 k5 d5)) P6) (hm:∀ (U W:World) s6 p6 l6 c6 q6 k6 d6,Kp w W→P6 U s6 p6 l6 c6 q6 k6 d6→Kp U W→RC 34 #[.agg #[.bool s6,.slice p6 l6 c6,.slice q6 k6 d6]] W (QS W)):Calls Tryz.prog 37 #[.int .i64 3,.agg #[.bool s,.slice p l c,.slice q k d]] w fun e w'=>∃ (W W2 wh:World) (s3:Bool) (p3:Option Addr) (l3 c3:Nat) (q3:Option Addr) (k3 d3:Nat),e=.returned (.agg #[.bool s3,.slice p3 l3 c3,.slice q3 k3 d3])∧QS W W2 s3 p3 l3 c3 q3 k3 d3∧Kp W2 wh∧w'=(((wh.setCell ⟨w.heap.size+1,0,none⟩ (.bool s3)).setCell ⟨w.heap.size+1,1,none⟩ (.slice p3 l3 c3)).setCell ⟨w.heap.size+1,2,none⟩ (.slice q3 k3 d3))∧w.heap.size+1<W.heap.size∧Kp w wh:=by
 have q00:=H3c.new w (.bool s) (.slice p l c) (.slice q k d) 43
 have q0:=H3c.keep q00 ((Kp.refl _).alloc (.cells #[.bool false,.slice none 0 0,.slice none 0 0] 43))
 have t0:=H3c.new (w.alloc (.cells #[.bool s,.slice p l c,.slice q k d] 43)) (.bool false) (.slice none 0 0) (.slice none 0 0) 43
 rw [show (w.alloc (.cells #[.bool s,.slice p l c,.slice q k d] 43)).heap.size=w.heap.size+1 by simp] at t0
 have k0:Kp w ((w.alloc (.cells #[.bool s,.slice p l c,.slice q k d] 43)).alloc (.cells #[.bool false,.slice none 0 0,.slice none 0 0] 43)):=((Kp.refl w).alloc _).alloc _
 obtain ⟨x0,x1,x2,x3,x4,x5⟩:=id q0
 obtain ⟨y0,y1,y2,y3,y4,y5⟩:=id t0
 go_enter Tryz.func37,Tryz.ntmps37
 go_wp2_with (first | (go_at_call 34;refine (hm w3 _ s6 p6 l6 c6 q6 k6 d6 k3' h6 kb).mono ?_;rintro e w4 ⟨s3,p3,l3,c3,q3,k3,d3,rfl,h3,g4⟩;have k4':=Kp.trans k3' g4;have t4:=H3c.keep t3 g4;clear y0 y1 y2 y3 y4 y5;obtain ⟨y0,y1,y2,y3,y4,y5⟩:=id t4) | (go_at_call 72;refine (hf _ w2 w1.heap.size s5 p5 l5 c5 q5 k5 d5 kp h5 (H3c.lt sa)).mono ?_;rintro e w3 ⟨s6,p6,l6,c6,q6,k6,d6,rfl,h6,g3⟩;have kb:Kp w3 (w3.alloc (.cells #[.bool s6,.slice p6 l6 c6,.slice q6 k6 d6] 43)):=(Kp.refl w3).alloc _;have k3':=Kp.trans (Kp.trans kp g3) kb;have t3:=H3c.keep (H3c.keep tp g3) kb;clear x0 x1 x2 x3 x4 x5 y0 y1 y2 y3 y4 y5;clear u0 u1 u2 u3 u4 u5;obtain ⟨y0,y1,y2,y3,y4,y5⟩:=id t3) | (go_at_call 34;refine (hn _ k1a).mono ?_;rintro e w2 ⟨s5,p5,l5,c5,q5,k5,d5,rfl,h5,g2⟩;have k2:=Kp.trans k1a g2;have s2:=H3c.keep sa g2;have t2:=H3c.keep t1 g2;have hne:w1.heap.size≠w.heap.size+1:=(by omega);have sp:=H3c.put s2 (.bool s5) (.slice p5 l5 c5) (.slice q5 k5 d5);have tp:=(H3c.far1 (H3c.far1 (H3c.far1 t2 ⟨w1.heap.size,0,none⟩ hne (.bool s5)) ⟨w1.heap.size,1,none⟩ hne (.slice p5 l5 c5)) ⟨w1.heap.size,2,none⟩ hne (.slice q5 k5 d5));have kp:Kp w (((w2.setCell ⟨w1.heap.size,0,none⟩ (.bool s5)).setCell ⟨w1.heap.size,1,none⟩ (.slice p5 l5 c5)).setCell ⟨w1.heap.size,2,none⟩ (.slice q5 k5 d5)):=KS3 (k2) (by first | omega | (simp <;> omega));clear x0 x1 x2 x3 x4 x5 y0 y1 y2 y3 y4 y5;obtain ⟨x0,x1,x2,x3,x4,x5⟩:=id s2;obtain ⟨y0,y1,y2,y3,y4,y5⟩:=id tp;obtain ⟨u0,u1,u2,u3,u4,u5⟩:=id sp) | (go_at_call 30;refine (hs _ k0).mono ?_;rintro e w1 ⟨rfl,g1⟩;have k1:=Kp.trans k0 g1;have ka:Kp w1 (w1.alloc (.cells #[.bool s,.slice p l c,.slice q k d] 43)):=(Kp.refl w1).alloc _;have k1a:=Kp.trans k1 ka;have q1:=H3c.keep (H3c.keep q0 g1) ka;have t1:=H3c.keep (H3c.keep t0 g1) ka;have lt1:=H3c.lt (H3c.keep t0 g1);have q1w:=H3c.keep q0 g1;obtain ⟨m0,m1,m2,m3,m4,m5⟩:=id q1w;have sa:=H3c.new w1 (.bool s) (.slice p l c) (.slice q k d) 43;clear x0 x1 x2 x3 x4 x5 y0 y1 y2 y3 y4 y5;obtain ⟨x0,x1,x2,x3,x4,x5⟩:=id q1;obtain ⟨y0,y1,y2,y3,y4,y5⟩:=id t1))
 exact BR (v:=.agg #[.bool s3,.slice p3 l3 c3,.slice q3 k3 d3]) (by simp [results,Tryz.results37,go_sem,y0,y1,y2]) rfl ⟨_,w4,w4,s3,p3,l3,c3,q3,k3,d3,rfl,h3,Kp.refl _,rfl,H3c.lt t3,k4'⟩
theorem raddX_ (sa sb:Bool) (a1 a2 b1 b2:Nat) (P1 P2 Q1 Q2:Option Addr) (C1 C2 D1 D2:Nat) (w:World) (h1:Arr w P1 (dig a1)) (l1:(dig a1).length≤C1) (h2:Arr w P2 (dig a2)) (l2:(dig a2).length≤C2) (h3:Arr w Q1 (dig b1)) (l3:(dig b1).length≤D1) (h4:Arr w Q2 (dig b2)) (l4:(dig b2).length≤D2) (N1 N2:Nat) (hN:N1+N2≤100000) (ba1:blen a1≤N1) (ba2:blen a2≤N1) (bb1:blen b1≤N2) (bb2:blen b2≤N2) (za:a2≠0) (zb:b2≠0):Calls Tryz.prog 76 #[.agg #[.bool sa,.slice P1 (dig a1).length C1,.slice P2 (dig a2).length C2],.agg #[.bool sb,.slice Q1 (dig b1).length D1,.slice Q2 (dig b2).length D2]] w fun e w'=>∃ (vn vd:Value) (a' b':Nat) (ng:Bool),e=.returned (.agg #[.bool ng,vn,vd])∧Own w' w.heap.size vn (dig a')∧Own w' w.heap.size vd (dig b')∧(rvI ng a'*((a2:Int)*(b2:Int))=(rvI sa a1*(b2:Int)+rvI sb b1*(a2:Int))*(b':Int)∧b'≠0∧blen a'≤2*(N1+N2)+3∧blen b'≤2*(N1+N2)+3)∧Kp w w':=by
 obtain ⟨X,hX⟩:∃ X,X=a1*b2:=⟨_,rfl⟩
 obtain ⟨Y,hY⟩:∃ Y,Y=b1*a2:=⟨_,rfl⟩
 obtain ⟨D,hD⟩:∃ D,D=a2*b2:=⟨_,rfl⟩
 have hzD:D≠0:=by rw [hD];exact Nat.mul_ne_zero za zb
 have bX:blen X≤N1+N2:=by rw [hX];exact blen_mulX _ _ _ _ ba1 bb2
 have bY:blen Y≤N1+N2:=by rw [hY,Nat.add_comm];exact blen_mulX _ _ _ _ bb1 ba2
 have bD:blen D≤N1+N2:=by rw [hD];exact blen_mulX _ _ _ _ ba2 bb2
 obtain ⟨T9,hT9⟩:∃ T9:Nat,T9=N1+N2:=⟨_,rfl⟩
 have bS:∀ c,c≤X+Y→blen c≤T9+1:=fun c hc=>by
  have g1:=(blen_le_iff X T9).1 (by omega)
  have g2:=(blen_le_iff Y T9).1 (by omega)
  rw [blen_le_iff,Nat.pow_succ];omega
 have lX:len32 X≤16000:=dlen X 16000 (by omega)
 have lY:len32 Y≤16000:=dlen Y 16000 (by omega)
 have lD:len32 D≤16000:=dlen D 16000 (by omega)
 have lS:len32 (X+Y)≤16000:=dlen (X+Y) 16000 (by have:=bS (X+Y) (Nat.le_refl _);omega)
 have k1:len32 a1≤4000:=dlen a1 4000 (by omega)
 have k2:len32 a2≤4000:=dlen a2 4000 (by omega)
 have k3:len32 b1≤4000:=dlen b1 4000 (by omega)
 have k4:len32 b2≤4000:=dlen b2 4000 (by omega)
 have eX:rvI sa a1*(b2:Int)=rvI sa X:=by rw [hX,rvI_mul]
 have eY:rvI sb b1*(a2:Int)=rvI sb Y:=by rw [hY,rvI_mul]
 have eD:(a2:Int)*(b2:Int)=(D:Int):=by rw [hD,Int.natCast_mul]
 rw [eX,eY,eD]
 have fin:∀ (x:Nat) (neg:Bool) (a' b':Nat) (ng:Bool),x≤X+Y→rvI neg x=rvI sa X+rvI sb Y→(FracOf x D 0 a' b'∧(x≠0→ng=neg))→(rvI ng a'*(D:Int)=(rvI sa X+rvI sb Y)*(b':Int)∧b'≠0∧blen a'≤2*(N1+N2)+3∧blen b'≤2*(N1+N2)+3):=fun x neg a' b' ng hx hv hF=>by
  refine ⟨by rw [← hv];exact frac_x x D a' b' ng neg hzD hF.1 hF.2,hF.1.1, ?_, ?_⟩
  ·have g1:=hF.1.2.2.2.1;have g2:=bS x hx;simp at g1;omega
  ·have g1:=hF.1.2.2.2.2;simp at g1;omega
 by_cases c1:sa=sb
 ·refine (raddEqO_ sa sb a1 a2 b1 b2 P1 P2 Q1 Q2 C1 C2 D1 D2 w h1 l1 h2 l2 h3 l3 h4 l4 k1 k2 k3 k4 za zb X Y D hX hY hD lX lY lD lS c1).mono ?_
  rintro e w' ⟨vn,vd,a',b',ng,he,q1,q2,q3,q4⟩
  refine ⟨vn,vd,a',b',ng,he,q1,q2,fin (X+Y) sa a' b' ng (Nat.le_refl _) ?_ q3,q4⟩
  rw [← c1];unfold rvI;cases sa <;> simp <;> omega
 ·by_cases c2:Y≤X
  ·refine (raddGeO_ sa sb a1 a2 b1 b2 P1 P2 Q1 Q2 C1 C2 D1 D2 w h1 l1 h2 l2 h3 l3 h4 l4 k1 k2 k3 k4 za zb X Y D hX hY hD lX lY lD lS c1 c2).mono ?_
   rintro e w' ⟨vn,vd,a',b',ng,he,q1,q2,q3,q4⟩
   refine ⟨vn,vd,a',b',ng,he,q1,q2,fin (X - Y) sa a' b' ng (by omega) ?_ q3,q4⟩
   unfold rvI;cases sa <;> cases sb <;> simp at c1 ⊢ <;> omega
  ·refine (raddLtO_ sa sb a1 a2 b1 b2 P1 P2 Q1 Q2 C1 C2 D1 D2 w h1 l1 h2 l2 h3 l3 h4 l4 k1 k2 k3 k4 za zb X Y D hX hY hD lX lY lD lS c1 (by omega)).mono ?_
   rintro e w' ⟨vn,vd,a',b',ng,he,q1,q2,q3,q4⟩
   refine ⟨vn,vd,a',b',ng,he,q1,q2,fin (Y - X) sb a' b' ng (by omega) ?_ q3,q4⟩
   unfold rvI;cases sa <;> cases sb <;> simp at c1 ⊢ <;> omega
theorem xadd_ (V:Int) (V':Int) (C C' N N':Nat) (hN:N+N'≤100000) s p l c q k d s2 p2 l2 c2 q2 k2 d2 (B1 B2:Nat) (w:World) (h1:XP B1 w s p l c q k d V C N) (h2:XP B2 w s2 p2 l2 c2 q2 k2 d2 (V') C' N'):Calls Tryz.prog 76 #[.agg #[.bool s,.slice p l c,.slice q k d],.agg #[.bool s2,.slice p2 l2 c2,.slice q2 k2 d2]] w fun e w'=>∃ s3 p3 l3 c3 q3 k3 d3,e=.returned (.agg #[.bool s3,.slice p3 l3 c3,.slice q3 k3 d3])∧XP w.heap.size w' s3 p3 l3 c3 q3 k3 d3 (V*(C':Int)+V'*(C:Int)) (C*C') (2*(N+N')+3)∧Kp w w':=by
 obtain ⟨a1,a2,u1,u2,u3⟩:=h1
 obtain ⟨b1,b2,v1,v2,v3⟩:=h2
 obtain ⟨P1,C1,e1,x1,y1⟩:=u1.arr
 obtain ⟨P2,C2,e2,x2,y2⟩:=u2.arr
 obtain ⟨Q1,D1,e3,x3,y3⟩:=v1.arr
 obtain ⟨Q2,D2,e4,x4,y4⟩:=v2.arr
 rw [e1,e2,e3,e4]
 refine (raddX_ s s2 a1 a2 b1 b2 P1 P2 Q1 Q2 C1 C2 D1 D2 w x1 y1 x2 y2 x3 y3 x4 y4 N N' hN u3.2.2.2.1 u3.2.2.2.2 v3.2.2.2.1 v3.2.2.2.2 u3.1 v3.1).mono ?_
 rintro e w' ⟨vn,vd,a',b',ng,rfl,o1,o2,⟨f1,f2,f3,f4⟩,g⟩
 obtain ⟨p3,c3,rfl,-,-⟩:=o1.arr
 obtain ⟨q3,d3,rfl,-,-⟩:=o2.arr
 exact ⟨ng,p3,_,c3,q3,_,d3,rfl,⟨a',b',o1,o2,XF.add s s2 ng a1 a2 b1 b2 a' b' V V' C C' N N' _ u3 v3 f2 f1 f3 f4⟩,g⟩
end Go.Proofs.YtcfnialfpblfmaaGreatDoor
