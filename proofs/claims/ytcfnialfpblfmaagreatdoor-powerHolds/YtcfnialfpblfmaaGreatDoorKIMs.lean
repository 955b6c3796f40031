import Derived.Test.YtcfnialfpblfmaaGreatDoorKWPc
set_option maxHeartbeats 2000000
set_option maxRecDepth 20000
namespace Go.Proofs.YtcfnialfpblfmaaGreatDoor
open Go.RowKit
theorem rsubA_ (P:World→World→Value→Prop) (Q:World→World→Value→Prop) s p l c q k d s2 p2 l2 c2 q2 k2 d2 (w:World) (hN:∀ W:World,Kp w W→Calls Tryz.prog 34 #[.agg #[.bool s2,.slice p2 l2 c2,.slice q2 k2 d2]] W fun e w'=>∃ s5 p5 l5 c5 q5 k5 d5,e=.returned (.agg #[.bool s5,.slice p5 l5 c5,.slice q5 k5 d5])∧P w w' (.agg #[.bool s5,.slice p5 l5 c5,.slice q5 k5 d5])∧Kp W w') (hA:∀ (W:World) s5 p5 l5 c5 q5 k5 d5,Kp w W→P w W (.agg #[.bool s5,.slice p5 l5 c5,.slice q5 k5 d5])→Calls Tryz.prog 76 #[.agg #[.bool s,.slice p l c,.slice q k d],.agg #[.bool s5,.slice p5 l5 c5,.slice q5 k5 d5]] W fun e w'=>∃ s3 p3 l3 c3 q3 k3 d3,e=.returned (.agg #[.bool s3,.slice p3 l3 c3,.slice q3 k3 d3])∧Q W w' (.agg #[.bool s3,.slice p3 l3 c3,.slice q3 k3 d3])∧Kp W w'):Calls Tryz.prog 73 #[.agg #[.bool s,.slice p l c,.slice q k d],.agg #[.bool s2,.slice p2 l2 c2,.slice q2 k2 d2]] w fun e w'=>∃ (W wh:World) (s3:Bool) (p3:Option Addr) (l3 c3:Nat) (q3:Option Addr) (k3 d3:Nat),e=.returned (.agg #[.bool s3,.slice p3 l3 c3,.slice q3 k3 d3])∧Q W wh (.agg #[.bool s3,.slice p3 l3 c3,.slice q3 k3 d3])∧w'=(((wh).setCell ⟨w.heap.size+2,0,none⟩ (.bool s3)).setCell ⟨w.heap.size+2,1,none⟩ (.slice p3 l3 c3)).setCell ⟨w.heap.size+2,2,none⟩ (.slice q3 k3 d3)∧w.heap.size+2<W.heap.size∧Kp w wh:=by
 go_enter Tryz.func73,Tryz.ntmps73
 go_wp2
 generalize hW:(((w.alloc (.cells #[.bool s,.slice p l c,.slice q k d] 43)).alloc (.cells #[.bool s2,.slice p2 l2 c2,.slice q2 k2 d2] 43)).alloc (.cells #[.bool false,.slice none 0 0,.slice none 0 0] 43))=W
 have kw:Kp w W:=by rw [← hW];exact (((Kp.refl w).alloc _).alloc _).alloc _
 have xw0:W.cell? ⟨w.heap.size,0,none⟩=some (.bool s):=by rw [← hW];simp [go_sem]
 have dw0:W.drew.cell? ⟨w.heap.size,0,none⟩=some (.bool s):=xw0
 have xw1:W.cell? ⟨w.heap.size,1,none⟩=some (.slice p l c):=by rw [← hW];simp [go_sem]
 have dw1:W.drew.cell? ⟨w.heap.size,1,none⟩=some (.slice p l c):=xw1
 have xw2:W.cell? ⟨w.heap.size,2,none⟩=some (.slice q k d):=by rw [← hW];simp [go_sem]
 have dw2:W.drew.cell? ⟨w.heap.size,2,none⟩=some (.slice q k d):=xw2
 have xw3:W.cell? ⟨w.heap.size+1,0,none⟩=some (.bool s2):=by rw [← hW];simp [go_sem]
 have dw3:W.drew.cell? ⟨w.heap.size+1,0,none⟩=some (.bool s2):=xw3
 have xw4:W.cell? ⟨w.heap.size+1,1,none⟩=some (.slice p2 l2 c2):=by rw [← hW];simp [go_sem]
 have dw4:W.drew.cell? ⟨w.heap.size+1,1,none⟩=some (.slice p2 l2 c2):=xw4
 have xw5:W.cell? ⟨w.heap.size+1,2,none⟩=some (.slice q2 k2 d2):=by rw [← hW];simp [go_sem]
 have dw5:W.drew.cell? ⟨w.heap.size+1,2,none⟩=some (.slice q2 k2 d2):=xw5
 obtain ⟨r0,rz0,r1,rz1,r2,rz2⟩:W.cell? ⟨w.heap.size+2,0,none⟩=some (.bool false)∧W.frozen? ⟨w.heap.size+2,0,none⟩=false∧W.cell? ⟨w.heap.size+2,1,none⟩=some (.slice none 0 0)∧W.frozen? ⟨w.heap.size+2,1,none⟩=false∧W.cell? ⟨w.heap.size+2,2,none⟩=some (.slice none 0 0)∧W.frozen? ⟨w.heap.size+2,2,none⟩=false:=by rw [← hW];simp [go_sem]
 have hBW:w.heap.size+2<W.heap.size:=cell_lt r0
 have hn1:w.heap.size+2≠w.heap.size:=by omega
 have hn2:w.heap.size+2≠w.heap.size+1:=by omega
 clear hW
 go_region_held3 (fun w'=>w'.cell? ⟨w.heap.size,0,none⟩=some (.bool s)∧w'.cell? ⟨w.heap.size,1,none⟩=some (.slice p l c)∧w'.cell? ⟨w.heap.size,2,none⟩=some (.slice q k d)∧w'.cell? ⟨w.heap.size+1,0,none⟩=some (.bool s2)∧w'.cell? ⟨w.heap.size+1,1,none⟩=some (.slice p2 l2 c2)∧w'.cell? ⟨w.heap.size+1,2,none⟩=some (.slice q2 k2 d2)) (first | (with_reducible exact ⟨xw0,xw1,xw2,xw3,xw4,xw5⟩) | (with_reducible exact ⟨dw0,dw1,dw2,dw3,dw4,dw5⟩) | (with_reducible exact ⟨aw0,aw1,aw2,aw3,aw4,aw5⟩) | (with_reducible exact ⟨bw0,bw1,bw2,bw3,bw4,bw5⟩) | (exact ⟨(CF3 hn1 bw0),(CF3 hn1 bw1),(CF3 hn1 bw2),(CF3 hn2 bw3),(CF3 hn2 bw4),(CF3 hn2 bw5)⟩)) (first | (go_at_call 34;refine (hN _ ?q0).mono ?_;(case q0=>exact kw.drew);rintro e wl ⟨s5,p5,l5,c5,q5,k5,d5,rfl,hp5,gl⟩;have kl:Kp W wl:=Kp.trans (Kp.drew (Kp.refl _)) gl;have aw0:=kkeep kl xw0;have aw1:=kkeep kl xw1;have aw2:=kkeep kl xw2;have aw3:=kkeep kl xw3;have aw4:=kkeep kl xw4;have aw5:=kkeep kl xw5) | (go_at_call 76;refine (hA _ s5 p5 l5 c5 q5 k5 d5 (kw.trans kl) hp5).mono ?_;rintro e wh ⟨s3,p3,l3,c3,q3,k3,d3,rfl,hp3,gh⟩;have kh:Kp W wh:=Kp.trans kl gh;have bw0:=kkeep kh xw0;have bw1:=kkeep kh xw1;have bw2:=kkeep kh xw2;have bw3:=kkeep kh xw3;have bw4:=kkeep kh xw4;have bw5:=kkeep kh xw5;obtain ⟨R0,Rz0,R1,Rz1,R2,Rz2⟩:=AK3 kh ⟨r0,rz0,r1,rz1,r2,rz2⟩))
 go_wp2
 exact BR (v:=.agg #[.bool s3,.slice p3 l3 c3,.slice q3 k3 d3]) (by simp [results,Tryz.results73,go_sem,R0,R1,R2]) rfl ⟨wl,wh,s3,p3,l3,c3,q3,k3,d3,rfl,hp3,rfl,Nat.lt_of_lt_of_le hBW (Below.size kl),Kp.trans kw kh⟩

theorem xsub_ (V V':Int) (C C' N N':Nat) (hN:N+N'≤100000) s p l c q k d s2 p2 l2 c2 q2 k2 d2 (B1 B2:Nat) (w:World) (h1:XP B1 w s p l c q k d V C N) (h2:XP B2 w s2 p2 l2 c2 q2 k2 d2 V' C' N'):Calls Tryz.prog 73 #[.agg #[.bool s,.slice p l c,.slice q k d],.agg #[.bool s2,.slice p2 l2 c2,.slice q2 k2 d2]] w fun e w'=>∃ s3 p3 l3 c3 q3 k3 d3,e=.returned (.agg #[.bool s3,.slice p3 l3 c3,.slice q3 k3 d3])∧XP w.heap.size w' s3 p3 l3 c3 q3 k3 d3 (V*(C':Int) - V'*(C:Int)) (C*C') (2*(N+N')+3)∧Kp w w':=by
 refine (rsubA_ (fun _ w' v=>∃ s5 p5 l5 c5 q5 k5 d5,v=.agg #[.bool s5,.slice p5 l5 c5,.slice q5 k5 d5]∧XP 0 w' s5 p5 l5 c5 q5 k5 d5 (-V') C' N') (fun W w' v=>∃ s3 p3 l3 c3 q3 k3 d3,v=.agg #[.bool s3,.slice p3 l3 c3,.slice q3 k3 d3]∧XP W.heap.size w' s3 p3 l3 c3 q3 k3 d3 (V*(C':Int) - V'*(C:Int)) (C*C') (2*(N+N')+3)) s p l c q k d s2 p2 l2 c2 q2 k2 d2 w (fun W g=>?_) (fun W s5 p5 l5 c5 q5 k5 d5 g hp=>?_)).mono ?_
 ·refine (xneg_ V' C' N' (by omega) s2 p2 l2 c2 q2 k2 d2 B2 W (h2.kp g)).mono ?_
  rintro e w' ⟨s5,p5,l5,c5,q5,k5,d5,rfl,hp,g2⟩
  exact ⟨s5,p5,l5,c5,q5,k5,d5,rfl,⟨s5,p5,l5,c5,q5,k5,d5,rfl,hp.mono (Nat.zero_le _)⟩,g2⟩
 ·obtain ⟨s6,p6,l6,c6,q6,k6,d6,e6,hp6⟩:=hp
  simp at e6
  obtain ⟨rfl,⟨rfl,rfl,rfl⟩,rfl,rfl,rfl⟩:=e6
  refine (xadd_ V (-V') C C' N N' hN s p l c q k d s5 p5 l5 c5 q5 k5 d5 B1 0 W (h1.kp g) hp6).mono ?_
  rintro e w' ⟨s3,p3,l3,c3,q3,k3,d3,rfl,hq,g2⟩
  refine ⟨s3,p3,l3,c3,q3,k3,d3,rfl,⟨s3,p3,l3,c3,q3,k3,d3,rfl, ?_⟩,g2⟩
  rw [show V*(C':Int) - V'*(C:Int)=V*(C':Int) + -V'*(C:Int) from by rw [Int.neg_mul];omega]
  exact hq
 ·rintro e w' ⟨W,wh,s3,p3,l3,c3,q3,k3,d3,rfl,⟨s4,p4,l4,c4,q4,k4,d4,e4,hq⟩,rfl,hlt,g⟩
  simp at e4
  obtain ⟨rfl,⟨rfl,rfl,rfl⟩,rfl,rfl,rfl⟩:=e4
  refine ⟨s3,p3,l3,c3,q3,k3,d3,rfl,XP.mono ((((hq).set (x:=⟨w.heap.size+2,0,none⟩) hlt (.bool s3)).set (x:=⟨w.heap.size+2,1,none⟩) hlt (.slice p3 l3 c3)).set (x:=⟨w.heap.size+2,2,none⟩) hlt (.slice q3 k3 d3)) (by omega),KS3 (g) (by first | omega | (simp <;> omega))⟩
set_option linter.unusedVariables false
def sgV (V:Int):Int:=if V<0 then -1 else if V=0 then 0 else 1
theorem XF.sign {s:Bool} {a b:Nat} {V:Int} {C N:Nat} (h:XF s a b V C N):(if a=0 then (0:Int) else if s then -1 else 1)=sgV V:=by
 obtain ⟨h1,h2,h3,-,-⟩:=h
 have hb:(0:Int)<(b:Int):=by omega
 have hc:(0:Int)<(C:Int):=by omega
 unfold sgV
 by_cases z:a=0
 ·rw [if_pos z]
  have e:V*(b:Int)=0:=by rw [← h3,z];unfold rvI;simp
  rcases Int.mul_eq_zero.1 e with c | c
  ·rw [c];simp
  ·omega
 ·rw [if_neg z]
  have ha:(0:Int)<(a:Int)*(C:Int):=Int.mul_pos (by omega) hc
  cases s
  ·have e:(a:Int)*(C:Int)=V*(b:Int):=by rw [← h3];unfold rvI;simp
   have hv:0<V:=by
    rcases Int.lt_or_le 0 V with g | g
    ·exact g
    ·have:=Int.mul_le_mul_of_nonneg_right g (show (0:Int)≤(b:Int) by omega)
     rw [← e,Int.zero_mul] at this;omega
   rw [if_neg (by decide),if_neg (by omega),if_neg (by omega)]
  ·have e:(a:Int)*(C:Int)=(-V)*(b:Int):=by rw [Int.neg_mul,← h3];unfold rvI;simp [Int.neg_mul]
   have hv:0 < -V:=by
    rcases Int.lt_or_le 0 (-V) with g | g
    ·exact g
    ·have:=Int.mul_le_mul_of_nonneg_right g (show (0:Int)≤(b:Int) by omega)
     rw [← e,Int.zero_mul] at this;omega
   rw [if_pos rfl,if_pos (by omega)]
theorem xsign_ (V:Int) (C N:Nat) (hN:N≤200000) s p l c q k d (B1:Nat) (w:World) (h:XP B1 w s p l c q k d V C N):Calls Tryz.prog 30 #[.agg #[.bool s,.slice p l c,.slice q k d]] w fun e w'=>e=.returned (.int .i64 (sgV V))∧Kp w w':=by
 obtain ⟨a,b,o1,o2,hx⟩:=h
 have e:=hx.sign
 have:=rsign_ s (.slice p l c) (.slice q k d) a w o1.ls (by have:=hx.2.2.2.1;omega)
 rw [e] at this
 exact this
theorem stV1_div (U:Nat) (hU:0<U) (V:Int):stV 1 U V=V / (U:Int)*(U:Int):=by
 have h:=flN_val (decide (V<0)) V.natAbs U (by omega)
 have e:rvI (decide (V<0)) V.natAbs=V:=by
  unfold rvI
  by_cases c:V<0
  ·rw [if_pos (by simpa using c)];omega
  ·rw [if_neg (by simpa using c)];omega
 rw [e] at h
 rw [← h]
 unfold stV rvI flN cutN bmp
 by_cases c:V<0
 ·by_cases z:V.natAbs % U=0
  ·simp [c,z,Int.neg_mul]
  ·have z':(V.natAbs % U != 0)=true:=by simpa using z
   rw [z']
   simp [c,z,Int.neg_mul]
 ·simp [c]
theorem stV3_div (U:Nat) (hU:0<U) (V:Int):stV 3 U V=if V<0 then -((-V) / (U:Int))*(U:Int) else V / (U:Int)*(U:Int):=by
 have e3:cutN 3 true V.natAbs U=V.natAbs / U:=by unfold cutN bmp;simp
 have e4:cutN 3 false V.natAbs U=V.natAbs / U:=by unfold cutN bmp;simp
 unfold stV
 rw [if_neg (by decide),e3,e4]
 by_cases c:V<0
 ·rw [if_pos c,if_pos c]
  have e:-V=((V.natAbs:Nat):Int):=by omega
  rw [e,Int.neg_mul,Int.natCast_mul];rfl
 ·rw [if_neg c,if_neg c]
  have e:V=((V.natAbs:Nat):Int):=by omega
  conv=>rhs;rw [e]
  rw [Int.natCast_mul];rfl
theorem stX1_ (V:Int) (C N:Nat) (hN:N≤40000) s p l c q k d (B1:Nat) (w:World) (h:XP B1 w s p l c q k d V C N):Calls Tryz.prog 37 #[.int .i64 1,.agg #[.bool s,.slice p l c,.slice q k d]] w fun e w'=>∃ s3 p3 l3 c3 q3 k3 d3,e=.returned (.agg #[.bool s3,.slice p3 l3 c3,.slice q3 k3 d3])∧XP w.heap.size w' s3 p3 l3 c3 q3 k3 d3 (stV 1 C V) C (5*N+20)∧Kp w w':=by
 have hc:C≠0:=by obtain ⟨a,b,-,-,hx⟩:=h;exact hx.2.1
 refine (stA1_ s p l c q k d (fun W w' s3 p3 l3 c3 q3 k3 d3=>XP W.heap.size w' s3 p3 l3 c3 q3 k3 d3 (stV 1 C V) C (5*N+20)) w (fun W g=>?_)).mono ?_
 ·refine (floorX_ V C N (by omega) s p l c q k d B1 W (h.kp g)).mono ?_
  rintro e w' ⟨s3,p3,l3,c3,q3,k3,d3,rfl,hf,g1⟩
  exact ⟨s3,p3,l3,c3,q3,k3,d3,rfl,hf.xp.as _ C _ hc (by rw [stV1_div C (by omega) V];simp) (by omega),g1⟩
 ·rintro e w' ⟨W,wh,s3,p3,l3,c3,q3,k3,d3,rfl,hq,rfl,hlt,g⟩
  exact ⟨s3,p3,l3,c3,q3,k3,d3,rfl,XP.mono ((((hq).set (x:=⟨w.heap.size+1,0,none⟩) hlt (.bool s3)).set (x:=⟨w.heap.size+1,1,none⟩) hlt (.slice p3 l3 c3)).set (x:=⟨w.heap.size+1,2,none⟩) hlt (.slice q3 k3 d3)) (by omega),KS3 (g) (by first | omega | (simp <;> omega))⟩
theorem stX2_ (V:Int) (C N:Nat) (hN:N≤40000) s p l c q k d (B1:Nat) (w:World) (h:XP B1 w s p l c q k d V C N):Calls Tryz.prog 37 #[.int .i64 2,.agg #[.bool s,.slice p l c,.slice q k d]] w fun e w'=>∃ s3 p3 l3 c3 q3 k3 d3,e=.returned (.agg #[.bool s3,.slice p3 l3 c3,.slice q3 k3 d3])∧XP w.heap.size w' s3 p3 l3 c3 q3 k3 d3 (stV 2 C V) C (5*N+20)∧Kp w w':=by
 have hc:C≠0:=by obtain ⟨a,b,-,-,hx⟩:=h;exact hx.2.1
 refine (stA2_ s p l c q k d (fun w' s5 p5 l5 c5 q5 k5 d5=>XP 0 w' s5 p5 l5 c5 q5 k5 d5 (-V) C N) (fun w' s6 p6 l6 c6 q6 k6 d6=>XP 0 w' s6 p6 l6 c6 q6 k6 d6 ((-V) / (C:Int)) 1 (N+2)) (fun W w' s3 p3 l3 c3 q3 k3 d3=>XP W.heap.size w' s3 p3 l3 c3 q3 k3 d3 (stV 2 C V) C (5*N+20)) w (fun W g=>?_) (fun W s5 p5 l5 c5 q5 k5 d5 g h5=>?_) (fun W s6 p6 l6 c6 q6 k6 d6 g h6=>?_)).mono ?_
 ·refine (xneg_ V C N (by omega) s p l c q k d B1 W (h.kp g)).mono ?_
  rintro e w' ⟨s5,p5,l5,c5,q5,k5,d5,rfl,hp,g1⟩
  exact ⟨s5,p5,l5,c5,q5,k5,d5,rfl,hp.mono (Nat.zero_le _),g1⟩
 ·refine (floorX_ (-V) C N (by omega) s5 p5 l5 c5 q5 k5 d5 0 W h5).mono ?_
  rintro e w' ⟨s6,p6,l6,c6,q6,k6,d6,rfl,hf,g1⟩
  exact ⟨s6,p6,l6,c6,q6,k6,d6,rfl,hf.xp.mono (Nat.zero_le _),g1⟩
 ·refine (xneg_ _ 1 (N+2) (by omega) s6 p6 l6 c6 q6 k6 d6 0 W h6).mono ?_
  rintro e w' ⟨s3,p3,l3,c3,q3,k3,d3,rfl,hp,g1⟩
  exact ⟨s3,p3,l3,c3,q3,k3,d3,rfl,hp.as _ C _ hc (by rw [stV_12 C (by omega) V,stV1_div C (by omega) (-V),Int.neg_mul];simp) (by omega),g1⟩
 ·rintro e w' ⟨W,wh,s3,p3,l3,c3,q3,k3,d3,rfl,hq,rfl,hlt,g⟩
  exact ⟨s3,p3,l3,c3,q3,k3,d3,rfl,XP.mono ((((hq).set (x:=⟨w.heap.size+1,0,none⟩) hlt (.bool s3)).set (x:=⟨w.heap.size+1,1,none⟩) hlt (.slice p3 l3 c3)).set (x:=⟨w.heap.size+1,2,none⟩) hlt (.slice q3 k3 d3)) (by omega),KS3 (g) (by first | omega | (simp <;> omega))⟩
theorem stX3_ (V:Int) (C N:Nat) (hN:N≤40000) s p l c q k d (B1:Nat) (w:World) (h:XP B1 w s p l c q k d V C N):Calls Tryz.prog 37 #[.int .i64 3,.agg #[.bool s,.slice p l c,.slice q k d]] w fun e w'=>∃ s3 p3 l3 c3 q3 k3 d3,e=.returned (.agg #[.bool s3,.slice p3 l3 c3,.slice q3 k3 d3])∧XP w.heap.size w' s3 p3 l3 c3 q3 k3 d3 (stV 3 C V) C (5*N+20)∧Kp w w':=by
 have hc:C≠0:=by obtain ⟨a,b,-,-,hx⟩:=h;exact hx.2.1
 by_cases ng:V<0
 ·have sg:sgV V<0:=by unfold sgV;rw [if_pos ng];decide
  refine (stA3n_ (sgV V) sg s p l c q k d (fun W w' s5 p5 l5 c5 q5 k5 d5=>XP W.heap.size w' s5 p5 l5 c5 q5 k5 d5 (-V) C N) (fun w' s6 p6 l6 c6 q6 k6 d6=>XP 0 w' s6 p6 l6 c6 q6 k6 d6 ((-V) / (C:Int)) 1 (N+2)) (fun W w' s3 p3 l3 c3 q3 k3 d3=>XP W.heap.size w' s3 p3 l3 c3 q3 k3 d3 (stV 3 C V) C (5*N+20)) w (fun W g=>xsign_ V C N (by omega) s p l c q k d B1 W (h.kp g)) (fun W g=>?_) (fun W W' b s5 p5 l5 c5 q5 k5 d5 g h5 hb=>?_) (fun U W s6 p6 l6 c6 q6 k6 d6 g h6 gu=>?_)).mono ?_
  ·refine (xneg_ V C N (by omega) s p l c q k d B1 W (h.kp g)).mono ?_
   rintro e w' ⟨s5,p5,l5,c5,q5,k5,d5,rfl,hp,g1⟩
   exact ⟨s5,p5,l5,c5,q5,k5,d5,rfl,hp,g1⟩
  ·have h5':=(((h5).set (x:=⟨b,0,none⟩) hb (.bool s5)).set (x:=⟨b,1,none⟩) hb (.slice p5 l5 c5)).set (x:=⟨b,2,none⟩) hb (.slice q5 k5 d5)
   refine (floorX_ (-V) C N (by omega) s5 p5 l5 c5 q5 k5 d5 W.heap.size _ h5').mono ?_
   rintro e w' ⟨s6,p6,l6,c6,q6,k6,d6,rfl,hf,g1⟩
   exact ⟨s6,p6,l6,c6,q6,k6,d6,rfl,hf.xp.mono (Nat.zero_le _),g1⟩
  ·refine (xneg_ _ 1 (N+2) (by omega) s6 p6 l6 c6 q6 k6 d6 0 W (h6.kp gu)).mono ?_
   rintro e w' ⟨s3,p3,l3,c3,q3,k3,d3,rfl,hp,g1⟩
   exact ⟨s3,p3,l3,c3,q3,k3,d3,rfl,hp.as _ C _ hc (by rw [stV3_div C (by omega) V,if_pos ng];simp) (by omega),g1⟩
  ·rintro e w' ⟨W,W2,wh,s3,p3,l3,c3,q3,k3,d3,rfl,hq,kk,rfl,hlt,g⟩
   replace hq:=hq.kp kk
   exact ⟨s3,p3,l3,c3,q3,k3,d3,rfl,XP.mono ((((hq).set (x:=⟨w.heap.size+1,0,none⟩) hlt (.bool s3)).set (x:=⟨w.heap.size+1,1,none⟩) hlt (.slice p3 l3 c3)).set (x:=⟨w.heap.size+1,2,none⟩) hlt (.slice q3 k3 d3)) (by omega),KS3 (g) (by first | omega | (simp <;> omega))⟩
 ·have sg:¬ sgV V<0:=by unfold sgV;rw [if_neg ng];split <;> decide
  refine (stA3_ (sgV V) sg s p l c q k d (fun W w' s3 p3 l3 c3 q3 k3 d3=>XP W.heap.size w' s3 p3 l3 c3 q3 k3 d3 (stV 3 C V) C (5*N+20)) w (fun W g=>xsign_ V C N (by omega) s p l c q k d B1 W (h.kp g)) (fun W g=>?_)).mono ?_
  ·refine (floorX_ V C N (by omega) s p l c q k d B1 W (h.kp g)).mono ?_
   rintro e w' ⟨s3,p3,l3,c3,q3,k3,d3,rfl,hf,g1⟩
   exact ⟨s3,p3,l3,c3,q3,k3,d3,rfl,hf.xp.as _ C _ hc (by rw [stV3_div C (by omega) V,if_neg ng];simp) (by omega),g1⟩
  ·rintro e w' ⟨W,W2,wh,s3,p3,l3,c3,q3,k3,d3,rfl,hq,kk,rfl,hlt,g⟩
   replace hq:=hq.kp kk
   exact ⟨s3,p3,l3,c3,q3,k3,d3,rfl,XP.mono ((((hq).set (x:=⟨w.heap.size+1,0,none⟩) hlt (.bool s3)).set (x:=⟨w.heap.size+1,1,none⟩) hlt (.slice p3 l3 c3)).set (x:=⟨w.heap.size+1,2,none⟩) hlt (.slice q3 k3 d3)) (by omega),KS3 (g) (by first | omega | (simp <;> omega))⟩
set_option linter.unusedVariables false
theorem insA_ (X1 X2 P P1 P2 R:Int) (f a1 a2:Bool) (w:World)
  (hF:∀ W:World,Calls Tryz.prog 38 #[.int .u64 P] W fun e w'=>e=.returned (.bool f)∧w'=W)
  (h1:(f=true∧P1=P)∨(f=false∧P1=0))
  (hA1:∀ W:World,Calls Tryz.prog 39 #[.int .u64 X1,.int .u64 P1] W fun e w'=>e=.returned (.bool a1)∧w'=W)
  (h2:(a1=true∧P2=X1)∨(a1=false∧P2=P1))
  (hA2:∀ W:World,Calls Tryz.prog 39 #[.int .u64 P2,.int .u64 X2] W fun e w'=>e=.returned (.bool a2)∧w'=W)
  (h3:(a2=true∧R=X2)∨(a2=false∧R=P2)):Calls Tryz.prog 27 #[.agg #[.int .u64 X1,.int .u64 X2],.int .u64 P] w fun e w'=>e=.returned (.int .u64 R)∧Kp w w':=by
 have qX:=Fq.H2.new w (.int .u64 X1) (.int .u64 X2) 33
 have kX:Kp w (w.alloc (.cells #[.int .u64 X1,.int .u64 X2] 33)):=(Kp.refl w).alloc _
 obtain ⟨x0,x1,xz0,xz1⟩:=id qX
 rcases h1 with ⟨rfl,h1⟩ | ⟨rfl,h1⟩ <;> rcases h2 with ⟨rfl,h2⟩ | ⟨rfl,h2⟩ <;> rcases h3 with ⟨rfl,h3⟩ | ⟨rfl,h3⟩
 all_goals (
  replace h1:=h1.symm
  replace h2:=h2.symm
  replace h3:=h3.symm
  subst h1
  subst h2
  subst h3
  go_enter Tryz.func27,Tryz.ntmps27
  go_wp2_with (first | (go_at_call 38;refine SM (hF _) ?_) | (go_at_call_of 39 (Value.int .u64 X2);refine SM (hA2 _) ?_) | (go_at_call_of 39 (Value.int .u64 X1);refine SM (hA1 _) ?_))
  first | (exact BR (v:=.int .u64 X2) (by simp [results,Tryz.results27,go_sem]) rfl ⟨rfl,kX⟩) | (exact BR (v:=.int .u64 X1) (by simp [results,Tryz.results27,go_sem]) rfl ⟨rfl,kX⟩) | (exact BR (v:=.int .u64 P) (by simp [results,Tryz.results27,go_sem]) rfl ⟨rfl,kX⟩) | (exact BR (v:=.int .u64 0) (by simp [results,Tryz.results27,go_sem]) rfl ⟨rfl,kX⟩))
theorem Iv_plz (n:Bool) (m:Nat):Iv n m=vZ (Fq.plz n m):=by
 cases n
 ·exact (vZ_pos (m:Int) (by omega)).symm
 ·show Iv true m=vZ (-(m:Int))
  rw [vZ_neg,vZ_pos (m:Int) (by omega)];rfl
theorem plz_pI (z:Int):pI z=((Fq.wD (decide (z<0)) z.natAbs:Nat):Int)∧Fq.plz (decide (z<0)) z.natAbs=z:=by
 refine ⟨rfl, ?_⟩
 unfold Fq.plz
 by_cases c:z<0
 ·rw [if_pos (decide_eq_true c)];omega
 ·rw [if_neg (by simpa using c)];omega
theorem inside9_ (L H:Int) (d:VdZ L H) (nI:L≠9218868437227405312) (p:Nat) (hp:p<18446744073709551616):∃ (n:Bool) (m:Nat),m<9218868437227405312∧L≤Fq.plz n m∧Fq.plz n m≤H∧∀ w:World,Calls Tryz.prog 27 #[.agg #[.int .u64 (pI L),.int .u64 (pI H)],.int .u64 ((p:Nat):Int)] w fun e w'=>e=.returned (.int .u64 ((Fq.wD n m:Nat):Int))∧Kp w w':=by
 obtain ⟨np,mp,hm,rfl⟩:=Fq.exD p hp
 unfold VdZ at d
 have d9:=d.resolve_left (fun h=>nI h.1)
 have eL:=plz_pI L
 have eH:=plz_pI H
 have pb:∀ n m,(Fq.plz n m).natAbs=m:=fun n m=>by unfold Fq.plz;split <;> omega
 obtain ⟨n1,m1,hm1,h1⟩:∃ (n1:Bool) (m1:Nat),m1<9218868437227405312∧((decide (mp<9218868437227405312)=true∧((Fq.wD n1 m1:Nat):Int)=((Fq.wD np mp:Nat):Int))∨(decide (mp<9218868437227405312)=false∧((Fq.wD n1 m1:Nat):Int)=0)):=by
  by_cases c:mp<9218868437227405312
  ·exact ⟨np,mp,c,Or.inl ⟨decide_eq_true c,rfl⟩⟩
  ·exact ⟨false,0,by decide,Or.inr ⟨decide_eq_false c,rfl⟩⟩
 have z1:=pb n1 m1
 obtain ⟨n2,m2,hm2,l2,h2⟩:∃ (n2:Bool) (m2:Nat),m2<9218868437227405312∧L≤Fq.plz n2 m2∧((decide (L.natAbs≤9218868437227405312∧m1≤9218868437227405312∧Fq.plz n1 m1<Fq.plz (decide (L<0)) L.natAbs)=true∧((Fq.wD n2 m2:Nat):Int)=pI L)∨(decide (L.natAbs≤9218868437227405312∧m1≤9218868437227405312∧Fq.plz n1 m1<Fq.plz (decide (L<0)) L.natAbs)=false∧((Fq.wD n2 m2:Nat):Int)=((Fq.wD n1 m1:Nat):Int))):=by
  by_cases c:Fq.plz n1 m1<L
  ·exact ⟨decide (L<0),L.natAbs,by omega,by rw [eL.2];exact Int.le_refl _,Or.inl ⟨decide_eq_true ⟨by omega,by omega,by rw [eL.2];exact c⟩,rfl⟩⟩
  ·exact ⟨n1,m1,hm1,by omega,Or.inr ⟨decide_eq_false (fun h=>c (by rw [eL.2] at h;exact h.2.2)),rfl⟩⟩
 have z2:=pb n2 m2
 obtain ⟨n3,m3,hm3,l3,g3,h3⟩:∃ (n3:Bool) (m3:Nat),m3<9218868437227405312∧L≤Fq.plz n3 m3∧Fq.plz n3 m3≤H∧((decide (m2≤9218868437227405312∧H.natAbs≤9218868437227405312∧Fq.plz (decide (H<0)) H.natAbs<Fq.plz n2 m2)=true∧((Fq.wD n3 m3:Nat):Int)=pI H)∨(decide (m2≤9218868437227405312∧H.natAbs≤9218868437227405312∧Fq.plz (decide (H<0)) H.natAbs<Fq.plz n2 m2)=false∧((Fq.wD n3 m3:Nat):Int)=((Fq.wD n2 m2:Nat):Int))):=by
  by_cases c:H<Fq.plz n2 m2
  ·exact ⟨decide (H<0),H.natAbs,by omega,by rw [eH.2];omega,by rw [eH.2];exact Int.le_refl _,Or.inl ⟨decide_eq_true ⟨by omega,by omega,by rw [eH.2];exact c⟩,rfl⟩⟩
  ·exact ⟨n2,m2,hm2,l2,by omega,Or.inr ⟨decide_eq_false (fun h=>c (by rw [eH.2] at h;exact h.2.2)),rfl⟩⟩
 exact ⟨n3,m3,hm3,l3,g3,fun w=>insA_ (pI L) (pI H) _ _ _ _ _ _ _ w (fun W=>fin_ np mp hm W) h1 (fun W=>Fq.above6_ _ _ _ _ (by omega) (by omega) W) h2 (fun W=>Fq.above6_ _ _ _ _ (by omega) (by omega) W) h3⟩
theorem phA_ (X1 X2 Y1 Y2 Z1 Z2 V1 V2 P Q n M:Int) (w:World) (hT:TU7 w)
  (hRx:∀ W:World,Calls Tryz.prog 22 #[.agg #[.int .u64 X1,.int .u64 X2]] W fun e w'=>e=.returned (.agg #[.int .u64 Z1,.int .u64 Z2])∧Kp W w')
  (hRy:∀ W:World,Calls Tryz.prog 22 #[.agg #[.int .u64 Y1,.int .u64 Y2]] W fun e w'=>e=.returned (.agg #[.int .u64 V1,.int .u64 V2])∧Kp W w')
  (hL:∀ W:World,Calls Tryz.prog 23 #[.int .i64 n] W fun e w'=>e=.returned (.int .i64 M)∧Kp W w')
  (a b c9 d9 mL mH xL xH:Nat)
  (hXi:∀ W:World,Calls Tryz.prog 20 #[.agg #[.int .u64 Z1,.int .u64 Z2]] W fun e w'=>e=.returned (.agg #[.float .f64 a,.float .f64 b])∧Kp W w')
  (hYi:∀ W:World,Calls Tryz.prog 20 #[.agg #[.int .u64 V1,.int .u64 V2]] W fun e w'=>e=.returned (.agg #[.float .f64 c9,.float .f64 d9])∧Kp W w')
  (hMi:∀ W:World,Calls Tryz.prog 16 #[.agg #[.float .f64 a,.float .f64 b],.agg #[.float .f64 c9,.float .f64 d9]] W fun e w'=>e=.returned (.agg #[.float .f64 mL,.float .f64 mH])∧Kp W w')
  (hMa:∀ W:World,Calls Tryz.prog 25 #[.agg #[.float .f64 a,.float .f64 b],.agg #[.float .f64 c9,.float .f64 d9]] W fun e w'=>e=.returned (.agg #[.float .f64 xL,.float .f64 xH])∧Kp W w')
  (hlv:∀ W:World,TU7 W→Calls Tryz.prog 10 #[] W fun e w'=>e=.returned (.bool true)∧Kp W w') (he:(((Z1 == 9218868437227405312)=true∧(Z2 == 18442240474082181120)=true)∨((Z1 == 9218868437227405312)=false∧(V1 == 9218868437227405312)=true∧(V2 == 18442240474082181120)=true)))
  (hOm:∀ W:World,Calls Tryz.prog 19 #[.agg #[.float .f64 mL,.float .f64 mH]] W fun e w'=>e=.returned (.agg #[.int .u64 9218868437227405312,.int .u64 18442240474082181120])∧Kp W w')
  (hOx:∀ W:World,Calls Tryz.prog 19 #[.agg #[.float .f64 xL,.float .f64 xH]] W fun e w'=>e=.returned (.agg #[.int .u64 9218868437227405312,.int .u64 18442240474082181120])∧Kp W w'):Calls Tryz.prog 5 #[.agg #[.int .u64 X1,.int .u64 X2],.agg #[.int .u64 Y1,.int .u64 Y2],.int .u64 P,.int .u64 Q,.int .i64 n] w fun e w'=>e=.returned (.bool true)∧Kp w w':=by
 have qX:=Fq.H2.keep (Fq.H2.new w (.int .u64 X1) (.int .u64 X2) 33) ((Kp.refl _).alloc (.cells #[.int .u64 Y1,.int .u64 Y2] 33))
 have qY:=Fq.H2.new (w.alloc (.cells #[.int .u64 X1,.int .u64 X2] 33)) (.int .u64 Y1) (.int .u64 Y2) 33
 rw [show (w.alloc (.cells #[.int .u64 X1,.int .u64 X2] 33)).heap.size=w.heap.size+1 by simp] at qY
 have kX:Kp w ((w.alloc (.cells #[.int .u64 X1,.int .u64 X2] 33)).alloc (.cells #[.int .u64 Y1,.int .u64 Y2] 33)):=((Kp.refl w).alloc _).alloc _
 go_enter Tryz.func5,Tryz.ntmps5
 go_upto_region 2 with (first | (go_at_call 22;refine (hRx _).mono ?_;rintro e w1 ⟨rfl,g1⟩;obtain ⟨x0,x1,xz0,xz1⟩:=Fq.H2.keep qX g1))
 have s1:Fq.H2 ((w1.setCell ⟨w.heap.size,0,none⟩ (.int .u64 Z1)).setCell ⟨w.heap.size,1,none⟩ (.int .u64 Z2)) w.heap.size (.int .u64 Z1) (.int .u64 Z2):=Fq.H2.put (Fq.H2.keep qX g1) _ _
 have s2:Fq.H2 ((w1.setCell ⟨w.heap.size,0,none⟩ (.int .u64 Z1)).setCell ⟨w.heap.size,1,none⟩ (.int .u64 Z2)) (w.heap.size+1) (.int .u64 Y1) (.int .u64 Y2):=Fq.H2.far (Fq.H2.keep qY g1) (by omega) _ _
 have k2:Kp w ((w1.setCell ⟨w.heap.size,0,none⟩ (.int .u64 Z1)).setCell ⟨w.heap.size,1,none⟩ (.int .u64 Z2)):=KS2 (Kp.trans kX g1) (Nat.le_refl _)
 generalize hW:((w1.setCell ⟨w.heap.size,0,none⟩ (.int .u64 Z1)).setCell ⟨w.heap.size,1,none⟩ (.int .u64 Z2))=W1 at s1 s2 k2 ⊢
 clear hW x0 x1 xz0 xz1 g1 qX qY kX
 obtain ⟨y0,y1,yz0,yz1⟩:=id s2
 go_upto_region 3 with (first | (go_at_call 22;refine (hRy _).mono ?_;rintro e w2 ⟨rfl,g2⟩;clear y0 y1 yz0 yz1;obtain ⟨y0,y1,yz0,yz1⟩:=Fq.H2.keep s2 g2))
 have s3:Fq.H2 ((w2.setCell ⟨w.heap.size+1,0,none⟩ (.int .u64 V1)).setCell ⟨w.heap.size+1,1,none⟩ (.int .u64 V2)) w.heap.size (.int .u64 Z1) (.int .u64 Z2):=Fq.H2.far (Fq.H2.keep s1 g2) (by omega) _ _
 have s4:Fq.H2 ((w2.setCell ⟨w.heap.size+1,0,none⟩ (.int .u64 V1)).setCell ⟨w.heap.size+1,1,none⟩ (.int .u64 V2)) (w.heap.size+1) (.int .u64 V1) (.int .u64 V2):=Fq.H2.put (Fq.H2.keep s2 g2) _ _
 have kW:Kp w ((w2.setCell ⟨w.heap.size+1,0,none⟩ (.int .u64 V1)).setCell ⟨w.heap.size+1,1,none⟩ (.int .u64 V2)):=KS2 (Kp.trans k2 g2) (Nat.le_succ _)
 generalize hW:((w2.setCell ⟨w.heap.size+1,0,none⟩ (.int .u64 V1)).setCell ⟨w.heap.size+1,1,none⟩ (.int .u64 V2))=W at s3 s4 kW ⊢
 clear hW y0 y1 yz0 yz1 g2 s1 s2 k2
 go_upto_region 4 with (first | (go_at_call 23;refine (hL _).mono ?_;rintro e w3 ⟨rfl,g3⟩))
 replace s3:=Fq.H2.keep s3 g3
 replace s4:=Fq.H2.keep s4 g3
 replace kW:=Kp.trans kW g3
 clear g3 W
 generalize w3=W at s3 s4 kW ⊢
 generalize hBx:w.heap.size=Bx at *
 generalize hBy:Bx+1=By at *
 go_cut [30] (fun s30 wx=>s30=.bool true∧Kp W wx)
 case first =>
  have hTW:=hT.kp kW
  rcases he with ⟨t1,t2⟩ | ⟨t1,t2,t3⟩
  all_goals (
   refine Fq.wp_region_grow (by kernel_rfl) (by kernel_rfl) (fun ι _ G hG hall=>?_)
   have tG:∀ n,TU7 (G n):=fun n=>hTW.kp (hG n)
   have cc0:∀ n,(G n).cell? ⟨Bx,0,none⟩=some (.int .u64 Z1):=fun n=>Fq.gkeep (hG n) s3.1
   have cc1:∀ n,(G n).cell? ⟨Bx,1,none⟩=some (.int .u64 Z2):=fun n=>Fq.gkeep (hG n) s3.2.1
   have cc2:∀ n,(G n).cell? ⟨By,0,none⟩=some (.int .u64 V1):=fun n=>Fq.gkeep (hG n) s4.1
   have cc3:∀ n,(G n).cell? ⟨By,1,none⟩=some (.int .u64 V2):=fun n=>Fq.gkeep (hG n) s4.2.1
   repeat (go_big_quiet_step (first | (go_at_call 24;exact (rempty9_ _).mono (fun e w' h=>⟨h.1,hall _ (Fq.gtrans (hG _) h.2)⟩))))
   refine wpQuiet_nil ?_
   rintro _ ⟨nq,rfl⟩
   have gq:Kp W (G nq):=hG nq
   clear cc0 cc1 cc2 cc3 hall hG tG
   go_wp2_with fail
   go_meet
   exact ⟨rfl,gq⟩)
 case rest =>
 obtain ⟨rfl,gw⟩:=hcut
 replace s3:=Fq.H2.keep s3 gw
 replace s4:=Fq.H2.keep s4 gw
 replace kW:=Kp.trans kW gw
 clear gw W he
 generalize wc=W at s3 s4 kW ⊢
 go_upto_region 5 with fail
 have hTW:=hT.kp kW
 refine Fq.wp_region_grow (by kernel_rfl) (by kernel_rfl) (fun ι _ G hG hall=>?_)
 have tG:∀ n,TU7 (G n):=fun n=>hTW.kp (hG n)
 have cc0:∀ n,(G n).cell? ⟨Bx,0,none⟩=some (.int .u64 Z1):=fun n=>Fq.gkeep (hG n) s3.1
 have cc1:∀ n,(G n).cell? ⟨Bx,1,none⟩=some (.int .u64 Z2):=fun n=>Fq.gkeep (hG n) s3.2.1
 have cc2:∀ n,(G n).cell? ⟨By,0,none⟩=some (.int .u64 V1):=fun n=>Fq.gkeep (hG n) s4.1
 have cc3:∀ n,(G n).cell? ⟨By,1,none⟩=some (.int .u64 V2):=fun n=>Fq.gkeep (hG n) s4.2.1
 repeat (go_big_quiet_step (first | (go_at_call 10;exact (hlv _ (tG _)).mono (fun e w' h=>⟨h.1,hall _ (Fq.gtrans (hG _) h.2)⟩)) | (go_at_call_of 20 (Value.int .u64 Z1);exact (hXi _).mono (fun e w' h=>⟨h.1,hall _ (Fq.gtrans (hG _) h.2)⟩)) | (go_at_call_of 20 (Value.int .u64 V1);exact (hYi _).mono (fun e w' h=>⟨h.1,hall _ (Fq.gtrans (hG _) h.2)⟩)) | (go_at_call 16;exact (hMi _).mono (fun e w' h=>⟨h.1,hall _ (Fq.gtrans (hG _) h.2)⟩)) | (go_at_call 25;exact (hMa _).mono (fun e w' h=>⟨h.1,hall _ (Fq.gtrans (hG _) h.2)⟩)) | (go_at_call_of 19 (Value.float .f64 mL);exact (hOm _).mono (fun e w' h=>⟨h.1,hall _ (Fq.gtrans (hG _) h.2)⟩)) | (go_at_call_of 19 (Value.float .f64 xL);exact (hOx _).mono (fun e w' h=>⟨h.1,hall _ (Fq.gtrans (hG _) h.2)⟩)) | (go_at_call 24;exact (rempty9_ _).mono (fun e w' h=>⟨h.1,hall _ (Fq.gtrans (hG _) h.2)⟩))))
 refine wpQuiet_nil ?_
 rintro _ ⟨nq,rfl⟩
 have gq:Kp W (G nq):=hG nq
 clear cc0 cc1 cc2 cc3 hall hG tG
 go_wp2
 exact BR (v:=.bool true) (by simp [results,Tryz.results5,go_sem]) rfl ⟨rfl,(Kp.trans kW gq)⟩
end Go.Proofs.YtcfnialfpblfmaaGreatDoor
