import Derived.Test.YtngglmnhjjlgkaaGreatDoorKIMp
import Derived.Test.YtngglmnhjjlgkaaGreatDoorKSRa
set_option maxHeartbeats 2000000
set_option maxRecDepth 20000
namespace Go.Proofs.YtngglmnhjjlgkaaGreatDoor
open Go.RowKit
theorem xmul_ (V:Int) (V':Int) (C C' N N':Nat) (hN:N + N'≤100000) s p l c q k d s2 p2 l2 c2 q2 k2 d2 (B1 B2:Nat) (w:World) (h1:XP B1 w s p l c q k d V C N) (h2:XP B2 w s2 p2 l2 c2 q2 k2 d2 (V') C' N'):Calls Tryz.prog 79 #[.agg #[.bool s,.slice p l c,.slice q k d],.agg #[.bool s2,.slice p2 l2 c2,.slice q2 k2 d2]] w fun e w'=>∃ s3 p3 l3 c3 q3 k3 d3,e = .returned (.agg #[.bool s3,.slice p3 l3 c3,.slice q3 k3 d3])∧XP w.heap.size w' s3 p3 l3 c3 q3 k3 d3 (V * V') (C * C') (2 * (N + N') + 3)∧Kp w w':=by
 obtain ⟨a1,a2,u1,u2,u3⟩:=h1
 obtain ⟨b1,b2,v1,v2,v3⟩:=h2
 obtain ⟨P1,C1,e1,x1,y1⟩:=u1.arr
 obtain ⟨P2,C2,e2,x2,y2⟩:=u2.arr
 obtain ⟨Q1,D1,e3,x3,y3⟩:=v1.arr
 obtain ⟨Q2,D2,e4,x4,y4⟩:=v2.arr
 rw [e1,e2,e3,e4]
 obtain ⟨X,hX⟩:∃ X,X = a1 * b1:=⟨_,rfl⟩
 obtain ⟨D,hD⟩:∃ D,D = a2 * b2:=⟨_,rfl⟩
 have ba1:=u3.2.2.2.1
 have ba2:=u3.2.2.2.2
 have bb1:=v3.2.2.2.1
 have bb2:=v3.2.2.2.2
 have bX:blen X≤N + N':=by rw [hX];exact blen_mulX _ _ _ _ ba1 bb1
 have bD:blen D≤N + N':=by rw [hD];exact blen_mulX _ _ _ _ ba2 bb2
 have zb:=v3.1
 have hzD:D≠0:=by rw [hD];exact Nat.mul_ne_zero u3.1 zb
 refine (rmulO_ s s2 a1 a2 b1 b2 P1 P2 Q1 Q2 C1 C2 D1 D2 w x1 y1 x2 y2 x3 y3 x4 y4 (dlen a1 4000 (by omega)) (dlen a2 4000 (by omega)) (dlen b1 4000 (by omega)) (dlen b2 4000 (by omega)) u3.1 zb X D hX hD (dlen X 16000 (by omega)) (dlen D 16000 (by omega))).mono ?_
 rintro e w' ⟨vn,vd,a',b',ng,rfl,o1,o2,⟨hF,hn⟩,g⟩
 obtain ⟨p3,c3,rfl,-,-⟩:=o1.arr
 obtain ⟨q3,d3,rfl,-,-⟩:=o2.arr
 exact ⟨ng,p3,_,c3,q3,_,d3,rfl,⟨a',b',o1,o2,XF.mul s s2 ng a1 a2 b1 b2 a' b' V V' C C' N N' _ u3 v3 hF.1 (by have h:=frac_x X D a' b' ng _ hzD hF hn;rw [hD,hX,Int.natCast_mul,rvI_mul2] at h;exact h) (by have g1:=hF.2.2.2.1;simp at g1;omega) (by have g1:=hF.2.2.2.2;simp at g1;omega)⟩,g⟩
theorem xquo_ (V:Int) (U:Nat) (t:Bool) (hU:U≠0) (C C' N N':Nat) (hN:N + N'≤100000) s p l c q k d s2 p2 l2 c2 q2 k2 d2 (B1 B2:Nat) (w:World) (h1:XP B1 w s p l c q k d V C N) (h2:XP B2 w s2 p2 l2 c2 q2 k2 d2 (rvI t U) C' N'):Calls Tryz.prog 103 #[.agg #[.bool s,.slice p l c,.slice q k d],.agg #[.bool s2,.slice p2 l2 c2,.slice q2 k2 d2]] w fun e w'=>∃ s3 p3 l3 c3 q3 k3 d3,e = .returned (.agg #[.bool s3,.slice p3 l3 c3,.slice q3 k3 d3])∧XP w.heap.size w' s3 p3 l3 c3 q3 k3 d3 (rvI t 1 * V * (C':Int)) (C * U) (2 * (N + N') + 3)∧Kp w w':=by
 obtain ⟨a1,a2,u1,u2,u3⟩:=h1
 obtain ⟨b1,b2,v1,v2,v3⟩:=h2
 obtain ⟨P1,C1,e1,x1,y1⟩:=u1.arr
 obtain ⟨P2,C2,e2,x2,y2⟩:=u2.arr
 obtain ⟨Q1,D1,e3,x3,y3⟩:=v1.arr
 obtain ⟨Q2,D2,e4,x4,y4⟩:=v2.arr
 rw [e1,e2,e3,e4]
 obtain ⟨X,hX⟩:∃ X,X = a1 * b2:=⟨_,rfl⟩
 obtain ⟨D,hD⟩:∃ D,D = a2 * b1:=⟨_,rfl⟩
 have ba1:=u3.2.2.2.1
 have ba2:=u3.2.2.2.2
 have bb1:=v3.2.2.2.1
 have bb2:=v3.2.2.2.2
 have bX:blen X≤N + N':=by rw [hX];exact blen_mulX _ _ _ _ ba1 bb2
 have bD:blen D≤N + N':=by rw [hD];exact blen_mulX _ _ _ _ ba2 bb1
 have zb:b1≠0:=by
  intro z
  obtain ⟨g1,g2,g3,-,-⟩:=v3
  rw [z] at g3
  have q1:(U:Int) * (b2:Int)≠0:=by have:(0:Int) < (U:Int) * (b2:Int):=Int.mul_pos (by omega) (by omega);omega
  unfold rvI at g3
  cases s2 <;> cases t <;> simp [Int.neg_mul] at g3 <;> omega
 have hzD:D≠0:=by rw [hD];exact Nat.mul_ne_zero u3.1 zb
 refine (rquoO_ s s2 a1 a2 b1 b2 P1 P2 Q1 Q2 C1 C2 D1 D2 w x1 y1 x2 y2 x3 y3 x4 y4 (dlen a1 4000 (by omega)) (dlen a2 4000 (by omega)) (dlen b1 4000 (by omega)) (dlen b2 4000 (by omega)) u3.1 zb X D hX hD (dlen X 16000 (by omega)) (dlen D 16000 (by omega))).mono ?_
 rintro e w' ⟨vn,vd,a',b',ng,rfl,o1,o2,⟨hF,hn⟩,g⟩
 obtain ⟨p3,c3,rfl,-,-⟩:=o1.arr
 obtain ⟨q3,d3,rfl,-,-⟩:=o2.arr
 exact ⟨ng,p3,_,c3,q3,_,d3,rfl,⟨a',b',o1,o2,XF.quo s s2 ng a1 a2 b1 b2 a' b' V U t C C' N N' _ u3 v3 hU hF.1 (by have h:=frac_x X D a' b' ng _ hzD hF hn;rw [hX] at h;rw [hD,Int.natCast_mul] at h;exact h) (by have g1:=hF.2.2.2.1;simp at g1;omega) (by have g1:=hF.2.2.2.2;simp at g1;omega)⟩,g⟩
theorem iv_lt8 (n n':Bool) (m m':Nat):Iv n m < Iv n' m' ↔ Fq.plz n m < Fq.plz n' m':=by
 have h1:=Fq.vV_lt_iff Ieee.double m m'
 have h2:=Fq.vV_lt_iff Ieee.double m' m
 have h3:=vV_zero_iff m
 have h4:=vV_zero_iff m'
 unfold Iv Fq.plz
 cases n <;> cases n' <;> simp <;> omega
open Ieee in
theorem cmI_iv (n n':Bool) (m m':Nat):cmI (Iv n m) (Iv n' m') = cmI (Fq.plz n m) (Fq.plz n' m'):=by
 unfold cmI
 simp only [iv_lt8]
theorem cmI_le0 (x y:Int):cmI x y≤0 ↔ x≤y:=by
 unfold cmI
 by_cases c1:x < y
 ·rw [if_pos c1];omega
 ·rw [if_neg c1]
  by_cases c2:y < x
  ·rw [if_pos c2];omega
  ·rw [if_neg c2];omega
theorem cmI_lt (x y:Int) (h:x < y):cmI x y = -1:=by unfold cmI;rw [if_pos h]
theorem cmI_gt (x y:Int) (h:y < x):cmI x y = 1:=by unfold cmI;rw [if_neg (by omega),if_pos h]
theorem cmI_eq (x:Int):cmI x x = 0:=by unfold cmI;rw [if_neg (by omega),if_neg (by omega)]
theorem rsignP_ (n:Bool) (m:Nat) s p l c q k d (B1:Nat) (w:World) (h:RP B1 w s p l c q k d n m):Calls Tryz.prog 92 #[.agg #[.bool s,.slice p l c,.slice q k d]] w fun e w'=>e = .returned (.int .i64 (cmI (Iv n m) 0))∧Kp w w':=by
 obtain ⟨a,b,u1,u2,u3⟩:=h
 obtain ⟨K,hK⟩:∃ K:Nat,K = 1074:=⟨_,rfl⟩
 obtain ⟨f1,f2,f3,f4,f5⟩:=u3 K hK
 have h:=rsign_ s (.slice p l c) (.slice q k d) a w u1.ls (by omega)
 have hz:a = 0 ↔ Fq.vV Ieee.double m = 0:=by
  have hp:=Nat.two_pow_pos K
  constructor
  ·intro h0;rw [h0,Nat.zero_mul] at f2
   rcases Nat.mul_eq_zero.1 f2.symm with h1 | h1 <;> omega
  ·intro h0;rw [h0,Nat.zero_mul] at f2
   rcases Nat.mul_eq_zero.1 f2 with h1 | h1
   ·exact h1
   ·omega
 have e:(if a = 0 then 0 else if s then (-1:Int) else 1) = cmI (Iv n m) 0:=by
  rw [f3]
  by_cases z:a = 0
  ·rw [if_pos z,hz.1 z];cases s <;> rfl
  ·have zp:0 < Fq.vV Ieee.double m:=by rcases Nat.eq_zero_or_pos (Fq.vV Ieee.double m) with h | h;exact absurd (hz.2 h) z;exact h
   rw [if_neg z]
   cases s
   ·rw [if_neg (by decide),if_neg (by decide),cmI_gt _ _ (by omega)]
   ·rw [if_pos rfl,if_pos rfl,cmI_lt _ _ (by omega)]
 rw [e] at h
 exact h
theorem signE_ (n:Bool) (m:Nat) s p l c q k d (B1:Nat) (w:World) (h:RP B1 w s p l c q k d (fN n m) (fM m)):Calls Tryz.prog 66 #[.agg #[.int .i64 (infS n m),.bool s,.slice p l c,.slice q k d]] w fun e w'=>e = .returned (.int .i64 (cmI (Fq.plz n m) 0))∧Kp w w':=by
 have z0:cmI (Fq.plz n m) 0 = cmI (Fq.plz n m) (Fq.plz false 0):=rfl
 by_cases c1:m = 9218868437227405312
 ·have e1:infS n m = if n then -1 else 1:=by unfold infS;rw [if_pos c1]
  rw [e1]
  have P1:Fq.plz n m = if n then -(m:Int) else m:=by unfold Fq.plz;cases n <;> rfl
  cases n
  ·rw [cmI_gt _ _ (by rw [P1];simp;omega)];exact signI_ 1 s p l c q k d (by decide) w
  ·rw [cmI_lt _ _ (by rw [P1];simp;omega)];exact signI_ (-1) s p l c q k d (by decide) w
 ·have e1:infS n m = 0:=by unfold infS;rw [if_neg c1]
  have f1:fN n m = n∧fM m = m:=by unfold fN fM;rw [if_neg c1,if_neg c1];exact ⟨rfl,rfl⟩
  rw [f1.1,f1.2] at h
  have iz:Iv false 0 = 0:=by unfold Iv;rw [if_neg (by decide),Fq.vV_zero];rfl
  rw [e1,z0,← cmI_iv,iz]
  exact signZ_ _ s p l c q k d w (fun W g=>rsignP_ n m s p l c q k d B1 W (h.kp g))
set_option linter.unusedVariables false
theorem spreadA_ (a b c d NL NH Z1 Z2 Z3:Nat) (fv:Value) (w:World) (h1:∀ W:World,Kp w W→Calls Tryz.prog 38 #[.agg #[.float .f64 a,.float .f64 b],.agg #[.float .f64 c,.float .f64 d],fv] W fun e w'=>e = .returned (.float .f64 Z1)∧Kp W w') (hN:∀ w:World,Calls Tryz.prog 29 #[.agg #[.float .f64 a,.float .f64 b]] w fun e w'=>e = .returned (.agg #[.float .f64 NL,.float .f64 NH])∧Kp w w') (h2:∀ W:World,Kp w W→Calls Tryz.prog 38 #[.agg #[.float .f64 NL,.float .f64 NH],.agg #[.float .f64 c,.float .f64 d],fv] W fun e w'=>e = .returned (.float .f64 Z2)∧Kp W w') (hm:∀ w:World,Calls Tryz.prog 28 #[.float .f64 Z2] w fun e w'=>e = .returned (.float .f64 Z3)∧w' = w):Calls Tryz.prog 20 #[.agg #[.float .f64 a,.float .f64 b],.agg #[.float .f64 c,.float .f64 d],fv] w fun e w'=>e = .returned (.agg #[.float .f64 Z1,.float .f64 Z3])∧Kp w w':=by
 go_enter Tryz.func20,Tryz.ntmps20
 go_wp2
 generalize hW:(((w.alloc (.cells #[.float .f64 a,.float .f64 b] 28)).alloc (.cells #[.float .f64 c,.float .f64 d] 28)).alloc (.cells #[.float .f64 0,.float .f64 0] 28)) = W
 have kw:Kp w W:=by rw [← hW];exact (((Kp.refl w).alloc _).alloc _).alloc _
 have xw0:W.cell? ⟨w.heap.size,0,none⟩ = some (.float .f64 a):=by rw [← hW];simp [go_sem]
 have dw0:W.drew.cell? ⟨w.heap.size,0,none⟩ = some (.float .f64 a):=xw0
 have xw1:W.cell? ⟨w.heap.size,1,none⟩ = some (.float .f64 b):=by rw [← hW];simp [go_sem]
 have dw1:W.drew.cell? ⟨w.heap.size,1,none⟩ = some (.float .f64 b):=xw1
 have xw2:W.cell? ⟨w.heap.size + 1,0,none⟩ = some (.float .f64 c):=by rw [← hW];simp [go_sem]
 have dw2:W.drew.cell? ⟨w.heap.size + 1,0,none⟩ = some (.float .f64 c):=xw2
 have xw3:W.cell? ⟨w.heap.size + 1,1,none⟩ = some (.float .f64 d):=by rw [← hW];simp [go_sem]
 have dw3:W.drew.cell? ⟨w.heap.size + 1,1,none⟩ = some (.float .f64 d):=xw3
 have r0:W.cell? ⟨w.heap.size + 2,0,none⟩ = some (.float .f64 0):=by rw [← hW];simp [go_sem]
 have rz0:W.frozen? ⟨w.heap.size + 2,0,none⟩ = false:=by rw [← hW];simp [go_sem]
 have r1:W.cell? ⟨w.heap.size + 2,1,none⟩ = some (.float .f64 0):=by rw [← hW];simp [go_sem]
 have rz1:W.frozen? ⟨w.heap.size + 2,1,none⟩ = false:=by rw [← hW];simp [go_sem]
 have hn1:w.heap.size + 2≠w.heap.size:=by omega
 have hn2:w.heap.size + 2≠w.heap.size + 1:=by omega
 clear hW
 go_region_held3 (fun w'=>w'.cell? ⟨w.heap.size,0,none⟩ = some (.float .f64 a)∧w'.cell? ⟨w.heap.size,1,none⟩ = some (.float .f64 b)∧w'.cell? ⟨w.heap.size + 1,0,none⟩ = some (.float .f64 c)∧w'.cell? ⟨w.heap.size + 1,1,none⟩ = some (.float .f64 d)) (first | (with_reducible exact ⟨xw0,xw1,xw2,xw3⟩) | (with_reducible exact ⟨dw0,dw1,dw2,dw3⟩) | (with_reducible exact ⟨aw0,aw1,aw2,aw3⟩) | (with_reducible exact ⟨nw0,nw1,nw2,nw3⟩) | (with_reducible exact ⟨bw0,bw1,bw2,bw3⟩) | (exact ⟨((CF _ _ _ _ hn1).trans ((CF _ _ _ _ hn1).trans bw0)),((CF _ _ _ _ hn1).trans ((CF _ _ _ _ hn1).trans bw1)),((CF _ _ _ _ hn2).trans ((CF _ _ _ _ hn2).trans bw2)),((CF _ _ _ _ hn2).trans ((CF _ _ _ _ hn2).trans bw3))⟩)) (first | (go_at_call_of 38 (Value.agg #[.float .f64 a,.float .f64 b]);refine (h1 _ ?q0).mono ?_;(case q0=>first | exact kw.trans (Kp.drew (Kp.refl _)) | exact kw);rintro e wl ⟨rfl,gl⟩;have kl:Kp W wl:=(by first | exact Kp.trans (Kp.drew (Kp.refl _)) gl | exact gl);have aw0:=kkeep kl xw0;have aw1:=kkeep kl xw1;have aw2:=kkeep kl xw2;have aw3:=kkeep kl xw3) | (go_at_call 29;refine (hN _).mono ?_;rintro e wn ⟨rfl,gn⟩;have kn:Kp W wn:=Kp.trans kl gn;have nw0:=kkeep kn xw0;have nw1:=kkeep kn xw1;have nw2:=kkeep kn xw2;have nw3:=kkeep kn xw3) | (go_at_call_of 38 (Value.agg #[.float .f64 NL,.float .f64 NH]);refine (h2 _ ?q0).mono ?_;(case q0=>exact kw.trans kn);rintro e wh ⟨rfl,gh⟩;have kh:Kp W wh:=Kp.trans kn gh;have bw0:=kkeep kh xw0;have bw1:=kkeep kh xw1;have bw2:=kkeep kh xw2;have bw3:=kkeep kh xw3;have R0:=kkeep kh r0;have Rz0:wh.frozen? ⟨w.heap.size + 2,0,none⟩ = false:=(kfro kh (cell_lt r0)).trans rz0;have R1:=kkeep kh r1;have Rz1:wh.frozen? ⟨w.heap.size + 2,1,none⟩ = false:=(kfro kh (cell_lt r1)).trans rz1) | (go_at_call 28;refine (hm _).mono ?_;rintro e wm ⟨rfl,gm⟩;obtain rfl:=gm.symm))
 go_wp2
 exact bodyPost_ret (v:=.agg #[.float .f64 Z1,.float .f64 Z3]) (by simp [results,Tryz.results20,go_sem,R0,R1]) rfl ⟨rfl,(((Kp.trans kw kh)).setCell (by simp <;> omega) _).setCell (by simp <;> omega) _⟩
set_option linter.unusedVariables false
theorem from_ (X:Nat) (w:World):Calls Tryz.prog 35 #[.float .f64 X] w fun e w'=>e = .returned (.agg #[.float .f64 X,.float .f64 9218868437227405312])∧Kp w w':=by
 go_enter Tryz.func35,Tryz.ntmps35
 go_wp2_with (first | (go_at_call 32;refine (Fq.inf1_ _).mono ?_;rintro e w1 ⟨rfl,rfl⟩))
 exact bodyPost_ret (v:=.agg #[.float .f64 X,.float .f64 9218868437227405312]) (by simp [results,Tryz.results35,go_sem]) rfl ⟨rfl,(by repeat (with_reducible (first | assumption | exact Kp.refl _ | apply Kp.drew | apply Kp.alloc | apply Kp.drewN | (refine Kp.setCell ?_ (by first | omega | (simp <;> omega)) _) | (refine Kp.trans ?_ (by assumption)))))⟩
theorem upTo_ (X:Nat) (w:World):Calls Tryz.prog 37 #[.float .f64 X] w fun e w'=>e = .returned (.agg #[.float .f64 18442240474082181120,.float .f64 X])∧Kp w w':=by
 go_enter Tryz.func37,Tryz.ntmps37
 go_wp2_with (first | (go_at_call 32;refine (Fq.infm_ _).mono ?_;rintro e w1 ⟨rfl,rfl⟩))
 exact bodyPost_ret (v:=.agg #[.float .f64 18442240474082181120,.float .f64 X]) (by simp [results,Tryz.results37,go_sem]) rfl ⟨rfl,(by repeat (with_reducible (first | assumption | exact Kp.refl _ | apply Kp.drew | apply Kp.alloc | apply Kp.drewN | (refine Kp.setCell ?_ (by first | omega | (simp <;> omega)) _) | (refine Kp.trans ?_ (by assumption)))))⟩
theorem holdsN_ (a b:Nat) (B1 B2:Bool) (t1:(FloatKind.f64.format.order a 0 == some Ordering.lt || FloatKind.f64.format.order a 0 == some Ordering.eq) = B1) (t2:(FloatKind.f64.format.order b 0 == some Ordering.gt || FloatKind.f64.format.order b 0 == some Ordering.eq) = B2) (w:World):Calls Tryz.prog 18 #[.agg #[.float .f64 a,.float .f64 b]] w fun e w'=>e = .returned (.bool (B1 && B2))∧Kp w w':=by
 cases B1 <;> cases B2
 all_goals (
  go_enter Tryz.func18,Tryz.ntmps18
  go_wp2
  exact bodyPost_ret (v:=.bool _) (by simp [results,Tryz.results18,go_sem]) rfl ⟨rfl,(by repeat (with_reducible (first | assumption | exact Kp.refl _ | apply Kp.drew | apply Kp.alloc | apply Kp.drewN | (refine Kp.setCell ?_ (by first | omega | (simp <;> omega)) _) | (refine Kp.trans ?_ (by assumption)))))⟩)
set_option linter.unusedVariables false
theorem byN1_ (a b c d:Nat) (C0 D0:Bool) (tC0:(FloatKind.f64.format.order c 0 == some Ordering.eq) = C0) (tD0:(FloatKind.f64.format.order d 0 == some Ordering.eq) = D0) (q0:(C0 && D0) = true) (w:World) (hE:∀ w:World,Calls Tryz.prog 17 #[] w fun e w'=>e = .returned (.agg #[.float .f64 9218868437227405312,.float .f64 18442240474082181120])∧Kp w w'):Calls Tryz.prog 19 #[.agg #[.float .f64 a,.float .f64 b],.agg #[.float .f64 c,.float .f64 d]] w fun e w'=>e = .returned (.agg #[.float .f64 9218868437227405312,.float .f64 18442240474082181120])∧Kp w w':=by
 go_enter Tryz.func19,Tryz.ntmps19
 go_upto_region 1 with fail
 have kw:Kp w (((w.alloc (.cells #[.float .f64 a,.float .f64 b] 28)).alloc (.cells #[.float .f64 c,.float .f64 d] 28)).alloc (.cells #[.float .f64 0,.float .f64 0] 28)):=(((Kp.refl w).alloc _).alloc _).alloc _
 have sw:H6 (((w.alloc (.cells #[.float .f64 a,.float .f64 b] 28)).alloc (.cells #[.float .f64 c,.float .f64 d] 28)).alloc (.cells #[.float .f64 0,.float .f64 0] 28)) w.heap.size (.float .f64 a) (.float .f64 b) (.float .f64 c) (.float .f64 d) (.float .f64 0) (.float .f64 0):=H6.new w (.float .f64 a) (.float .f64 b) (.float .f64 c) (.float .f64 d) (.float .f64 0) (.float .f64 0) 28 28 28
 generalize (((w.alloc (.cells #[.float .f64 a,.float .f64 b] 28)).alloc (.cells #[.float .f64 c,.float .f64 d] 28)).alloc (.cells #[.float .f64 0,.float .f64 0] 28)) = w1 at kw sw ⊢
 obtain ⟨⟨p0,p1,p2,p3⟩,⟨p4,p5,p6,p7⟩,⟨p8,p9,pa,pb⟩⟩:=id sw
 go_upto_region 1 with fail
 go_cut [5] (fun s5 wx=>s5 = .bool true∧wx = w1)
 case first =>
  cases C0 <;> cases D0 <;> first | (exfalso;revert q0;decide) | skip
  all_goals (
   go_wp2_with fail
   go_meet
   exact ⟨rfl,rfl⟩)
 case rest =>
 obtain ⟨rfl,hwc⟩:=hcut
 replace kw:Kp w wc:=(by rw [hwc];exact kw)
 replace sw:=(show H6 wc w.heap.size (.float .f64 a) (.float .f64 b) (.float .f64 c) (.float .f64 d) (.float .f64 0) (.float .f64 0) by rw [hwc];exact sw)
 clear hwc
 generalize wc = w1 at kw sw ⊢
 obtain ⟨⟨p0,p1,p2,p3⟩,⟨p4,p5,p6,p7⟩,⟨p8,p9,pa,pb⟩⟩:=id sw
 go_wp2_with (first | (go_at_call 17;refine (hE _).mono ?_;rintro e wx ⟨rfl,gx⟩;replace kw:=Kp.trans kw gx;replace sw:=H6.keep sw gx;clear gx;obtain ⟨⟨p0,p1,p2,p3⟩,⟨p4,p5,p6,p7⟩,⟨p8,p9,pa,pb⟩⟩:=id sw))
 exact bodyPost_ret (v:=.agg #[.float .f64 9218868437227405312,.float .f64 18442240474082181120]) (by simp [results,Tryz.results19,go_sem,p8,p9]) rfl ⟨rfl,(kw.setCell (by simp <;> omega) _).setCell (by simp <;> omega) _⟩
theorem byN2_ (a b c d:Nat) (C0 D0 A0 B0:Bool) (tC0:(FloatKind.f64.format.order c 0 == some Ordering.eq) = C0) (tD0:(FloatKind.f64.format.order d 0 == some Ordering.eq) = D0) (tA0:(FloatKind.f64.format.order a 0 == some Ordering.eq) = A0) (tB0:(FloatKind.f64.format.order b 0 == some Ordering.eq) = B0) (q0:(C0 && D0) = false) (q1:(A0 && B0) = true) (w:World)  : Calls Tryz.prog 19 #[.agg #[.float .f64 a,.float .f64 b],.agg #[.float .f64 c,.float .f64 d]] w fun e w'=>e = .returned (.agg #[.float .f64 a,.float .f64 b])∧Kp w w':=by
 go_enter Tryz.func19,Tryz.ntmps19
 go_upto_region 1 with fail
 have kw:Kp w (((w.alloc (.cells #[.float .f64 a,.float .f64 b] 28)).alloc (.cells #[.float .f64 c,.float .f64 d] 28)).alloc (.cells #[.float .f64 0,.float .f64 0] 28)):=(((Kp.refl w).alloc _).alloc _).alloc _
 have sw:H6 (((w.alloc (.cells #[.float .f64 a,.float .f64 b] 28)).alloc (.cells #[.float .f64 c,.float .f64 d] 28)).alloc (.cells #[.float .f64 0,.float .f64 0] 28)) w.heap.size (.float .f64 a) (.float .f64 b) (.float .f64 c) (.float .f64 d) (.float .f64 0) (.float .f64 0):=H6.new w (.float .f64 a) (.float .f64 b) (.float .f64 c) (.float .f64 d) (.float .f64 0) (.float .f64 0) 28 28 28
 generalize (((w.alloc (.cells #[.float .f64 a,.float .f64 b] 28)).alloc (.cells #[.float .f64 c,.float .f64 d] 28)).alloc (.cells #[.float .f64 0,.float .f64 0] 28)) = w1 at kw sw ⊢
 obtain ⟨⟨p0,p1,p2,p3⟩,⟨p4,p5,p6,p7⟩,⟨p8,p9,pa,pb⟩⟩:=id sw
 go_upto_region 1 with fail
 go_cut [5] (fun s5 wx=>s5 = .bool false∧wx = w1)
 case first =>
  cases C0 <;> cases D0 <;> first | (exfalso;revert q0;decide) | skip
  all_goals (
   go_wp2_with fail
   go_meet
   exact ⟨rfl,rfl⟩)
 case rest =>
 obtain ⟨rfl,hwc⟩:=hcut
 replace kw:Kp w wc:=(by rw [hwc];exact kw)
 replace sw:=(show H6 wc w.heap.size (.float .f64 a) (.float .f64 b) (.float .f64 c) (.float .f64 d) (.float .f64 0) (.float .f64 0) by rw [hwc];exact sw)
 clear hwc
 generalize wc = w1 at kw sw ⊢
 obtain ⟨⟨p0,p1,p2,p3⟩,⟨p4,p5,p6,p7⟩,⟨p8,p9,pa,pb⟩⟩:=id sw
 go_upto_region 3 with fail
 go_cut [15] (fun s15 wx=>s15 = .bool true∧wx = w1)
 case first =>
  cases A0 <;> cases B0 <;> first | (exfalso;revert q1;decide) | skip
  all_goals (
   go_wp2_with fail
   go_meet
   exact ⟨rfl,rfl⟩)
 case rest =>
 obtain ⟨rfl,hwc⟩:=hcut
 replace kw:Kp w wc:=(by rw [hwc];exact kw)
 replace sw:=(show H6 wc w.heap.size (.float .f64 a) (.float .f64 b) (.float .f64 c) (.float .f64 d) (.float .f64 0) (.float .f64 0) by rw [hwc];exact sw)
 clear hwc
 generalize wc = w1 at kw sw ⊢
 obtain ⟨⟨p0,p1,p2,p3⟩,⟨p4,p5,p6,p7⟩,⟨p8,p9,pa,pb⟩⟩:=id sw
 go_wp2_with (fail)
 exact bodyPost_ret (v:=.agg #[.float .f64 a,.float .f64 b]) (by simp [results,Tryz.results19,go_sem,p8,p9]) rfl ⟨rfl,(kw.setCell (by simp <;> omega) _).setCell (by simp <;> omega) _⟩
theorem byN3_ (a b c d:Nat) (C0 D0 A0 B0 Cl Dg:Bool) (tC0:(FloatKind.f64.format.order c 0 == some Ordering.eq) = C0) (tD0:(FloatKind.f64.format.order d 0 == some Ordering.eq) = D0) (tA0:(FloatKind.f64.format.order a 0 == some Ordering.eq) = A0) (tB0:(FloatKind.f64.format.order b 0 == some Ordering.eq) = B0) (tCl:(FloatKind.f64.format.order c 0 == some Ordering.lt) = Cl) (tDg:(FloatKind.f64.format.order d 0 == some Ordering.gt) = Dg) (q0:(C0 && D0) = false) (q1:(A0 && B0) = false) (q2:(Cl && Dg) = true) (w:World) (hE:∀ w:World,Calls Tryz.prog 34 #[] w fun e w'=>e = .returned (.agg #[.float .f64 18442240474082181120,.float .f64 9218868437227405312])∧Kp w w'):Calls Tryz.prog 19 #[.agg #[.float .f64 a,.float .f64 b],.agg #[.float .f64 c,.float .f64 d]] w fun e w'=>e = .returned (.agg #[.float .f64 18442240474082181120,.float .f64 9218868437227405312])∧Kp w w':=by
 go_enter Tryz.func19,Tryz.ntmps19
 go_upto_region 1 with fail
 have kw:Kp w (((w.alloc (.cells #[.float .f64 a,.float .f64 b] 28)).alloc (.cells #[.float .f64 c,.float .f64 d] 28)).alloc (.cells #[.float .f64 0,.float .f64 0] 28)):=(((Kp.refl w).alloc _).alloc _).alloc _
 have sw:H6 (((w.alloc (.cells #[.float .f64 a,.float .f64 b] 28)).alloc (.cells #[.float .f64 c,.float .f64 d] 28)).alloc (.cells #[.float .f64 0,.float .f64 0] 28)) w.heap.size (.float .f64 a) (.float .f64 b) (.float .f64 c) (.float .f64 d) (.float .f64 0) (.float .f64 0):=H6.new w (.float .f64 a) (.float .f64 b) (.float .f64 c) (.float .f64 d) (.float .f64 0) (.float .f64 0) 28 28 28
 generalize (((w.alloc (.cells #[.float .f64 a,.float .f64 b] 28)).alloc (.cells #[.float .f64 c,.float .f64 d] 28)).alloc (.cells #[.float .f64 0,.float .f64 0] 28)) = w1 at kw sw ⊢
 obtain ⟨⟨p0,p1,p2,p3⟩,⟨p4,p5,p6,p7⟩,⟨p8,p9,pa,pb⟩⟩:=id sw
 go_upto_region 1 with fail
 go_cut [5] (fun s5 wx=>s5 = .bool false∧wx = w1)
 case first =>
  cases C0 <;> cases D0 <;> first | (exfalso;revert q0;decide) | skip
  all_goals (
   go_wp2_with fail
   go_meet
   exact ⟨rfl,rfl⟩)
 case rest =>
 obtain ⟨rfl,hwc⟩:=hcut
 replace kw:Kp w wc:=(by rw [hwc];exact kw)
 replace sw:=(show H6 wc w.heap.size (.float .f64 a) (.float .f64 b) (.float .f64 c) (.float .f64 d) (.float .f64 0) (.float .f64 0) by rw [hwc];exact sw)
 clear hwc
 generalize wc = w1 at kw sw ⊢
 obtain ⟨⟨p0,p1,p2,p3⟩,⟨p4,p5,p6,p7⟩,⟨p8,p9,pa,pb⟩⟩:=id sw
 go_upto_region 3 with fail
 go_cut [15] (fun s15 wx=>s15 = .bool false∧wx = w1)
 case first =>
  cases A0 <;> cases B0 <;> first | (exfalso;revert q1;decide) | skip
  all_goals (
   go_wp2_with fail
   go_meet
   exact ⟨rfl,rfl⟩)
 case rest =>
 obtain ⟨rfl,hwc⟩:=hcut
 replace kw:Kp w wc:=(by rw [hwc];exact kw)
 replace sw:=(show H6 wc w.heap.size (.float .f64 a) (.float .f64 b) (.float .f64 c) (.float .f64 d) (.float .f64 0) (.float .f64 0) by rw [hwc];exact sw)
 clear hwc
 generalize wc = w1 at kw sw ⊢
 obtain ⟨⟨p0,p1,p2,p3⟩,⟨p4,p5,p6,p7⟩,⟨p8,p9,pa,pb⟩⟩:=id sw
 go_upto_region 5 with fail
 go_cut [25] (fun s25 wx=>s25 = .bool true∧wx = w1)
 case first =>
  cases Cl <;> cases Dg <;> first | (exfalso;revert q2;decide) | skip
  all_goals (
   go_wp2_with fail
   go_meet
   exact ⟨rfl,rfl⟩)
 case rest =>
 obtain ⟨rfl,hwc⟩:=hcut
 replace kw:Kp w wc:=(by rw [hwc];exact kw)
 replace sw:=(show H6 wc w.heap.size (.float .f64 a) (.float .f64 b) (.float .f64 c) (.float .f64 d) (.float .f64 0) (.float .f64 0) by rw [hwc];exact sw)
 clear hwc
 generalize wc = w1 at kw sw ⊢
 obtain ⟨⟨p0,p1,p2,p3⟩,⟨p4,p5,p6,p7⟩,⟨p8,p9,pa,pb⟩⟩:=id sw
 go_wp2_with (first | (go_at_call 34;refine (hE _).mono ?_;rintro e wx ⟨rfl,gx⟩;replace kw:=Kp.trans kw gx;replace sw:=H6.keep sw gx;clear gx;obtain ⟨⟨p0,p1,p2,p3⟩,⟨p4,p5,p6,p7⟩,⟨p8,p9,pa,pb⟩⟩:=id sw))
 exact bodyPost_ret (v:=.agg #[.float .f64 18442240474082181120,.float .f64 9218868437227405312]) (by simp [results,Tryz.results19,go_sem,p8,p9]) rfl ⟨rfl,(kw.setCell (by simp <;> omega) _).setCell (by simp <;> omega) _⟩
theorem byN4_ (a b c d:Nat) (C0 D0 A0 B0 Cl Dg Al Bg:Bool) (tC0:(FloatKind.f64.format.order c 0 == some Ordering.eq) = C0) (tD0:(FloatKind.f64.format.order d 0 == some Ordering.eq) = D0) (tA0:(FloatKind.f64.format.order a 0 == some Ordering.eq) = A0) (tB0:(FloatKind.f64.format.order b 0 == some Ordering.eq) = B0) (tCl:(FloatKind.f64.format.order c 0 == some Ordering.lt) = Cl) (tDg:(FloatKind.f64.format.order d 0 == some Ordering.gt) = Dg) (tAl:(FloatKind.f64.format.order a 0 == some Ordering.lt) = Al) (tBg:(FloatKind.f64.format.order b 0 == some Ordering.gt) = Bg) (q0:(C0 && D0) = false) (q1:(A0 && B0) = false) (q2:(Cl && Dg) = false) (q3:(Al && Bg) = true) (w:World) (hE:∀ w:World,Calls Tryz.prog 34 #[] w fun e w'=>e = .returned (.agg #[.float .f64 18442240474082181120,.float .f64 9218868437227405312])∧Kp w w'):Calls Tryz.prog 19 #[.agg #[.float .f64 a,.float .f64 b],.agg #[.float .f64 c,.float .f64 d]] w fun e w'=>e = .returned (.agg #[.float .f64 18442240474082181120,.float .f64 9218868437227405312])∧Kp w w':=by
 go_enter Tryz.func19,Tryz.ntmps19
 go_upto_region 1 with fail
 have kw:Kp w (((w.alloc (.cells #[.float .f64 a,.float .f64 b] 28)).alloc (.cells #[.float .f64 c,.float .f64 d] 28)).alloc (.cells #[.float .f64 0,.float .f64 0] 28)):=(((Kp.refl w).alloc _).alloc _).alloc _
 have sw:H6 (((w.alloc (.cells #[.float .f64 a,.float .f64 b] 28)).alloc (.cells #[.float .f64 c,.float .f64 d] 28)).alloc (.cells #[.float .f64 0,.float .f64 0] 28)) w.heap.size (.float .f64 a) (.float .f64 b) (.float .f64 c) (.float .f64 d) (.float .f64 0) (.float .f64 0):=H6.new w (.float .f64 a) (.float .f64 b) (.float .f64 c) (.float .f64 d) (.float .f64 0) (.float .f64 0) 28 28 28
 generalize (((w.alloc (.cells #[.float .f64 a,.float .f64 b] 28)).alloc (.cells #[.float .f64 c,.float .f64 d] 28)).alloc (.cells #[.float .f64 0,.float .f64 0] 28)) = w1 at kw sw ⊢
 obtain ⟨⟨p0,p1,p2,p3⟩,⟨p4,p5,p6,p7⟩,⟨p8,p9,pa,pb⟩⟩:=id sw
 go_upto_region 1 with fail
 go_cut [5] (fun s5 wx=>s5 = .bool false∧wx = w1)
 case first =>
  cases C0 <;> cases D0 <;> first | (exfalso;revert q0;decide) | skip
  all_goals (
   go_wp2_with fail
   go_meet
   exact ⟨rfl,rfl⟩)
 case rest =>
 obtain ⟨rfl,hwc⟩:=hcut
 replace kw:Kp w wc:=(by rw [hwc];exact kw)
 replace sw:=(show H6 wc w.heap.size (.float .f64 a) (.float .f64 b) (.float .f64 c) (.float .f64 d) (.float .f64 0) (.float .f64 0) by rw [hwc];exact sw)
 clear hwc
 generalize wc = w1 at kw sw ⊢
 obtain ⟨⟨p0,p1,p2,p3⟩,⟨p4,p5,p6,p7⟩,⟨p8,p9,pa,pb⟩⟩:=id sw
 go_upto_region 3 with fail
 go_cut [15] (fun s15 wx=>s15 = .bool false∧wx = w1)
 case first =>
  cases A0 <;> cases B0 <;> first | (exfalso;revert q1;decide) | skip
  all_goals (
   go_wp2_with fail
   go_meet
   exact ⟨rfl,rfl⟩)
 case rest =>
 obtain ⟨rfl,hwc⟩:=hcut
 replace kw:Kp w wc:=(by rw [hwc];exact kw)
 replace sw:=(show H6 wc w.heap.size (.float .f64 a) (.float .f64 b) (.float .f64 c) (.float .f64 d) (.float .f64 0) (.float .f64 0) by rw [hwc];exact sw)
 clear hwc
 generalize wc = w1 at kw sw ⊢
 obtain ⟨⟨p0,p1,p2,p3⟩,⟨p4,p5,p6,p7⟩,⟨p8,p9,pa,pb⟩⟩:=id sw
 go_upto_region 5 with fail
 go_cut [25] (fun s25 wx=>s25 = .bool false∧wx = w1)
 case first =>
  cases Cl <;> cases Dg <;> first | (exfalso;revert q2;decide) | skip
  all_goals (
   go_wp2_with fail
   go_meet
   exact ⟨rfl,rfl⟩)
 case rest =>
 obtain ⟨rfl,hwc⟩:=hcut
 replace kw:Kp w wc:=(by rw [hwc];exact kw)
 replace sw:=(show H6 wc w.heap.size (.float .f64 a) (.float .f64 b) (.float .f64 c) (.float .f64 d) (.float .f64 0) (.float .f64 0) by rw [hwc];exact sw)
 clear hwc
 generalize wc = w1 at kw sw ⊢
 obtain ⟨⟨p0,p1,p2,p3⟩,⟨p4,p5,p6,p7⟩,⟨p8,p9,pa,pb⟩⟩:=id sw
 go_upto_region 6 with fail
 go_cut [25] (fun s25 wx=>s25 = .bool true∧wx = w1)
 case first =>
  cases Al <;> cases Bg <;> first | (exfalso;revert q3;decide) | skip
  all_goals (
   go_wp2_with fail
   go_meet
   exact ⟨rfl,rfl⟩)
 case rest =>
 obtain ⟨rfl,hwc⟩:=hcut
 replace kw:Kp w wc:=(by rw [hwc];exact kw)
 replace sw:=(show H6 wc w.heap.size (.float .f64 a) (.float .f64 b) (.float .f64 c) (.float .f64 d) (.float .f64 0) (.float .f64 0) by rw [hwc];exact sw)
 clear hwc
 generalize wc = w1 at kw sw ⊢
 obtain ⟨⟨p0,p1,p2,p3⟩,⟨p4,p5,p6,p7⟩,⟨p8,p9,pa,pb⟩⟩:=id sw
 go_wp2_with (first | (go_at_call 34;refine (hE _).mono ?_;rintro e wx ⟨rfl,gx⟩;replace kw:=Kp.trans kw gx;replace sw:=H6.keep sw gx;clear gx;obtain ⟨⟨p0,p1,p2,p3⟩,⟨p4,p5,p6,p7⟩,⟨p8,p9,pa,pb⟩⟩:=id sw))
 exact bodyPost_ret (v:=.agg #[.float .f64 18442240474082181120,.float .f64 9218868437227405312]) (by simp [results,Tryz.results19,go_sem,p8,p9]) rfl ⟨rfl,(kw.setCell (by simp <;> omega) _).setCell (by simp <;> omega) _⟩
theorem byN5_ (a b c d Z:Nat) (C0 D0 A0 B0 Cl Dg Al Bg Ag:Bool) (tC0:(FloatKind.f64.format.order c 0 == some Ordering.eq) = C0) (tD0:(FloatKind.f64.format.order d 0 == some Ordering.eq) = D0) (tA0:(FloatKind.f64.format.order a 0 == some Ordering.eq) = A0) (tB0:(FloatKind.f64.format.order b 0 == some Ordering.eq) = B0) (tCl:(FloatKind.f64.format.order c 0 == some Ordering.lt) = Cl) (tDg:(FloatKind.f64.format.order d 0 == some Ordering.gt) = Dg) (tAl:(FloatKind.f64.format.order a 0 == some Ordering.lt) = Al) (tBg:(FloatKind.f64.format.order b 0 == some Ordering.gt) = Bg) (tAg:(FloatKind.f64.format.order a 0 == some Ordering.gt || FloatKind.f64.format.order a 0 == some Ordering.eq) = Ag) (q0:(C0 && D0) = false) (q1:(A0 && B0) = false) (q2:(Cl && Dg) = false) (q3:(Al && Bg) = false) (q4:(C0 && Ag) = true) (w:World) (hd:∀ W:World,Kp w W→Calls Tryz.prog 36 #[.int .i64 (-1),.float .f64 a,.float .f64 d] W fun e w'=>e = .returned (.float .f64 Z)∧Kp W w'):Calls Tryz.prog 19 #[.agg #[.float .f64 a,.float .f64 b],.agg #[.float .f64 c,.float .f64 d]] w fun e w'=>e = .returned (.agg #[.float .f64 Z,.float .f64 9218868437227405312])∧Kp w w':=by
 rw [tA0] at tAg
 go_enter Tryz.func19,Tryz.ntmps19
 go_upto_region 1 with fail
 have kw:Kp w (((w.alloc (.cells #[.float .f64 a,.float .f64 b] 28)).alloc (.cells #[.float .f64 c,.float .f64 d] 28)).alloc (.cells #[.float .f64 0,.float .f64 0] 28)):=(((Kp.refl w).alloc _).alloc _).alloc _
 have sw:H6 (((w.alloc (.cells #[.float .f64 a,.float .f64 b] 28)).alloc (.cells #[.float .f64 c,.float .f64 d] 28)).alloc (.cells #[.float .f64 0,.float .f64 0] 28)) w.heap.size (.float .f64 a) (.float .f64 b) (.float .f64 c) (.float .f64 d) (.float .f64 0) (.float .f64 0):=H6.new w (.float .f64 a) (.float .f64 b) (.float .f64 c) (.float .f64 d) (.float .f64 0) (.float .f64 0) 28 28 28
 generalize (((w.alloc (.cells #[.float .f64 a,.float .f64 b] 28)).alloc (.cells #[.float .f64 c,.float .f64 d] 28)).alloc (.cells #[.float .f64 0,.float .f64 0] 28)) = w1 at kw sw ⊢
 obtain ⟨⟨p0,p1,p2,p3⟩,⟨p4,p5,p6,p7⟩,⟨p8,p9,pa,pb⟩⟩:=id sw
 go_upto_region 1 with fail
 go_cut [5] (fun s5 wx=>s5 = .bool false∧wx = w1)
 case first =>
  cases C0 <;> cases D0 <;> first | (exfalso;revert q0;decide) | skip
  all_goals (
   go_wp2_with fail
   go_meet
   exact ⟨rfl,rfl⟩)
 case rest =>
 obtain ⟨rfl,hwc⟩:=hcut
 replace kw:Kp w wc:=(by rw [hwc];exact kw)
 replace sw:=(show H6 wc w.heap.size (.float .f64 a) (.float .f64 b) (.float .f64 c) (.float .f64 d) (.float .f64 0) (.float .f64 0) by rw [hwc];exact sw)
 clear hwc
 generalize wc = w1 at kw sw ⊢
 obtain ⟨⟨p0,p1,p2,p3⟩,⟨p4,p5,p6,p7⟩,⟨p8,p9,pa,pb⟩⟩:=id sw
 go_upto_region 3 with fail
 go_cut [15] (fun s15 wx=>s15 = .bool false∧wx = w1)
 case first =>
  cases A0 <;> cases B0 <;> first | (exfalso;revert q1;decide) | skip
  all_goals (
   go_wp2_with fail
   go_meet
   exact ⟨rfl,rfl⟩)
 case rest =>
 obtain ⟨rfl,hwc⟩:=hcut
 replace kw:Kp w wc:=(by rw [hwc];exact kw)
 replace sw:=(show H6 wc w.heap.size (.float .f64 a) (.float .f64 b) (.float .f64 c) (.float .f64 d) (.float .f64 0) (.float .f64 0) by rw [hwc];exact sw)
 clear hwc
 generalize wc = w1 at kw sw ⊢
 obtain ⟨⟨p0,p1,p2,p3⟩,⟨p4,p5,p6,p7⟩,⟨p8,p9,pa,pb⟩⟩:=id sw
 go_upto_region 5 with fail
 go_cut [25] (fun s25 wx=>s25 = .bool false∧wx = w1)
 case first =>
  cases Cl <;> cases Dg <;> first | (exfalso;revert q2;decide) | skip
  all_goals (
   go_wp2_with fail
   go_meet
   exact ⟨rfl,rfl⟩)
 case rest =>
 obtain ⟨rfl,hwc⟩:=hcut
 replace kw:Kp w wc:=(by rw [hwc];exact kw)
 replace sw:=(show H6 wc w.heap.size (.float .f64 a) (.float .f64 b) (.float .f64 c) (.float .f64 d) (.float .f64 0) (.float .f64 0) by rw [hwc];exact sw)
 clear hwc
 generalize wc = w1 at kw sw ⊢
 obtain ⟨⟨p0,p1,p2,p3⟩,⟨p4,p5,p6,p7⟩,⟨p8,p9,pa,pb⟩⟩:=id sw
 go_upto_region 6 with fail
 go_cut [25] (fun s25 wx=>s25 = .bool false∧wx = w1)
 case first =>
  cases Al <;> cases Bg <;> first | (exfalso;revert q3;decide) | skip
  all_goals (
   go_wp2_with fail
   go_meet
   exact ⟨rfl,rfl⟩)
 case rest =>
 obtain ⟨rfl,hwc⟩:=hcut
 replace kw:Kp w wc:=(by rw [hwc];exact kw)
 replace sw:=(show H6 wc w.heap.size (.float .f64 a) (.float .f64 b) (.float .f64 c) (.float .f64 d) (.float .f64 0) (.float .f64 0) by rw [hwc];exact sw)
 clear hwc
 generalize wc = w1 at kw sw ⊢
 obtain ⟨⟨p0,p1,p2,p3⟩,⟨p4,p5,p6,p7⟩,⟨p8,p9,pa,pb⟩⟩:=id sw
 go_upto_region 8 with fail
 go_cut [43] (fun s43 wx=>s43 = .bool true∧wx = w1)
 case first =>
  cases C0 <;> cases Ag <;> first | (exfalso;revert q4;decide) | skip
  all_goals (
   go_wp2_with fail
   go_meet
   exact ⟨rfl,rfl⟩)
 case rest =>
 obtain ⟨rfl,hwc⟩:=hcut
 replace kw:Kp w wc:=(by rw [hwc];exact kw)
 replace sw:=(show H6 wc w.heap.size (.float .f64 a) (.float .f64 b) (.float .f64 c) (.float .f64 d) (.float .f64 0) (.float .f64 0) by rw [hwc];exact sw)
 clear hwc
 generalize wc = w1 at kw sw ⊢
 obtain ⟨⟨p0,p1,p2,p3⟩,⟨p4,p5,p6,p7⟩,⟨p8,p9,pa,pb⟩⟩:=id sw
 go_wp2_with (first | (go_at_call 36;refine (hd _ kw).mono ?_;rintro e wx ⟨rfl,gx⟩;replace kw:=Kp.trans kw gx;replace sw:=H6.keep sw gx;clear gx;obtain ⟨⟨p0,p1,p2,p3⟩,⟨p4,p5,p6,p7⟩,⟨p8,p9,pa,pb⟩⟩:=id sw) | (go_at_call 35;refine (from_ _ _).mono ?_;rintro e wx ⟨rfl,gx⟩;replace kw:=Kp.trans kw gx;replace sw:=H6.keep sw gx;clear gx;obtain ⟨⟨p0,p1,p2,p3⟩,⟨p4,p5,p6,p7⟩,⟨p8,p9,pa,pb⟩⟩:=id sw))
 exact bodyPost_ret (v:=.agg #[.float .f64 Z,.float .f64 9218868437227405312]) (by simp [results,Tryz.results19,go_sem,p8,p9]) rfl ⟨rfl,(kw.setCell (by simp <;> omega) _).setCell (by simp <;> omega) _⟩
end Go.Proofs.YtngglmnhjjlgkaaGreatDoor
