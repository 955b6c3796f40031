import Derived.Test.YtaidnpjgkkdloaaGreatDoorKTXm
set_option maxHeartbeats 4000000
set_option maxRecDepth 20000
namespace Go.Proofs.YtaidnpjgkkdloaaGreatDoor
open Go.RowKit
theorem rsubA_ (P:World→World→Value→Prop) (Q:World→World→Value→Prop) s p l c q k d s2 p2 l2 c2 q2 k2 d2 (w:World) (hN:∀ W:World,Kp w W→Calls Tryz.prog 36 #[.agg #[.bool s2,.slice p2 l2 c2,.slice q2 k2 d2]] W fun e w'=>∃ s5 p5 l5 c5 q5 k5 d5,e = .returned (.agg #[.bool s5,.slice p5 l5 c5,.slice q5 k5 d5])∧P w w' (.agg #[.bool s5,.slice p5 l5 c5,.slice q5 k5 d5])∧Kp W w') (hA:∀ (W:World) s5 p5 l5 c5 q5 k5 d5,Kp w W→P w W (.agg #[.bool s5,.slice p5 l5 c5,.slice q5 k5 d5])→Calls Tryz.prog 10 #[.agg #[.bool s,.slice p l c,.slice q k d],.agg #[.bool s5,.slice p5 l5 c5,.slice q5 k5 d5]] W fun e w'=>∃ s3 p3 l3 c3 q3 k3 d3,e = .returned (.agg #[.bool s3,.slice p3 l3 c3,.slice q3 k3 d3])∧Q W w' (.agg #[.bool s3,.slice p3 l3 c3,.slice q3 k3 d3])∧Kp W w'):Calls Tryz.prog 12 #[.agg #[.bool s,.slice p l c,.slice q k d],.agg #[.bool s2,.slice p2 l2 c2,.slice q2 k2 d2]] w fun e w'=>∃ (W wh:World) (s3:Bool) (p3:Option Addr) (l3 c3:Nat) (q3:Option Addr) (k3 d3:Nat),e = .returned (.agg #[.bool s3,.slice p3 l3 c3,.slice q3 k3 d3])∧Q W wh (.agg #[.bool s3,.slice p3 l3 c3,.slice q3 k3 d3])∧w' = (((wh).setCell ⟨w.heap.size + 2,0,none⟩ (.bool s3)).setCell ⟨w.heap.size + 2,1,none⟩ (.slice p3 l3 c3)).setCell ⟨w.heap.size + 2,2,none⟩ (.slice q3 k3 d3)∧w.heap.size + 2 < W.heap.size∧Kp w wh:=by
  go_enter Tryz.func12,Tryz.ntmps12
  go_wp2
  generalize hW:(((w.alloc (.cells #[.bool s,.slice p l c,.slice q k d] 27)).alloc (.cells #[.bool s2,.slice p2 l2 c2,.slice q2 k2 d2] 27)).alloc (.cells #[.bool false,.slice none 0 0,.slice none 0 0] 27)) = W
  have kw:Kp w W:=by rw [← hW];exact (((Kp.refl w).alloc _).alloc _).alloc _
  have xw0:W.cell? ⟨w.heap.size,0,none⟩ = some (.bool s):=by rw [← hW];simp [go_sem]
  have dw0:W.drew.cell? ⟨w.heap.size,0,none⟩ = some (.bool s):=xw0
  have xw1:W.cell? ⟨w.heap.size,1,none⟩ = some (.slice p l c):=by rw [← hW];simp [go_sem]
  have dw1:W.drew.cell? ⟨w.heap.size,1,none⟩ = some (.slice p l c):=xw1
  have xw2:W.cell? ⟨w.heap.size,2,none⟩ = some (.slice q k d):=by rw [← hW];simp [go_sem]
  have dw2:W.drew.cell? ⟨w.heap.size,2,none⟩ = some (.slice q k d):=xw2
  have xw3:W.cell? ⟨w.heap.size + 1,0,none⟩ = some (.bool s2):=by rw [← hW];simp [go_sem]
  have dw3:W.drew.cell? ⟨w.heap.size + 1,0,none⟩ = some (.bool s2):=xw3
  have xw4:W.cell? ⟨w.heap.size + 1,1,none⟩ = some (.slice p2 l2 c2):=by rw [← hW];simp [go_sem]
  have dw4:W.drew.cell? ⟨w.heap.size + 1,1,none⟩ = some (.slice p2 l2 c2):=xw4
  have xw5:W.cell? ⟨w.heap.size + 1,2,none⟩ = some (.slice q2 k2 d2):=by rw [← hW];simp [go_sem]
  have dw5:W.drew.cell? ⟨w.heap.size + 1,2,none⟩ = some (.slice q2 k2 d2):=xw5
  have r0:W.cell? ⟨w.heap.size + 2,0,none⟩ = some (.bool false):=by rw [← hW];simp [go_sem]
  have rz0:W.frozen? ⟨w.heap.size + 2,0,none⟩ = false:=by rw [← hW];simp [go_sem]
  have r1:W.cell? ⟨w.heap.size + 2,1,none⟩ = some (.slice none 0 0):=by rw [← hW];simp [go_sem]
  have rz1:W.frozen? ⟨w.heap.size + 2,1,none⟩ = false:=by rw [← hW];simp [go_sem]
  have r2:W.cell? ⟨w.heap.size + 2,2,none⟩ = some (.slice none 0 0):=by rw [← hW];simp [go_sem]
  have rz2:W.frozen? ⟨w.heap.size + 2,2,none⟩ = false:=by rw [← hW];simp [go_sem]
  have hBW:w.heap.size + 2 < W.heap.size:=cell_lt r0
  have hn1:w.heap.size + 2≠w.heap.size:=by omega
  have hn2:w.heap.size + 2≠w.heap.size + 1:=by omega
  clear hW
  go_region_held3 (fun w'=>w'.cell? ⟨w.heap.size,0,none⟩ = some (.bool s)∧w'.cell? ⟨w.heap.size,1,none⟩ = some (.slice p l c)∧w'.cell? ⟨w.heap.size,2,none⟩ = some (.slice q k d)∧w'.cell? ⟨w.heap.size + 1,0,none⟩ = some (.bool s2)∧w'.cell? ⟨w.heap.size + 1,1,none⟩ = some (.slice p2 l2 c2)∧w'.cell? ⟨w.heap.size + 1,2,none⟩ = some (.slice q2 k2 d2)) (first | (with_reducible exact ⟨xw0,xw1,xw2,xw3,xw4,xw5⟩) | (with_reducible exact ⟨dw0,dw1,dw2,dw3,dw4,dw5⟩) | (with_reducible exact ⟨aw0,aw1,aw2,aw3,aw4,aw5⟩) | (with_reducible exact ⟨bw0,bw1,bw2,bw3,bw4,bw5⟩) | (exact ⟨((World.cell?_setCell_far _ _ _ _ hn1).trans ((World.cell?_setCell_far _ _ _ _ hn1).trans ((World.cell?_setCell_far _ _ _ _ hn1).trans bw0))),((World.cell?_setCell_far _ _ _ _ hn1).trans ((World.cell?_setCell_far _ _ _ _ hn1).trans ((World.cell?_setCell_far _ _ _ _ hn1).trans bw1))),((World.cell?_setCell_far _ _ _ _ hn1).trans ((World.cell?_setCell_far _ _ _ _ hn1).trans ((World.cell?_setCell_far _ _ _ _ hn1).trans bw2))),((World.cell?_setCell_far _ _ _ _ hn2).trans ((World.cell?_setCell_far _ _ _ _ hn2).trans ((World.cell?_setCell_far _ _ _ _ hn2).trans bw3))),((World.cell?_setCell_far _ _ _ _ hn2).trans ((World.cell?_setCell_far _ _ _ _ hn2).trans ((World.cell?_setCell_far _ _ _ _ hn2).trans bw4))),((World.cell?_setCell_far _ _ _ _ hn2).trans ((World.cell?_setCell_far _ _ _ _ hn2).trans ((World.cell?_setCell_far _ _ _ _ hn2).trans bw5)))⟩)) (first | (go_at_call 36;refine (hN _ ?q0).mono ?_;(case q0=>exact kw.drew);rintro e wl ⟨s5,p5,l5,c5,q5,k5,d5,rfl,hp5,gl⟩;have kl:Kp W wl:=Kp.trans (Kp.drew (Kp.refl _)) gl;have aw0:=kkeep kl xw0;have aw1:=kkeep kl xw1;have aw2:=kkeep kl xw2;have aw3:=kkeep kl xw3;have aw4:=kkeep kl xw4;have aw5:=kkeep kl xw5) | (go_at_call 10;refine (hA _ s5 p5 l5 c5 q5 k5 d5 (kw.trans kl) hp5).mono ?_;rintro e wh ⟨s3,p3,l3,c3,q3,k3,d3,rfl,hp3,gh⟩;have kh:Kp W wh:=Kp.trans kl gh;have bw0:=kkeep kh xw0;have bw1:=kkeep kh xw1;have bw2:=kkeep kh xw2;have bw3:=kkeep kh xw3;have bw4:=kkeep kh xw4;have bw5:=kkeep kh xw5;have R0:=kkeep kh r0;have Rz0:wh.frozen? ⟨w.heap.size + 2,0,none⟩ = false:=(kfro kh (cell_lt r0)).trans rz0;have R1:=kkeep kh r1;have Rz1:wh.frozen? ⟨w.heap.size + 2,1,none⟩ = false:=(kfro kh (cell_lt r1)).trans rz1;have R2:=kkeep kh r2;have Rz2:wh.frozen? ⟨w.heap.size + 2,2,none⟩ = false:=(kfro kh (cell_lt r2)).trans rz2))
  go_wp2
  exact bodyPost_ret (v:=.agg #[.bool s3,.slice p3 l3 c3,.slice q3 k3 d3]) (by simp [results,Tryz.results12,go_sem,R0,R1,R2]) rfl ⟨wl,wh,s3,p3,l3,c3,q3,k3,d3,rfl,hp3,rfl,Nat.lt_of_lt_of_le hBW (Below.size kl),Kp.trans kw kh⟩

theorem xsub_ (V V':Int) (C C' N N':Nat) (hN:N + N'≤100000) s p l c q k d s2 p2 l2 c2 q2 k2 d2 (B1 B2:Nat) (w:World) (h1:XP B1 w s p l c q k d V C N) (h2:XP B2 w s2 p2 l2 c2 q2 k2 d2 V' C' N'):Calls Tryz.prog 12 #[.agg #[.bool s,.slice p l c,.slice q k d],.agg #[.bool s2,.slice p2 l2 c2,.slice q2 k2 d2]] w fun e w'=>∃ s3 p3 l3 c3 q3 k3 d3,e = .returned (.agg #[.bool s3,.slice p3 l3 c3,.slice q3 k3 d3])∧XP w.heap.size w' s3 p3 l3 c3 q3 k3 d3 (V * (C':Int) - V' * (C:Int)) (C * C') (2 * (N + N') + 3)∧Kp w w':=by
  refine (rsubA_ (fun _ w' v=>∃ s5 p5 l5 c5 q5 k5 d5,v = .agg #[.bool s5,.slice p5 l5 c5,.slice q5 k5 d5]∧XP 0 w' s5 p5 l5 c5 q5 k5 d5 (-V') C' N') (fun W w' v=>∃ s3 p3 l3 c3 q3 k3 d3,v = .agg #[.bool s3,.slice p3 l3 c3,.slice q3 k3 d3]∧XP W.heap.size w' s3 p3 l3 c3 q3 k3 d3 (V * (C':Int) - V' * (C:Int)) (C * C') (2 * (N + N') + 3)) s p l c q k d s2 p2 l2 c2 q2 k2 d2 w (fun W g=>?_) (fun W s5 p5 l5 c5 q5 k5 d5 g hp=>?_)).mono ?_
  · refine (xneg_ V' C' N' (by omega) s2 p2 l2 c2 q2 k2 d2 B2 W (h2.kp g)).mono ?_
    rintro e w' ⟨s5,p5,l5,c5,q5,k5,d5,rfl,hp,g2⟩
    exact ⟨s5,p5,l5,c5,q5,k5,d5,rfl,⟨s5,p5,l5,c5,q5,k5,d5,rfl,hp.mono (Nat.zero_le _)⟩,g2⟩
  · obtain ⟨s6,p6,l6,c6,q6,k6,d6,e6,hp6⟩:=hp
    simp at e6
    obtain ⟨rfl,⟨rfl,rfl,rfl⟩,rfl,rfl,rfl⟩:=e6
    refine (xadd_ V (-V') C C' N N' hN s p l c q k d s5 p5 l5 c5 q5 k5 d5 B1 0 W (h1.kp g) hp6).mono ?_
    rintro e w' ⟨s3,p3,l3,c3,q3,k3,d3,rfl,hq,g2⟩
    refine ⟨s3,p3,l3,c3,q3,k3,d3,rfl,⟨s3,p3,l3,c3,q3,k3,d3,rfl, ?_⟩,g2⟩
    rw [show V * (C':Int) - V' * (C:Int) = V * (C':Int) + -V' * (C:Int) from by rw [Int.neg_mul];omega]
    exact hq
  · rintro e w' ⟨W,wh,s3,p3,l3,c3,q3,k3,d3,rfl,⟨s4,p4,l4,c4,q4,k4,d4,e4,hq⟩,rfl,hlt,g⟩
    simp at e4
    obtain ⟨rfl,⟨rfl,rfl,rfl⟩,rfl,rfl,rfl⟩:=e4
    refine ⟨s3,p3,l3,c3,q3,k3,d3,rfl,XP.mono ((((hq).set (x:=⟨w.heap.size + 2,0,none⟩) hlt (.bool s3)).set (x:=⟨w.heap.size + 2,1,none⟩) hlt (.slice p3 l3 c3)).set (x:=⟨w.heap.size + 2,2,none⟩) hlt (.slice q3 k3 d3)) (by omega),(((g).setCell (by simp <;> omega) _).setCell (by simp <;> omega) _).setCell (by simp <;> omega) _⟩

def pI (x:Int):Int:=((pw x:Nat):Int)
set_option linter.unusedVariables false

def bLo (K:Nat) (L1 H1 L2 H2:Int):Int:=if L2 = 0∧H2 = 0 then 9218868437227405312 else if L1 = 0∧H1 = 0 then 0 else if L2 < 0∧0 < H2 then -9218868437227405312 else if L1 < 0∧0 < H1 then -9218868437227405312 else if L2 = 0∧0≤L1 then diZ K (-1) L1 H2 else if L2 = 0 then -9218868437227405312 else if 0≤L1 then -9218868437227405312 else diZ K (-1) H1 L2
def bHi (K:Nat) (L1 H1 L2 H2:Int):Int:=if L2 = 0∧H2 = 0 then -9218868437227405312 else if L1 = 0∧H1 = 0 then 0 else if L2 < 0∧0 < H2 then 9218868437227405312 else if L1 < 0∧0 < H1 then 9218868437227405312 else if L2 = 0∧0≤L1 then 9218868437227405312 else if L2 = 0 then diZ K 1 H1 H2 else if 0≤L1 then diZ K 1 L1 L2 else 9218868437227405312
def dLo (K:Nat) (L1 H1 L2 H2:Int):Int:=if L1 = 9218868437227405312∨L2 = 9218868437227405312 then 9218868437227405312 else if L2≤0∧0≤H2 then bLo K L1 H1 L2 H2 else lst (diZ K (-1)) L1 H1 H2 L2
def dHi (K:Nat) (L1 H1 L2 H2:Int):Int:=if L1 = 9218868437227405312∨L2 = 9218868437227405312 then -9218868437227405312 else if L2≤0∧0≤H2 then bHi K L1 H1 L2 H2 else -(lst (diZ K (-1)) (-H1) (-L1) H2 L2)
theorem and2 (p q:Prop) [Decidable p] [Decidable q] (h:p∧q):(decide p && decide q) = true:=by simp [h]
theorem nand2 (p q:Prop) [Decidable p] [Decidable q] (h:¬ (p∧q)):(decide p && decide q) = false:=by
  by_cases a:p <;> by_cases b:q <;> simp [a,b]
  exact h ⟨a,b⟩
theorem pw_of (x:Nat) (h:x≤9218868437227405312):pw (x:Int) = x:=by
  unfold pw
  rw [show decide ((x:Int) < 0) = false from decide_eq_false (by omega),show ((x:Int)).natAbs = x from by omega];rfl
theorem Rd.num (x y:Nat) (hx:x < 9218868437227405312) (hy:y≤9218868437227405312) (h:x≤y):Rd x y x y:=by
  have g:VdZ (x:Int) (y:Int):=Or.inr (by omega)
  have r:=Rd.of g
  rw [pw_of x (by omega),pw_of y hy] at r
  exact r
set_option linter.unusedVariables false
theorem leastSumA_ (a b c d E Z:Nat) (w:World) (hl:∀ W:World,Kp w W→W.cell? ⟨w.heap.size + 2,0,none⟩ = some (.float .f64 E)→Calls Tryz.prog 68 #[.agg #[.float .f64 a,.float .f64 b],.agg #[.float .f64 c,.float .f64 d],.func (.func 78) #[] #[.pointer (some ⟨w.heap.size + 2,0,none⟩)]] W fun e w'=>e = .returned (.float .f64 Z)∧Kp W w'):Calls Tryz.prog 45 #[.agg #[.float .f64 a,.float .f64 b],.agg #[.float .f64 c,.float .f64 d],.float .f64 E] w fun e w'=>e = .returned (.float .f64 Z)∧Kp w w':=by
  have hmf:∀ (fn:Fn) (first cap:Array Value) (w:World),(Instr.makeFunc fn first cap).run Tryz.prog w = .ok (.func fn first cap) w:=fun _ _ _ _=>rfl
  go_enter Tryz.func45,Tryz.ntmps45
  go_wp2_with (first | (go_at_call 68;refine (hl _ ((((Kp.refl w).alloc _).alloc _).alloc _) (by simp [go_sem])).mono ?_;rintro e w1 ⟨rfl,g1⟩))
  exact bodyPost_ret (v:=.float .f64 Z) (by simp [results,Tryz.results45,go_sem]) rfl ⟨rfl,(Kp.trans ((((Kp.refl w).alloc _).alloc _).alloc _) g1)⟩
set_option linter.unusedVariables false

def H8 (w:World) (B:Nat) (a b c d e f g h:Value):Prop:=H6 w B a b c d e f∧Fq.H2 w (B + 3) g h
theorem H8.keep {W w:World} {B:Nat} {a b c d e f g h:Value} (x:H8 W B a b c d e f g h) (y:Kp W w):H8 w B a b c d e f g h:=⟨H6.keep x.1 y,Fq.H2.keep x.2 y⟩
theorem H8.new (w:World) (a b c d e f g h:Value) (s t u v:TypeId):H8 ((((w.alloc (.cells #[a,b] s)).alloc (.cells #[c,d] t)).alloc (.cells #[e,f] u)).alloc (.cells #[g,h] v)) w.heap.size a b c d e f g h:=by
  refine ⟨⟨?_, ?_, ?_⟩, ?_⟩ <;> (unfold Fq.H2;simp [go_sem])
theorem H8.put {w:World} {B:Nat} {a b c d e f g h:Value} (x:H8 w B a b c d e f g h) (a' b' c' d' e' f':Value):H8 ((((((w.setCell ⟨B,0,none⟩ a').setCell ⟨B,1,none⟩ b').setCell ⟨B + 1,0,none⟩ c').setCell ⟨B + 1,1,none⟩ d').setCell ⟨B + 2,0,none⟩ e').setCell ⟨B + 2,1,none⟩ f') B a' b' c' d' e' f' g h:=by
  refine ⟨⟨?_, ?_, ?_⟩, ?_⟩
  · exact Fq.H2.far (Fq.H2.far (Fq.H2.put x.1.1 a' b') (by omega) c' d') (by omega) e' f'
  · exact Fq.H2.far (Fq.H2.put (Fq.H2.far x.1.2.1 (by omega) a' b') c' d') (by omega) e' f'
  · exact Fq.H2.put (Fq.H2.far (Fq.H2.far x.1.2.2 (by omega) a' b') (by omega) c' d') e' f'
  · exact Fq.H2.far (Fq.H2.far (Fq.H2.far x.2 (by omega) a' b') (by omega) c' d') (by omega) e' f'
theorem fma6_ (a b c d e5 f5 L1 H1 L2 H2 L3 H3:Nat) (hx:∀ w:World,Calls Tryz.prog 26 #[.agg #[.float .f64 a,.float .f64 b]] w fun e w'=>e = .returned (.agg #[.float .f64 L1,.float .f64 H1])∧Kp w w') (hy:∀ w:World,Calls Tryz.prog 26 #[.agg #[.float .f64 c,.float .f64 d]] w fun e w'=>e = .returned (.agg #[.float .f64 L2,.float .f64 H2])∧Kp w w') (hz:∀ w:World,Calls Tryz.prog 26 #[.agg #[.float .f64 e5,.float .f64 f5]] w fun e w'=>e = .returned (.agg #[.float .f64 L3,.float .f64 H3])∧Kp w w') (V1 V2 V3:Bool) (hv1:∀ w:World,Calls Tryz.prog 27 #[.agg #[.float .f64 L1,.float .f64 H1]] w fun e w'=>e = .returned (.bool V1)∧Kp w w') (hv2:∀ w:World,Calls Tryz.prog 27 #[.agg #[.float .f64 L2,.float .f64 H2]] w fun e w'=>e = .returned (.bool V2)∧Kp w w') (hv3:∀ w:World,Calls Tryz.prog 27 #[.agg #[.float .f64 L3,.float .f64 H3]] w fun e w'=>e = .returned (.bool V3)∧Kp w w') (hE:∀ w:World,Calls Tryz.prog 28 #[] w fun e w'=>e = .returned (.agg #[.float .f64 9218868437227405312,.float .f64 18442240474082181120])∧Kp w w') (NL NH MH Z1 Z2 Z3:Nat) (w:World) (hq:(V1 || V2 || V3) = false→(∀ W:World,Kp w W→Calls Tryz.prog 45 #[.agg #[.float .f64 L1,.float .f64 H1],.agg #[.float .f64 L2,.float .f64 H2],.float .f64 L3] W fun e w'=>e = .returned (.float .f64 Z1)∧Kp W w')∧(∀ w:World,Calls Tryz.prog 35 #[.agg #[.float .f64 L1,.float .f64 H1]] w fun e w'=>e = .returned (.agg #[.float .f64 NL,.float .f64 NH])∧Kp w w')∧(∀ w:World,Calls Tryz.prog 46 #[.float .f64 H3] w fun e w'=>e = .returned (.float .f64 MH)∧w' = w)∧(∀ W:World,Kp w W→Calls Tryz.prog 45 #[.agg #[.float .f64 NL,.float .f64 NH],.agg #[.float .f64 L2,.float .f64 H2],.float .f64 MH] W fun e w'=>e = .returned (.float .f64 Z2)∧Kp W w')∧(∀ w:World,Calls Tryz.prog 46 #[.float .f64 Z2] w fun e w'=>e = .returned (.float .f64 Z3)∧w' = w)):Calls Tryz.prog 19 #[.agg #[.float .f64 a,.float .f64 b],.agg #[.float .f64 c,.float .f64 d],.agg #[.float .f64 e5,.float .f64 f5]] w fun e w'=>e = .returned (if V1 || V2 || V3 then .agg #[.float .f64 9218868437227405312,.float .f64 18442240474082181120] else .agg #[.float .f64 Z1,.float .f64 Z3])∧Kp w w':=by
  go_enter Tryz.func19,Tryz.ntmps19
  go_upto_region 1 with fail
  go_cut [] (fun wx=>H8 wx w.heap.size (.float .f64 L1) (.float .f64 H1) (.float .f64 L2) (.float .f64 H2) (.float .f64 L3) (.float .f64 H3) (.float .f64 0) (.float .f64 0)∧Kp w wx)
  case first =>
    go_region_with (first | (go_at_call_of 26 (Value.agg #[.float .f64 a,.float .f64 b]);refine (hx _).mono ?_;rintro e wx ⟨rfl,gx⟩;have kx:Kp w wx:=Kp.trans (((((Kp.refl w).alloc _).alloc _).alloc _).alloc _).drew gx;have sx:=H8.keep (H8.new w (.float .f64 a) (.float .f64 b) (.float .f64 c) (.float .f64 d) (.float .f64 e5) (.float .f64 f5) (.float .f64 0) (.float .f64 0) 32 32 32 32) (Kp.trans (Kp.drew (Kp.refl _)) gx);obtain ⟨⟨⟨p0,p1,p2,p3⟩,⟨p4,p5,p6,p7⟩,⟨p8,p9,pa,pb⟩⟩,⟨pc,pd,pe,pf⟩⟩:=id sx) | (go_at_call_of 26 (Value.agg #[.float .f64 c,.float .f64 d]);refine (hy _).mono ?_;rintro e wy ⟨rfl,gy⟩;have ky:=Kp.trans kx gy;have sy:=H8.keep sx gy;obtain ⟨⟨⟨p0,p1,p2,p3⟩,⟨p4,p5,p6,p7⟩,⟨p8,p9,pa,pb⟩⟩,⟨pc,pd,pe,pf⟩⟩:=id sy) | (go_at_call_of 26 (Value.agg #[.float .f64 e5,.float .f64 f5]);refine (hz _).mono ?_;rintro e wz ⟨rfl,gz⟩;have kz:=Kp.trans ky gz;have sz:=H8.keep sy gz;obtain ⟨⟨⟨p0,p1,p2,p3⟩,⟨p4,p5,p6,p7⟩,⟨p8,p9,pa,pb⟩⟩,⟨pc,pd,pe,pf⟩⟩:=id sz))
    all_goals (
      go_wp2_with fail
      go_meet
      exact ⟨H8.put sz (.float .f64 L1) (.float .f64 H1) (.float .f64 L2) (.float .f64 H2) (.float .f64 L3) (.float .f64 H3),((((((kz.setCell (Nat.le_refl _) _).setCell (Nat.le_refl _) _).setCell (by simp <;> omega) _).setCell (by simp <;> omega) _).setCell (by simp <;> omega) _).setCell (by simp <;> omega) _)⟩)
  case rest =>
  obtain ⟨sw,kw⟩:=hcut
  obtain ⟨⟨⟨p0,p1,p2,p3⟩,⟨p4,p5,p6,p7⟩,⟨p8,p9,pa,pb⟩⟩,⟨pc,pd,pe,pf⟩⟩:=id sw
  cases V1
  · cases V2
    · cases V3
      · obtain ⟨h1,hN,hm1,h2,hm2⟩:=hq rfl
        go_upto_region 4 with (first | (go_at_call_of 27 (Value.agg #[.float .f64 L1,.float .f64 H1]);refine (hv1 _).mono ?_;rintro e wv ⟨rfl,gv⟩;replace kw:=Kp.trans kw gv;replace sw:=H8.keep sw gv;clear gv;obtain ⟨⟨⟨p0,p1,p2,p3⟩,⟨p4,p5,p6,p7⟩,⟨p8,p9,pa,pb⟩⟩,⟨pc,pd,pe,pf⟩⟩:=id sw) | (go_at_call_of 27 (Value.agg #[.float .f64 L2,.float .f64 H2]);refine (hv2 _).mono ?_;rintro e wv ⟨rfl,gv⟩;replace kw:=Kp.trans kw gv;replace sw:=H8.keep sw gv;clear gv;obtain ⟨⟨⟨p0,p1,p2,p3⟩,⟨p4,p5,p6,p7⟩,⟨p8,p9,pa,pb⟩⟩,⟨pc,pd,pe,pf⟩⟩:=id sw) | (go_at_call_of 27 (Value.agg #[.float .f64 L3,.float .f64 H3]);refine (hv3 _).mono ?_;rintro e wv ⟨rfl,gv⟩;replace kw:=Kp.trans kw gv;replace sw:=H8.keep sw gv;clear gv;obtain ⟨⟨⟨p0,p1,p2,p3⟩,⟨p4,p5,p6,p7⟩,⟨p8,p9,pa,pb⟩⟩,⟨pc,pd,pe,pf⟩⟩:=id sw))
        clear p0 p1 p2 p3 p4 p5 p6 p7 p8 p9 pa pb pc pd pe pf
        generalize wv = W at kw sw ⊢
        have xw0:=sw.1.1.1
        have dw0:W.drew.cell? ⟨w.heap.size,0,none⟩ = some (.float .f64 L1):=xw0
        have xw1:=sw.1.1.2.1
        have dw1:W.drew.cell? ⟨w.heap.size,1,none⟩ = some (.float .f64 H1):=xw1
        have xw2:=sw.1.2.1.1
        have dw2:W.drew.cell? ⟨w.heap.size + 1,0,none⟩ = some (.float .f64 L2):=xw2
        have xw3:=sw.1.2.1.2.1
        have dw3:W.drew.cell? ⟨w.heap.size + 1,1,none⟩ = some (.float .f64 H2):=xw3
        have xw4:=sw.1.2.2.1
        have dw4:W.drew.cell? ⟨w.heap.size + 2,0,none⟩ = some (.float .f64 L3):=xw4
        have xw5:=sw.1.2.2.2.1
        have dw5:W.drew.cell? ⟨w.heap.size + 2,1,none⟩ = some (.float .f64 H3):=xw5
        have r0:=sw.2.1
        have r1:=sw.2.2.1
        have rz0:=sw.2.2.2.1
        have rz1:=sw.2.2.2.2
        have hn1:w.heap.size + 3≠w.heap.size:=by omega
        have hn2:w.heap.size + 3≠w.heap.size + 1:=by omega
        have hn3:w.heap.size + 3≠w.heap.size + 2:=by omega
        go_region_held3 (fun w'=>w'.cell? ⟨w.heap.size,0,none⟩ = some (.float .f64 L1)∧w'.cell? ⟨w.heap.size,1,none⟩ = some (.float .f64 H1)∧w'.cell? ⟨w.heap.size + 1,0,none⟩ = some (.float .f64 L2)∧w'.cell? ⟨w.heap.size + 1,1,none⟩ = some (.float .f64 H2)∧w'.cell? ⟨w.heap.size + 2,0,none⟩ = some (.float .f64 L3)∧w'.cell? ⟨w.heap.size + 2,1,none⟩ = some (.float .f64 H3)) (first | (with_reducible exact ⟨xw0,xw1,xw2,xw3,xw4,xw5⟩) | (with_reducible exact ⟨dw0,dw1,dw2,dw3,dw4,dw5⟩) | (with_reducible exact ⟨aw0,aw1,aw2,aw3,aw4,aw5⟩) | (with_reducible exact ⟨nw0,nw1,nw2,nw3,nw4,nw5⟩) | (with_reducible exact ⟨hw0,hw1,hw2,hw3,hw4,hw5⟩) | (exact ⟨((World.cell?_setCell_far _ _ _ _ hn1).trans ((World.cell?_setCell_far _ _ _ _ hn1).trans hw0)),((World.cell?_setCell_far _ _ _ _ hn1).trans ((World.cell?_setCell_far _ _ _ _ hn1).trans hw1)),((World.cell?_setCell_far _ _ _ _ hn2).trans ((World.cell?_setCell_far _ _ _ _ hn2).trans hw2)),((World.cell?_setCell_far _ _ _ _ hn2).trans ((World.cell?_setCell_far _ _ _ _ hn2).trans hw3)),((World.cell?_setCell_far _ _ _ _ hn3).trans ((World.cell?_setCell_far _ _ _ _ hn3).trans hw4)),((World.cell?_setCell_far _ _ _ _ hn3).trans ((World.cell?_setCell_far _ _ _ _ hn3).trans hw5))⟩)) (first | (go_at_call_of 45 (Value.agg #[.float .f64 L1,.float .f64 H1]);refine (h1 _ ?q0).mono ?_;(case q0=>first | exact kw.trans (Kp.drew (Kp.refl _)) | exact kw);rintro e wl ⟨rfl,gl⟩;have kl:Kp W wl:=(by first | exact Kp.trans (Kp.drew (Kp.refl _)) gl | exact gl);have aw0:=kkeep kl xw0;have aw1:=kkeep kl xw1;have aw2:=kkeep kl xw2;have aw3:=kkeep kl xw3;have aw4:=kkeep kl xw4;have aw5:=kkeep kl xw5) | (go_at_call 35;refine (hN _).mono ?_;rintro e wn ⟨rfl,gn⟩;have kn:Kp W wn:=Kp.trans kl gn;have nw0:=kkeep kn xw0;have nw1:=kkeep kn xw1;have nw2:=kkeep kn xw2;have nw3:=kkeep kn xw3;have nw4:=kkeep kn xw4;have nw5:=kkeep kn xw5) | (go_at_call_of 46 (Value.float .f64 H3);refine (hm1 _).mono ?_;rintro e wm ⟨rfl,gm⟩;obtain rfl:=gm.symm;clear gm) | (go_at_call_of 45 (Value.agg #[.float .f64 NL,.float .f64 NH]);refine (h2 _ ?q0).mono ?_;(case q0=>exact kw.trans kn);rintro e wh ⟨rfl,gh⟩;have kh:Kp W wh:=Kp.trans kn gh;have hw0:=kkeep kh xw0;have hw1:=kkeep kh xw1;have hw2:=kkeep kh xw2;have hw3:=kkeep kh xw3;have hw4:=kkeep kh xw4;have hw5:=kkeep kh xw5;have R0:=kkeep kh r0;have Rz0:wh.frozen? ⟨w.heap.size + 3,0,none⟩ = false:=(kfro kh (cell_lt r0)).trans rz0;have R1:=kkeep kh r1;have Rz1:wh.frozen? ⟨w.heap.size + 3,1,none⟩ = false:=(kfro kh (cell_lt r1)).trans rz1) | (go_at_call_of 46 (Value.float .f64 Z2);refine (hm2 _).mono ?_;rintro e wm ⟨rfl,gm⟩;obtain rfl:=gm.symm;clear gm))
        go_wp2
        exact bodyPost_ret (v:=.agg #[.float .f64 Z1,.float .f64 Z3]) (by simp [results,Tryz.results19,go_sem,R0,R1]) rfl ⟨rfl,(((Kp.trans kw kh)).setCell (by simp <;> omega) _).setCell (by simp <;> omega) _⟩
      · go_wp2_with (first | (go_at_call_of 27 (Value.agg #[.float .f64 L1,.float .f64 H1]);refine (hv1 _).mono ?_;rintro e wv ⟨rfl,gv⟩;replace kw:=Kp.trans kw gv;replace sw:=H8.keep sw gv;clear gv;obtain ⟨⟨⟨p0,p1,p2,p3⟩,⟨p4,p5,p6,p7⟩,⟨p8,p9,pa,pb⟩⟩,⟨pc,pd,pe,pf⟩⟩:=id sw) | (go_at_call_of 27 (Value.agg #[.float .f64 L2,.float .f64 H2]);refine (hv2 _).mono ?_;rintro e wv ⟨rfl,gv⟩;replace kw:=Kp.trans kw gv;replace sw:=H8.keep sw gv;clear gv;obtain ⟨⟨⟨p0,p1,p2,p3⟩,⟨p4,p5,p6,p7⟩,⟨p8,p9,pa,pb⟩⟩,⟨pc,pd,pe,pf⟩⟩:=id sw) | (go_at_call_of 27 (Value.agg #[.float .f64 L3,.float .f64 H3]);refine (hv3 _).mono ?_;rintro e wv ⟨rfl,gv⟩;replace kw:=Kp.trans kw gv;replace sw:=H8.keep sw gv;clear gv;obtain ⟨⟨⟨p0,p1,p2,p3⟩,⟨p4,p5,p6,p7⟩,⟨p8,p9,pa,pb⟩⟩,⟨pc,pd,pe,pf⟩⟩:=id sw) | (go_at_call 28;refine (hE _).mono ?_;rintro e we ⟨rfl,ge⟩;replace kw:=Kp.trans kw ge;replace sw:=H8.keep sw ge;clear ge;obtain ⟨⟨⟨p0,p1,p2,p3⟩,⟨p4,p5,p6,p7⟩,⟨p8,p9,pa,pb⟩⟩,⟨pc,pd,pe,pf⟩⟩:=id sw))
        exact bodyPost_ret (v:=.agg #[.float .f64 9218868437227405312,.float .f64 18442240474082181120]) (by simp [results,Tryz.results19,go_sem,pc,pd]) rfl ⟨rfl,(kw.setCell (by simp <;> omega) _).setCell (by simp <;> omega) _⟩
    · go_wp2_with (first | (go_at_call_of 27 (Value.agg #[.float .f64 L1,.float .f64 H1]);refine (hv1 _).mono ?_;rintro e wv ⟨rfl,gv⟩;replace kw:=Kp.trans kw gv;replace sw:=H8.keep sw gv;clear gv;obtain ⟨⟨⟨p0,p1,p2,p3⟩,⟨p4,p5,p6,p7⟩,⟨p8,p9,pa,pb⟩⟩,⟨pc,pd,pe,pf⟩⟩:=id sw) | (go_at_call_of 27 (Value.agg #[.float .f64 L2,.float .f64 H2]);refine (hv2 _).mono ?_;rintro e wv ⟨rfl,gv⟩;replace kw:=Kp.trans kw gv;replace sw:=H8.keep sw gv;clear gv;obtain ⟨⟨⟨p0,p1,p2,p3⟩,⟨p4,p5,p6,p7⟩,⟨p8,p9,pa,pb⟩⟩,⟨pc,pd,pe,pf⟩⟩:=id sw) | (go_at_call 28;refine (hE _).mono ?_;rintro e we ⟨rfl,ge⟩;replace kw:=Kp.trans kw ge;replace sw:=H8.keep sw ge;clear ge;obtain ⟨⟨⟨p0,p1,p2,p3⟩,⟨p4,p5,p6,p7⟩,⟨p8,p9,pa,pb⟩⟩,⟨pc,pd,pe,pf⟩⟩:=id sw))
      exact bodyPost_ret (v:=.agg #[.float .f64 9218868437227405312,.float .f64 18442240474082181120]) (by simp [results,Tryz.results19,go_sem,pc,pd]) rfl ⟨rfl,(kw.setCell (by simp <;> omega) _).setCell (by simp <;> omega) _⟩
  · go_wp2_with (first | (go_at_call_of 27 (Value.agg #[.float .f64 L1,.float .f64 H1]);refine (hv1 _).mono ?_;rintro e wv ⟨rfl,gv⟩;replace kw:=Kp.trans kw gv;replace sw:=H8.keep sw gv;clear gv;obtain ⟨⟨⟨p0,p1,p2,p3⟩,⟨p4,p5,p6,p7⟩,⟨p8,p9,pa,pb⟩⟩,⟨pc,pd,pe,pf⟩⟩:=id sw) | (go_at_call 28;refine (hE _).mono ?_;rintro e we ⟨rfl,ge⟩;replace kw:=Kp.trans kw ge;replace sw:=H8.keep sw ge;clear ge;obtain ⟨⟨⟨p0,p1,p2,p3⟩,⟨p4,p5,p6,p7⟩,⟨p8,p9,pa,pb⟩⟩,⟨pc,pd,pe,pf⟩⟩:=id sw))
    exact bodyPost_ret (v:=.agg #[.float .f64 9218868437227405312,.float .f64 18442240474082181120]) (by simp [results,Tryz.results19,go_sem,pc,pd]) rfl ⟨rfl,(kw.setCell (by simp <;> omega) _).setCell (by simp <;> omega) _⟩
set_option linter.unusedVariables false

theorem lsum9_ (K:Nat) (hK:K = 1074) (L1 H1 L2 H2 e:Int) (d1:VdZ L1 H1) (d2:VdZ L2 H2) (n1:L1≠9218868437227405312) (n2:L2≠9218868437227405312) (he:BdZ e) (hI:e≠9218868437227405312) (w:World) (hT:TT w):Calls Tryz.prog 45 #[.agg #[.float .f64 (pw L1),.float .f64 (pw H1)],.agg #[.float .f64 (pw L2),.float .f64 (pw H2)],.float .f64 (pw e)] w fun v w'=>v = .returned (.float .f64 (pw (lst (fmZ K e) L1 H1 L2 H2)))∧Kp w w':=by
  have b1:=d1.lo;have b2:=d1.hi;have b3:=d2.lo;have b4:=d2.hi
  unfold VdZ at d1 d2
  have he2:=he
  unfold BdZ at he2
  have lo:∀ (x y:Int),BdZ x→BdZ y→(((x = 9218868437227405312∨x = -9218868437227405312)∨(y = 9218868437227405312∨y = -9218868437227405312))→(e = 9218868437227405312∨e = -9218868437227405312)→x≠0→y≠0→((x < 0 ↔ y < 0) ↔ 0 < e))→∀ W0:World,TT W0→W0.cell? ⟨w.heap.size + 2,0,none⟩ = some (.float .f64 (pw e))→∀ W:World,Kp W0 W→Calls Tryz.prog 78 #[.float .f64 (pw x),.float .f64 (pw y),.pointer (some ⟨w.heap.size + 2,0,none⟩)] W fun v w'=>v = .returned (.float .f64 (pw (fmZ K e x y)))∧Kp W w':=fun x y g1 g2 hb W0 t hc W k=>cloP_ K hK x y e _ g1 g2 he hb W (t.kp k) (kkeep k hc)
  refine leastSumA_ _ _ _ _ _ _ w (fun W k hc=>?_)
  have hT:=hT.kp k
  exact lsF9_ (fmZ K e) L1 H1 L2 H2 _ b1 b2 b3 b4 W (fun q1 q2=>lo _ _ b2 b3 (by omega) W hT hc) (fun q1 q2=>lo _ _ b1 b4 (by omega) W hT hc) (fun q1 q2 q3=>lo _ _ b2 b4 (by omega) W hT hc) (fun q1 q2 q3=>lo _ _ b1 b3 (by omega) W hT hc) (fmZ_bd _ _ _ _ he) (fmZ_bd _ _ _ _ he)
def fLo (K:Nat) (L1 H1 L2 H2 L3 H3:Int):Int:=if L1 = 9218868437227405312∨L2 = 9218868437227405312∨L3 = 9218868437227405312 then 9218868437227405312 else lst (fmZ K L3) L1 H1 L2 H2
def fHi (K:Nat) (L1 H1 L2 H2 L3 H3:Int):Int:=if L1 = 9218868437227405312∨L2 = 9218868437227405312∨L3 = 9218868437227405312 then -9218868437227405312 else -(lst (fmZ K (-H3)) (-H1) (-L1) L2 H2)
theorem fma9_ (K:Nat) (hK:K = 1074) (a b c d e5 f5:Nat) (L1 H1 L2 H2 L3 H3:Int) (hx:Rd a b L1 H1) (hy:Rd c d L2 H2) (hz:Rd e5 f5 L3 H3) (w:World) (hT:TT w):Calls Tryz.prog 19 #[.agg #[.float .f64 a,.float .f64 b],.agg #[.float .f64 c,.float .f64 d],.agg #[.float .f64 e5,.float .f64 f5]] w fun e w'=>e = .returned (.agg #[.float .f64 (pw (fLo K L1 H1 L2 H2 L3 H3)),.float .f64 (pw (fHi K L1 H1 L2 H2 L3 H3))])∧Kp w w':=by
  have v1:=void9_ L1 H1 hx.vd
  have v2:=void9_ L2 H2 hy.vd
  have v3:=void9_ L3 H3 hz.vd
  unfold fLo fHi
  by_cases cE:L1 = 9218868437227405312∨L2 = 9218868437227405312∨L3 = 9218868437227405312
  · rw [if_pos cE,if_pos cE,pw_I,pw_MI]
    have q:(decide (L1 = 9218868437227405312) || decide (L2 = 9218868437227405312) || decide (L3 = 9218868437227405312)) = true:=by
      rcases cE with h | h | h
      · rw [decide_eq_true h];rfl
      · rw [decide_eq_true h];simp
      · rw [decide_eq_true h];simp
    have h:=fma6_ a b c d e5 f5 _ _ _ _ _ _ hx.call hy.call hz.call _ _ _ v1 v2 v3 empty9_ 0 0 0 0 0 0 w (fun g=>by rw [q] at g;cases g)
    rw [q] at h
    simpa using h
  rw [if_neg cE,if_neg cE]
  rw [decide_eq_false (show ¬ L1 = 9218868437227405312 by omega)] at v1
  rw [decide_eq_false (show ¬ L2 = 9218868437227405312 by omega)] at v2
  rw [decide_eq_false (show ¬ L3 = 9218868437227405312 by omega)] at v3
  have d1:=hx.vd
  have d2:=hy.vd
  have d3:=hz.vd
  have dn:=vd_neg _ _ d1
  have b5:=d3.lo;have b6:=d3.hi
  have q1:-H1≠9218868437227405312:=by unfold VdZ at d1;omega
  have q3:-H3≠9218868437227405312:=by unfold VdZ at d3;omega
  have h:=fma6_ a b c d e5 f5 _ _ _ _ _ _ hx.call hy.call hz.call _ _ _ v1 v2 v3 empty9_ _ _ _ _ _ _ w (fun _=>⟨fun W k=>lsum9_ K hK L1 H1 L2 H2 L3 d1 d2 (by omega) (by omega) b5 (by omega) W (hT.kp k),neg9_ _ _ _ _ (Rd.of d1),minus9_ H3 b6,fun W k=>lsum9_ K hK (-H1) (-L1) L2 H2 (-H3) dn d2 q1 (by omega) (bd_neg _ b6) q3 W (hT.kp k),minus9_ _ (lst_bd _ (fun x y=>fmZ_bd K _ x y (bd_neg _ b6)) _ _ _ _)⟩)
  simpa using h

set_option linter.unusedVariables false
def vZ (z:Int):Int:=Iv (decide (z < 0)) z.natAbs
theorem vZ_pos (z:Int) (h:0≤z):vZ z = ((Fq.vV Ieee.double z.natAbs:Nat):Int):=by
  unfold vZ Iv
  rw [decide_eq_false (show ¬ z < 0 by omega)];rfl
theorem vV0X:Fq.vV Ieee.double 0 = 0:=by decide
theorem vZ_neg (z:Int):vZ (-z) = -vZ z:=by
  unfold vZ Iv
  rw [Int.natAbs_neg]
  by_cases z0:z = 0
  · rw [z0];simp [vV0X]
  · by_cases c:z < 0
    · rw [decide_eq_true c,decide_eq_false (show ¬ -z < 0 by omega)];simp
    · rw [decide_eq_false c,decide_eq_true (show -z < 0 by omega)];simp
theorem vV_place (E S:Nat) (h1:S≤2 ^ 53) (h2:E = 0∨2 ^ (53 - 1)≤S):Fq.vV Ieee.double (E * 2 ^ (53 - 1) + S) = S * 2 ^ E:=by
  have hb:Ieee.double.binade = 4503599627370496:=by decide
  have p1:(2:Nat) ^ (53 - 1) = 4503599627370496:=by decide
  have p2:(2:Nat) ^ 53 = 9007199254740992:=by decide
  rw [p1] at h2 ⊢
  rw [p2] at h1
  unfold Fq.vV Fq.mM Fq.eE
  rw [hb]
  by_cases c:E * 4503599627370496 + S < 4503599627370496
  · have hE:E = 0:=by omega
    rw [if_pos c,if_pos c,hE];simp
  · rw [if_neg c,if_neg c]
    by_cases c2:S = 9007199254740992
    · rw [show (E * 4503599627370496 + S) / 4503599627370496 - 1 = E + 1 from by omega,show (E * 4503599627370496 + S) % 4503599627370496 = 0 from by omega,Nat.pow_succ,c2]
      generalize 2 ^ E = P
      omega
    · rw [show (E * 4503599627370496 + S) / 4503599627370496 - 1 = E from by omega,show 4503599627370496 + (E * 4503599627370496 + S) % 4503599627370496 = S from by omega]
theorem g53_tight (c1 c2:Nat) (hc:0 < c2) (V:Int):TS 9218868437227405312 (Fq.vV Ieee.double) (V * c1) (c2:Int) (g53 (-1) c1 c2 V) (g53 1 c1 c2 V) (g53 0 c1 c2 V):=gpl_tight 53 2098 9218868437227405311 9218868437227405312 (Fq.vV Ieee.double) vV_place c1 c2 hc (by decide) (by decide) (by decide) (by decide) V

theorem vZ_sn (z:Int):Iv (sN z) z.natAbs = vZ z:=rfl
theorem iv_le9 (n n':Bool) (m m':Nat) (h:Fq.plz n m≤Fq.plz n' m'):Iv n m≤Iv n' m':=by
  have h1:=Fq.vV_lt_iff Ieee.double m m'
  have h2:=Fq.vV_lt_iff Ieee.double m' m
  have h3:=vV_zero m
  have h4:=vV_zero m'
  unfold Iv
  unfold Fq.plz at h
  cases n <;> cases n' <;> simp at h ⊢ <;> omega
theorem vZ_le (x y:Int) (h:x≤y):vZ x≤vZ y:=iv_le9 _ _ _ _ (by rw [plz_pw,plz_pw];exact h)
theorem vZ_zero:vZ 0 = 0:=by rw [vZ_pos 0 (by omega)];exact congrArg _ vV0X
theorem prZ_fin (K:Nat) (x y:Int) (hx:-9218868437227405312 < x∧x < 9218868437227405312) (hy:-9218868437227405312 < y∧y < 9218868437227405312):prZ K x y = g53 (-1) 1 (2 ^ K) (vZ x * vZ y):=by
  unfold prZ
  by_cases c:x = 0∨y = 0
  · rw [if_pos c]
    have e:vZ x * vZ y = 0:=by
      rcases c with c | c
      · rw [c,vZ_zero,Int.zero_mul]
      · rw [c,vZ_zero,Int.mul_zero]
    rw [e];unfold g53 gpl;rw [if_pos rfl]
  · rw [if_neg c]
    unfold muZ oM
    rw [if_neg (by omega),if_neg (by omega),vZ_sn,vZ_sn];rfl
theorem add6n_ (a b c d L1 H1 L2 H2 NL NH:Nat) (hx:∀ w:World,Calls Tryz.prog 26 #[.agg #[.float .f64 a,.float .f64 b]] w fun e w'=>e = .returned (.agg #[.float .f64 L1,.float .f64 H1])∧Kp w w') (hy:∀ w:World,Calls Tryz.prog 26 #[.agg #[.float .f64 c,.float .f64 d]] w fun e w'=>e = .returned (.agg #[.float .f64 L2,.float .f64 H2])∧Kp w w') (hv1:∀ w:World,Calls Tryz.prog 27 #[.agg #[.float .f64 L1,.float .f64 H1]] w fun e w'=>e = .returned (.bool false)∧Kp w w') (hv2:∀ w:World,Calls Tryz.prog 27 #[.agg #[.float .f64 L2,.float .f64 H2]] w fun e w'=>e = .returned (.bool false)∧Kp w w') (w:World) (hA1:∀ W:World,Kp w W→Calls Tryz.prog 29 #[.int .i64 (-1),.float .f64 L1,.float .f64 L2] W fun e w'=>e = .returned (.float .f64 NL)∧Kp W w') (hA2:∀ W:World,Kp w W→Calls Tryz.prog 29 #[.int .i64 1,.float .f64 H1,.float .f64 H2] W fun e w'=>e = .returned (.float .f64 NH)∧Kp W w'):Calls Tryz.prog 8 #[.agg #[.float .f64 a,.float .f64 b],.agg #[.float .f64 c,.float .f64 d]] w fun e w'=>e = .returned (.agg #[.float .f64 NL,.float .f64 NH])∧Kp w w':=by
    go_enter Tryz.func8,Tryz.ntmps8
    go_wp2
    go_region_with (first | (go_at_call_of 26 (Value.agg #[.float .f64 a,.float .f64 b]);refine (hx _).mono ?_;rintro e wx ⟨rfl,gx⟩;first | (have kx:=Kp.trans ky gx;have sx:=H6.keep sy gx;obtain ⟨⟨p0,p1,p2,p3⟩,⟨p4,p5,p6,p7⟩,⟨p8,p9,pa,pb⟩⟩:=id sx) | (have kx:Kp w wx:=Kp.trans (((((Kp.refl w).alloc _).alloc _).alloc _).drew) gx;have sx:=H6.keep (H6.new w (.float .f64 a) (.float .f64 b) (.float .f64 c) (.float .f64 d) (.float .f64 0) (.float .f64 0) 32 32 32) (Kp.trans (Kp.drew (Kp.refl _)) gx);obtain ⟨⟨p0,p1,p2,p3⟩,⟨p4,p5,p6,p7⟩,⟨p8,p9,pa,pb⟩⟩:=id sx)) | (go_at_call_of 26 (Value.agg #[.float .f64 c,.float .f64 d]);refine (hy _).mono ?_;rintro e wy ⟨rfl,gy⟩;first | (have ky:=Kp.trans kx gy;have sy:=H6.keep sx gy;obtain ⟨⟨p0,p1,p2,p3⟩,⟨p4,p5,p6,p7⟩,⟨p8,p9,pa,pb⟩⟩:=id sy) | (have ky:Kp w wy:=Kp.trans (((((Kp.refl w).alloc _).alloc _).alloc _).drew) gy;have sy:=H6.keep (H6.new w (.float .f64 a) (.float .f64 b) (.float .f64 c) (.float .f64 d) (.float .f64 0) (.float .f64 0) 32 32 32) (Kp.trans (Kp.drew (Kp.refl _)) gy);obtain ⟨⟨p0,p1,p2,p3⟩,⟨p4,p5,p6,p7⟩,⟨p8,p9,pa,pb⟩⟩:=id sy)))
    all_goals (first
      | skip
        have sw:=H6.put (id sy:H6 wy w.heap.size (.float .f64 a) (.float .f64 b) (.float .f64 c) (.float .f64 d) (.float .f64 0) (.float .f64 0)) (.float .f64 L1) (.float .f64 H1) (.float .f64 L2) (.float .f64 H2)
        have kw:Kp w ((((wy.setCell ⟨w.heap.size,0,none⟩ (.float .f64 L1)).setCell ⟨w.heap.size,1,none⟩ (.float .f64 H1)).setCell ⟨w.heap.size + 1,0,none⟩ (.float .f64 L2)).setCell ⟨w.heap.size + 1,1,none⟩ (.float .f64 H2)):=(((ky.setCell (Nat.le_refl _) _).setCell (Nat.le_refl _) _).setCell (Nat.le_succ _) _).setCell (Nat.le_succ _) _
        generalize hW:((((wy.setCell ⟨w.heap.size,0,none⟩ (.float .f64 L1)).setCell ⟨w.heap.size,1,none⟩ (.float .f64 H1)).setCell ⟨w.heap.size + 1,0,none⟩ (.float .f64 L2)).setCell ⟨w.heap.size + 1,1,none⟩ (.float .f64 H2)) = W at sw kw ⊢
        clear hW
      | skip
        have sw:=H6.put (id sx:H6 wx w.heap.size (.float .f64 a) (.float .f64 b) (.float .f64 c) (.float .f64 d) (.float .f64 0) (.float .f64 0)) (.float .f64 L1) (.float .f64 H1) (.float .f64 L2) (.float .f64 H2)
        have kw:Kp w ((((wx.setCell ⟨w.heap.size,0,none⟩ (.float .f64 L1)).setCell ⟨w.heap.size,1,none⟩ (.float .f64 H1)).setCell ⟨w.heap.size + 1,0,none⟩ (.float .f64 L2)).setCell ⟨w.heap.size + 1,1,none⟩ (.float .f64 H2)):=(((kx.setCell (Nat.le_refl _) _).setCell (Nat.le_refl _) _).setCell (Nat.le_succ _) _).setCell (Nat.le_succ _) _
        generalize hW:((((wx.setCell ⟨w.heap.size,0,none⟩ (.float .f64 L1)).setCell ⟨w.heap.size,1,none⟩ (.float .f64 H1)).setCell ⟨w.heap.size + 1,0,none⟩ (.float .f64 L2)).setCell ⟨w.heap.size + 1,1,none⟩ (.float .f64 H2)) = W at sw kw ⊢
        clear hW)
    all_goals (
      obtain ⟨⟨p0,p1,p2,p3⟩,⟨p4,p5,p6,p7⟩,⟨p8,p9,pa,pb⟩⟩:=id sw
      go_wp2_with (first | (go_at_call_of 27 (Value.agg #[.float .f64 L1,.float .f64 H1]);refine (hv1 _).mono ?_;rintro e wv ⟨rfl,gv⟩;have kv:=Kp.trans kw gv;have sv:=H6.keep sw gv;obtain ⟨⟨u0,u1,u2,u3⟩,⟨u4,u5,u6,u7⟩,⟨u8,u9,ua,ub⟩⟩:=id sv) | (go_at_call_of 27 (Value.agg #[.float .f64 L2,.float .f64 H2]);refine (hv2 _).mono ?_;rintro e wz ⟨rfl,gz⟩;have kz:=Kp.trans kv gz;have sz:=H6.keep sv gz;obtain ⟨⟨t0,t1,t2,t3⟩,⟨t4,t5,t6,t7⟩,⟨t8,t9,ta,tb⟩⟩:=id sz))
      go_region_held3 (fun w'=>w'.cell? ⟨w.heap.size,0,none⟩ = some (.float .f64 L1)∧w'.cell? ⟨w.heap.size,1,none⟩ = some (.float .f64 H1)∧w'.cell? ⟨w.heap.size + 1,0,none⟩ = some (.float .f64 L2)∧w'.cell? ⟨w.heap.size + 1,1,none⟩ = some (.float .f64 H2)) (first | (exact ⟨sz.1.1,sz.1.2.1,sz.2.1.1,sz.2.1.2.1⟩) | (exact ⟨sA.1.1,sA.1.2.1,sA.2.1.1,sA.2.1.2.1⟩) | (exact ⟨sC.1.1,sC.1.2.1,sC.2.1.1,sC.2.1.2.1⟩) | (exact ⟨(World.cell?_setCell_far _ _ _ _ (by simp <;> omega)).trans ((World.cell?_setCell_far _ _ _ _ (by simp <;> omega)).trans sA.1.1),(World.cell?_setCell_far _ _ _ _ (by simp <;> omega)).trans ((World.cell?_setCell_far _ _ _ _ (by simp <;> omega)).trans sA.1.2.1),(World.cell?_setCell_far _ _ _ _ (by simp <;> omega)).trans ((World.cell?_setCell_far _ _ _ _ (by simp <;> omega)).trans sA.2.1.1),(World.cell?_setCell_far _ _ _ _ (by simp <;> omega)).trans ((World.cell?_setCell_far _ _ _ _ (by simp <;> omega)).trans sA.2.1.2.1)⟩) | (exact ⟨(World.cell?_setCell_far _ _ _ _ (by simp <;> omega)).trans ((World.cell?_setCell_far _ _ _ _ (by simp <;> omega)).trans sC.1.1),(World.cell?_setCell_far _ _ _ _ (by simp <;> omega)).trans ((World.cell?_setCell_far _ _ _ _ (by simp <;> omega)).trans sC.1.2.1),(World.cell?_setCell_far _ _ _ _ (by simp <;> omega)).trans ((World.cell?_setCell_far _ _ _ _ (by simp <;> omega)).trans sC.2.1.1),(World.cell?_setCell_far _ _ _ _ (by simp <;> omega)).trans ((World.cell?_setCell_far _ _ _ _ (by simp <;> omega)).trans sC.2.1.2.1)⟩)) (first | (go_at_call_of 29 (Value.float .f64 L1);first | (refine (hA1 _ (Kp.trans kC (Kp.refl _))).mono ?_;rintro e wA ⟨rfl,gA⟩;have kA:=Kp.trans kC gA;have sA:=H6.keep sC gA;obtain ⟨⟨r0,r1,r2,r3⟩,⟨r4,r5,r6,r7⟩,⟨r8,r9,ra,rb⟩⟩:=id sA) | (refine (hA1 _ (Kp.drew kz)).mono ?_;rintro e wA ⟨rfl,gA⟩;have kA:=Kp.trans (Kp.drew kz) gA;have sA:=H6.keep sz (Kp.trans (Kp.drew (Kp.refl _)) gA);obtain ⟨⟨r0,r1,r2,r3⟩,⟨r4,r5,r6,r7⟩,⟨r8,r9,ra,rb⟩⟩:=id sA)) | (go_at_call_of 29 (Value.float .f64 H1);first | (refine (hA2 _ (Kp.trans kA (Kp.refl _))).mono ?_;rintro e wC ⟨rfl,gC⟩;have kC:=Kp.trans kA gC;have sC:=H6.keep sA gC;obtain ⟨⟨r0,r1,r2,r3⟩,⟨r4,r5,r6,r7⟩,⟨r8,r9,ra,rb⟩⟩:=id sC) | (refine (hA2 _ (Kp.drew kz)).mono ?_;rintro e wC ⟨rfl,gC⟩;have kC:=Kp.trans (Kp.drew kz) gC;have sC:=H6.keep sz (Kp.trans (Kp.drew (Kp.refl _)) gC);obtain ⟨⟨r0,r1,r2,r3⟩,⟨r4,r5,r6,r7⟩,⟨r8,r9,ra,rb⟩⟩:=id sC)))
      all_goals go_wp2
      all_goals first
        | exact bodyPost_ret (v:=.agg #[.float .f64 NL,.float .f64 NH]) (by simp [results,Tryz.results8,go_sem,r8,r9]) rfl ⟨rfl,(kA.setCell (by simp;omega) _).setCell (by simp;omega) _⟩
        | exact bodyPost_ret (v:=.agg #[.float .f64 NL,.float .f64 NH]) (by simp [results,Tryz.results8,go_sem,r8,r9]) rfl ⟨rfl,(kC.setCell (by simp;omega) _).setCell (by simp;omega) _⟩)
end Go.Proofs.YtaidnpjgkkdloaaGreatDoor
