import Derived.Test.YtaldmbeomdfafaaGreatDoorKEM2
import Derived.Test.YtaldmbeomdfafaaGreatDoorKMEs
import Derived.OneCell
set_option maxHeartbeats 1000000
set_option maxRecDepth 20000
namespace Go.Proofs.YtaldmbeomdfafaaGreatDoor
open Go.RowKit
theorem timesW (v1 v2:Value) (a b:Nat) (w:World) (h1:Ls w v1 (dig a)) (h2:Ls w v2 (dig b)) (l1:len32 a≤16777216) (l2:len32 b≤16777216) :
  Calls Tryz.prog 70 #[v1,v2] w fun e w'=>∃ p c,e = .returned (.slice p (dig (a * b)).length c)∧Arr w' p (dig (a * b))∧(dig (a * b)).length≤c∧Kp w w':=by
 obtain ⟨p,c,rfl,hA,hc⟩:=h1
 obtain ⟨q,d,rfl,hB,hd⟩:=h2
 have h:=rtimes_ p q c d (dig a) (dig b) w hA hB (Wd_dig a) (Wd_dig b) (by change len32 a≤_;omega) (by change len32 b≤_;omega)
 rw [val_dig,val_dig] at h
 refine h.mono ?_
 rintro e w' ⟨v,h1,h2,h3⟩
 obtain ⟨p,c,rfl,h4,h5⟩:=h2.arr
 exact ⟨p,c,h1,h4,h5,h3⟩

theorem RF.iv {s:Bool} {a b:Nat} {n:Bool} {m:Nat} (h:RF s a b n m) (K:Nat) (hK:K = 1074):rvI s a * ((2 ^ K:Nat):Int) = Iv n m * (b:Int):=by
 obtain ⟨h0,h1,h2,-,-⟩:=h K hK
 rw [h2]
 have h3:((a * 2 ^ K:Nat):Int) = ((Fq.vV Ieee.double m * b:Nat):Int):=by rw [h1]
 unfold rvI
 rw [Int.natCast_mul,Int.natCast_mul] at h3
 cases s
 ·simpa using h3
 ·simp only [if_true,Int.neg_mul];rw [h3]
theorem cmI_scale (x y k:Int) (hk:0 < k):cmI (x * k) (y * k) = cmI x y:=by
 unfold cmI
 have e1:x * k < y * k ↔ x < y:=⟨fun h=>Int.lt_of_mul_lt_mul_right h (Int.le_of_lt hk),fun h=>Int.mul_lt_mul_of_pos_right h hk⟩
 have e2:y * k < x * k ↔ y < x:=⟨fun h=>Int.lt_of_mul_lt_mul_right h (Int.le_of_lt hk),fun h=>Int.mul_lt_mul_of_pos_right h hk⟩
 simp only [e1,e2]
theorem rcmpP8_ (B1 B2:Nat) (n n':Bool) (m m':Nat) s p l c q k d s2 p2 l2 c2 q2 k2 d2 (w:World) (h1:RP B1 w s p l c q k d n m) (h2:RP B2 w s2 p2 l2 c2 q2 k2 d2 n' m'):Calls Tryz.prog 33 #[.agg #[.bool s,.slice p l c,.slice q k d],.agg #[.bool s2,.slice p2 l2 c2,.slice q2 k2 d2]] w fun e w'=>e = .returned (.int .i64 (cmI (Iv n m) (Iv n' m')))∧Kp w w':=by
 obtain ⟨a,b,o1,o2,f1⟩:=h1
 obtain ⟨x,y,o3,o4,f2⟩:=h2
 obtain ⟨K,hK⟩:∃ K:Nat,K = 1074:=⟨_,rfl⟩
 have i1:=f1.iv K hK
 have i2:=f2.iv K hK
 obtain ⟨zb,-,-,j1,j2⟩:=f1 K hK
 obtain ⟨zy,-,-,j3,j4⟩:=f2 K hK
 have h:=rcmp6_ s p l c q k d s2 p2 l2 c2 q2 k2 d2 a b x y B1 B2 w o1 o2 o3 o4 zb zy (by omega) (by omega) (by omega) (by omega)
 have e:cmI (rvI s a * (y:Int)) (rvI s2 x * (b:Int)) = cmI (Iv n m) (Iv n' m'):=by
  have pk:(0:Int) < ((2 ^ K:Nat):Int):=by have:=Nat.two_pow_pos K;omega
  have pb:(0:Int) < (b:Int) * (y:Int):=Int.mul_pos (by omega) (by omega)
  rw [← cmI_scale _ _ _ pk,← cmI_scale (Iv n m) (Iv n' m') _ pb]
  rw [Int.mul_right_comm,i1,Int.mul_right_comm (rvI s2 x),i2,Int.mul_assoc,Int.mul_assoc,Int.mul_comm (y:Int) (b:Int)]
 rw [e] at h
 exact h
theorem cmI_iv (n n':Bool) (m m':Nat):cmI (Iv n m) (Iv n' m') = cmI (Fq.plz n m) (Fq.plz n' m'):=by
 unfold cmI
 simp only [iv_lt8]
theorem cmI_le0 (x y:Int):cmI x y≤0 ↔ x≤y:=by
 unfold cmI
 by_cases c1:x < y
 ·rw [if_pos c1];omega
 ·rw [if_neg c1]
  by_cases c2:y < x
  ·rw [if_pos c2];omega
  ·rw [if_neg c2];omega
theorem cmI_lt (x y:Int) (h:x < y):cmI x y = -1:=by unfold cmI;rw [if_pos h]
theorem cmI_gt (x y:Int) (h:y < x):cmI x y = 1:=by unfold cmI;rw [if_neg (by omega),if_pos h]
theorem cmI_eq (x:Int):cmI x x = 0:=by unfold cmI;rw [if_neg (by omega),if_neg (by omega)]
theorem cmpE_ (B1 B2:Nat) (n n':Bool) (m m':Nat) (hm:m≤9218868437227405312) (hm':m'≤9218868437227405312) s p l c q k d s2 p2 l2 c2 q2 k2 d2 (w:World) (h1:RP B1 w s p l c q k d (fN n m) (fM m)) (h2:RP B2 w s2 p2 l2 c2 q2 k2 d2 (fN n' m') (fM m')):Calls Tryz.prog 129 #[.agg #[.int .i64 (infS n m),.bool s,.slice p l c,.slice q k d],.agg #[.int .i64 (infS n' m'),.bool s2,.slice p2 l2 c2,.slice q2 k2 d2]] w fun e w'=>e = .returned (.int .i64 (cmI (Fq.plz n m) (Fq.plz n' m')))∧Kp w w':=by
 have P1:Fq.plz n m = if n then -(m:Int) else m:=by unfold Fq.plz;cases n <;> rfl
 have P2:Fq.plz n' m' = if n' then -(m':Int) else m':=by unfold Fq.plz;cases n' <;> rfl
 by_cases z1:m = 9218868437227405312
 ·by_cases z2:m' = 9218868437227405312
  ·subst z1 z2
   have e1:infS n 9218868437227405312 = if n then -1 else 1:=by unfold infS;rw [if_pos rfl]
   have e2:infS n' 9218868437227405312 = if n' then -1 else 1:=by unfold infS;rw [if_pos rfl]
   rw [e1,e2]
   cases n <;> cases n'
   ·rw [cmI_eq];exact endE_ 1 s p l c q k d s2 p2 l2 c2 q2 k2 d2 (by decide) w
   ·rw [cmI_gt _ _ (by rw [P1,P2];decide)];exact endG_ 1 (-1) s p l c q k d s2 p2 l2 c2 q2 k2 d2 (by decide) (by decide) w
   ·rw [cmI_lt _ _ (by rw [P1,P2];decide)];exact endL_ (-1) 1 s p l c q k d s2 p2 l2 c2 q2 k2 d2 (by decide) (by decide) w
   ·rw [cmI_eq];exact endE_ (-1) s p l c q k d s2 p2 l2 c2 q2 k2 d2 (by decide) w
  ·have e1:infS n m = if n then -1 else 1:=by unfold infS;rw [if_pos z1]
   have e2:infS n' m' = 0:=by unfold infS;rw [if_neg z2]
   rw [e1,e2]
   cases n
   ·rw [cmI_gt _ _ (by rw [P1,P2];cases n' <;> simp <;> omega)];exact endG_ 1 0 s p l c q k d s2 p2 l2 c2 q2 k2 d2 (by decide) (by decide) w
   ·rw [cmI_lt _ _ (by rw [P1,P2];cases n' <;> simp <;> omega)];exact endL_ (-1) 0 s p l c q k d s2 p2 l2 c2 q2 k2 d2 (by decide) (by decide) w
 ·have e1:infS n m = 0:=by unfold infS;rw [if_neg z1]
  by_cases z2:m' = 9218868437227405312
  ·have e2:infS n' m' = if n' then -1 else 1:=by unfold infS;rw [if_pos z2]
   rw [e1,e2]
   cases n'
   ·rw [cmI_lt _ _ (by rw [P1,P2];cases n <;> simp <;> omega)];exact endL_ 0 1 s p l c q k d s2 p2 l2 c2 q2 k2 d2 (by decide) (by decide) w
   ·rw [cmI_gt _ _ (by rw [P1,P2];cases n <;> simp <;> omega)];exact endG_ 0 (-1) s p l c q k d s2 p2 l2 c2 q2 k2 d2 (by decide) (by decide) w
  ·have e2:infS n' m' = 0:=by unfold infS;rw [if_neg z2]
   have f1:fN n m = n∧fM m = m:=by unfold fN fM;rw [if_neg z1,if_neg z1];exact ⟨rfl,rfl⟩
   have f2:fN n' m' = n'∧fM m' = m':=by unfold fN fM;rw [if_neg z2,if_neg z2];exact ⟨rfl,rfl⟩
   rw [f1.1,f1.2] at h1
   rw [f2.1,f2.2] at h2
   rw [e1,e2,← cmI_iv]
   exact endZ_ _ s p l c q k d s2 p2 l2 c2 q2 k2 d2 w (fun W g=>rcmpP8_ B1 B2 n n' m m' s p l c q k d s2 p2 l2 c2 q2 k2 d2 W (h1.kp g) (h2.kp g))

set_option linter.unusedVariables false
def NB (p q:Option Addr) (b:Nat):Prop:=(∀ a,p = some a→a.block≠b)∧(∀ a,q = some a→a.block≠b)
theorem Own.setNe {w:World} {base:Nat} {p:Option Addr} {l c:Nat} {xs:List Int} (h:Own w base (.slice p l c) xs) {x:Addr} (hx:∀ a,p = some a→a.block≠x.block) (u:Value):Own (w.setCell x u) base (.slice p l c) xs:=by
 refine ownsRow_setCell_other h ?_ u
 cases p with
 | none=>simp [Value.ownBlock]
 | some a=>simpa [Value.ownBlock] using hx a rfl
theorem Own.blk {w:World} {base:Nat} {p:Option Addr} {l c:Nat} {xs:List Int} (h:Own w base (.slice p l c) xs):∀ a,p = some a→base≤a.block∧a.block < w.heap.size:=by
 intro a ha
 rcases h.2 with ⟨h1,-⟩ | ⟨g,cap,cur,h1,h2,h3,-⟩
 ·simp at h1;rw [h1.1] at ha;cases ha
 ·simp at h1
  rw [h1.1] at ha
  obtain rfl:=Option.some.inj ha
  refine ⟨h2, ?_⟩
  exact lt_of_block h3
theorem RP.setNe {base:Nat} {w:World} {s:Bool} {p:Option Addr} {l c:Nat} {q:Option Addr} {k d:Nat} {n:Bool} {m:Nat} (h:RP base w s p l c q k d n m) {x:Addr} (hx:NB p q x.block) (u:Value):RP base (w.setCell x u) s p l c q k d n m:=by
 obtain ⟨a,b,h1,h2,h3⟩:=h
 exact ⟨a,b,h1.setNe hx.1 u,h2.setNe hx.2 u,h3⟩
theorem RP.nought {base:Nat} {w:World} {s:Bool} {p:Option Addr} {l c:Nat} {q:Option Addr} {k d:Nat} {n:Bool} (h:RP base w s p l c q k d n 0) (n':Bool):RP base w s p l c q k d n' 0:=by
 obtain ⟨a,b,h1,h2,h3⟩:=h
 refine ⟨a,b,h1,h2,fun K hK=>?_⟩
 obtain ⟨f1,f2,f3,f4,f5⟩:=h3 K hK
 exact ⟨f1,f2,by rw [← f3];unfold Iv;rw [Fq.vV_zero];cases n <;> cases n' <;> rfl,f4,f5⟩
theorem RP.nbNew {base:Nat} {w:World} {s:Bool} {p:Option Addr} {l c:Nat} {q:Option Addr} {k d:Nat} {n:Bool} {m:Nat} (h:RP base w s p l c q k d n m) {b:Nat} (hb:w.heap.size≤b):NB p q b:=by
 obtain ⟨x,y,h1,h2,-⟩:=h
 exact ⟨fun a ha=>by have:=(h1.blk a ha).2;omega,fun a ha=>by have:=(h2.blk a ha).2;omega⟩
theorem RP.nbLow {base:Nat} {w:World} {s:Bool} {p:Option Addr} {l c:Nat} {q:Option Addr} {k d:Nat} {n:Bool} {m:Nat} (h:RP base w s p l c q k d n m) {b:Nat} (hb:b < base):NB p q b:=by
 obtain ⟨x,y,h1,h2,-⟩:=h
 exact ⟨fun a ha=>by have:=(h1.blk a ha).1;omega,fun a ha=>by have:=(h2.blk a ha).1;omega⟩

def SzQ (ia ib:Int) (Na:Bool) (Ma:Nat) (Nb:Bool) (Mb:Nat) (e:Ending) (w':World):Prop:=∃ (s3:Bool) (p3:Option Addr) (l3 c3:Nat) (q3:Option Addr) (k3 d3:Nat) (s5:Bool) (p5:Option Addr) (l5 c5:Nat) (q5:Option Addr) (k5 d5:Nat),e = .returned (.agg #[.bool false,.int .i64 ia,.bool s3,.slice p3 l3 c3,.slice q3 k3 d3,.int .i64 ib,.bool s5,.slice p5 l5 c5,.slice q5 k5 d5])∧RP 0 w' s3 p3 l3 c3 q3 k3 d3 Na Ma∧RP 0 w' s5 p5 l5 c5 q5 k5 d5 Nb Mb

def H4c (w:World) (b:Nat) (v0 v1 v2 v3:Value):Prop:=w.cell? ⟨b,0,none⟩ = some v0∧w.cell? ⟨b,1,none⟩ = some v1∧w.cell? ⟨b,2,none⟩ = some v2∧w.cell? ⟨b,3,none⟩ = some v3∧w.frozen? ⟨b,0,none⟩ = false∧w.frozen? ⟨b,1,none⟩ = false∧w.frozen? ⟨b,2,none⟩ = false∧w.frozen? ⟨b,3,none⟩ = false
theorem H4c.keep {W w:World} {b:Nat} {v0 v1 v2 v3:Value} (h:H4c W b v0 v1 v2 v3) (g:Kp W w):H4c w b v0 v1 v2 v3:=by
 obtain ⟨h0,h1,h2,h3,h4,h5,h6,h7⟩:=h
 exact ⟨kkeep g h0,kkeep g h1,kkeep g h2,kkeep g h3,(kfro g (cell_lt h0)).trans h4,(kfro g (cell_lt h0)).trans h5,(kfro g (cell_lt h0)).trans h6,(kfro g (cell_lt h0)).trans h7⟩
theorem H4c.new (w:World) (v0 v1 v2 v3:Value) (t:TypeId):H4c (w.alloc (.cells #[v0,v1,v2,v3] t)) w.heap.size v0 v1 v2 v3:=by
 unfold H4c;simp [go_sem]
theorem H4c.lt {w:World} {b:Nat} {v0 v1 v2 v3:Value} (h:H4c w b v0 v1 v2 v3):b < w.heap.size:=cell_lt h.1
theorem H4c.put {w:World} {b:Nat} {v0 v1 v2 v3:Value} (h:H4c w b v0 v1 v2 v3) (u0 u1 u2 u3:Value):H4c (((((w.setCell ⟨b,0,none⟩ u0).setCell ⟨b,1,none⟩ u1).setCell ⟨b,2,none⟩ u2).setCell ⟨b,3,none⟩ u3)) b u0 u1 u2 u3:=by
 obtain ⟨h0,h1,h2,h3,h4,h5,h6,h7⟩:=h
 unfold H4c;simp [go_sem,h0,h1,h2,h3,h4,h5,h6,h7]
theorem H4c.far1 {w:World} {b:Nat} {v0 v1 v2 v3:Value} (h:H4c w b v0 v1 v2 v3) (x:Addr) (hne:x.block≠b) (u:Value):H4c (w.setCell x u) b v0 v1 v2 v3:=by
 obtain ⟨h0,h1,h2,h3,h4,h5,h6,h7⟩:=h
 exact ⟨(CF _ _ _ _ hne).trans h0,(CF _ _ _ _ hne).trans h1,(CF _ _ _ _ hne).trans h2,(CF _ _ _ _ hne).trans h3,(World.frozen?_setCell _ _ _ _).trans h4,(World.frozen?_setCell _ _ _ _).trans h5,(World.frozen?_setCell _ _ _ _).trans h6,(World.frozen?_setCell _ _ _ _).trans h7⟩

def H9c (w:World) (b:Nat) (v0 v1 v2 v3 v4 v5 v6 v7 v8:Value):Prop:=w.cell? ⟨b,0,none⟩ = some v0∧w.cell? ⟨b,1,none⟩ = some v1∧w.cell? ⟨b,2,none⟩ = some v2∧w.cell? ⟨b,3,none⟩ = some v3∧w.cell? ⟨b,4,none⟩ = some v4∧w.cell? ⟨b,5,none⟩ = some v5∧w.cell? ⟨b,6,none⟩ = some v6∧w.cell? ⟨b,7,none⟩ = some v7∧w.cell? ⟨b,8,none⟩ = some v8∧w.frozen? ⟨b,0,none⟩ = false∧w.frozen? ⟨b,1,none⟩ = false∧w.frozen? ⟨b,2,none⟩ = false∧w.frozen? ⟨b,3,none⟩ = false∧w.frozen? ⟨b,4,none⟩ = false∧w.frozen? ⟨b,5,none⟩ = false∧w.frozen? ⟨b,6,none⟩ = false∧w.frozen? ⟨b,7,none⟩ = false∧w.frozen? ⟨b,8,none⟩ = false
theorem H9c.keep {W w:World} {b:Nat} {v0 v1 v2 v3 v4 v5 v6 v7 v8:Value} (h:H9c W b v0 v1 v2 v3 v4 v5 v6 v7 v8) (g:Kp W w):H9c w b v0 v1 v2 v3 v4 v5 v6 v7 v8:=by
 obtain ⟨h0,h1,h2,h3,h4,h5,h6,h7,h8,h9,h10,h11,h12,h13,h14,h15,h16,h17⟩:=h
 exact ⟨kkeep g h0,kkeep g h1,kkeep g h2,kkeep g h3,kkeep g h4,kkeep g h5,kkeep g h6,kkeep g h7,kkeep g h8,(kfro g (cell_lt h0)).trans h9,(kfro g (cell_lt h0)).trans h10,(kfro g (cell_lt h0)).trans h11,(kfro g (cell_lt h0)).trans h12,(kfro g (cell_lt h0)).trans h13,(kfro g (cell_lt h0)).trans h14,(kfro g (cell_lt h0)).trans h15,(kfro g (cell_lt h0)).trans h16,(kfro g (cell_lt h0)).trans h17⟩
theorem H9c.new (w:World) (v0 v1 v2 v3 v4 v5 v6 v7 v8:Value) (t:TypeId):H9c (w.alloc (.cells #[v0,v1,v2,v3,v4,v5,v6,v7,v8] t)) w.heap.size v0 v1 v2 v3 v4 v5 v6 v7 v8:=by
 unfold H9c;simp [go_sem]
theorem H9c.lt {w:World} {b:Nat} {v0 v1 v2 v3 v4 v5 v6 v7 v8:Value} (h:H9c w b v0 v1 v2 v3 v4 v5 v6 v7 v8):b < w.heap.size:=cell_lt h.1
theorem H9c.put {w:World} {b:Nat} {v0 v1 v2 v3 v4 v5 v6 v7 v8:Value} (h:H9c w b v0 v1 v2 v3 v4 v5 v6 v7 v8) (u0 u1 u2 u3 u4 u5 u6 u7 u8:Value):H9c ((((((((((w.setCell ⟨b,0,none⟩ u0).setCell ⟨b,1,none⟩ u1).setCell ⟨b,2,none⟩ u2).setCell ⟨b,3,none⟩ u3).setCell ⟨b,4,none⟩ u4).setCell ⟨b,5,none⟩ u5).setCell ⟨b,6,none⟩ u6).setCell ⟨b,7,none⟩ u7).setCell ⟨b,8,none⟩ u8)) b u0 u1 u2 u3 u4 u5 u6 u7 u8:=by
 obtain ⟨h0,h1,h2,h3,h4,h5,h6,h7,h8,h9,h10,h11,h12,h13,h14,h15,h16,h17⟩:=h
 unfold H9c;simp [go_sem,h0,h1,h2,h3,h4,h5,h6,h7,h8,h9,h10,h11,h12,h13,h14,h15,h16,h17]
theorem H9c.far1 {w:World} {b:Nat} {v0 v1 v2 v3 v4 v5 v6 v7 v8:Value} (h:H9c w b v0 v1 v2 v3 v4 v5 v6 v7 v8) (x:Addr) (hne:x.block≠b) (u:Value):H9c (w.setCell x u) b v0 v1 v2 v3 v4 v5 v6 v7 v8:=by
 obtain ⟨h0,h1,h2,h3,h4,h5,h6,h7,h8,h9,h10,h11,h12,h13,h14,h15,h16,h17⟩:=h
 exact ⟨(CF _ _ _ _ hne).trans h0,(CF _ _ _ _ hne).trans h1,(CF _ _ _ _ hne).trans h2,(CF _ _ _ _ hne).trans h3,(CF _ _ _ _ hne).trans h4,(CF _ _ _ _ hne).trans h5,(CF _ _ _ _ hne).trans h6,(CF _ _ _ _ hne).trans h7,(CF _ _ _ _ hne).trans h8,(World.frozen?_setCell _ _ _ _).trans h9,(World.frozen?_setCell _ _ _ _).trans h10,(World.frozen?_setCell _ _ _ _).trans h11,(World.frozen?_setCell _ _ _ _).trans h12,(World.frozen?_setCell _ _ _ _).trans h13,(World.frozen?_setCell _ _ _ _).trans h14,(World.frozen?_setCell _ _ _ _).trans h15,(World.frozen?_setCell _ _ _ _).trans h16,(World.frozen?_setCell _ _ _ _).trans h17⟩
set_option linter.unusedVariables false
theorem frac_ratio (x D a b:Nat) (hD:D≠0) (hF:FracOf x D 0 a b):a * D = x * b:=by
 have hb:=hF.1
 by_cases c0:x = 0
 ·rw [hF.2.1.2 c0,c0,Nat.zero_mul,Nat.zero_mul]
 ·have hfl:∀ t:Nat,a * 2 ^ t / b = x * 2 ^ t / D:=fun t=>by
   have h:=hF.2.2.1 (-1) (blen (a * 2 ^ t / b) + blen (x * 2 ^ t / D)) (t:Int) c0
   unfold rV at h
   rw [show ((t:Int)).toNat = t from by omega,show (-(t:Int)).toNat = 0 from by omega,show ((t:Int) + 0).toNat = t from by omega,show (-((t:Int) + 0)).toNat = 0 from by omega,Nat.pow_zero,Nat.mul_one,Nat.mul_one,rU_floor _ _ _ (by omega),rU_floor _ _ _ (by omega)] at h
   exact h
  obtain ⟨t,ht⟩:∃ t,b * D < 2 ^ t:=⟨b * D,Nat.lt_two_pow_self⟩
  have h:=hfl t
  obtain ⟨f,hf⟩:∃ f,f = a * 2 ^ t / b:=⟨_,rfl⟩
  have f1:f * b≤a * 2 ^ t:=by rw [hf];exact Nat.div_mul_le_self _ _
  have f2:a * 2 ^ t < (f + 1) * b:=by rw [hf];exact Nat.lt_mul_of_div_lt (Nat.lt_succ_self _) (by omega)
  have f3:f * D≤x * 2 ^ t:=by rw [hf,h];exact Nat.div_mul_le_self _ _
  have f4:x * 2 ^ t < (f + 1) * D:=by rw [hf,h];exact Nat.lt_mul_of_div_lt (Nat.lt_succ_self _) (by omega)
  have g1:=Nat.mul_le_mul_right D f1
  have g2:=Nat.mul_lt_mul_of_pos_right f2 (show 0 < D by omega)
  have g3:=Nat.mul_le_mul_right b f3
  have g4:=Nat.mul_lt_mul_of_pos_right f4 (show 0 < b by omega)
  rw [show f * b * D = f * (b * D) from Nat.mul_assoc _ _ _,show a * 2 ^ t * D = a * D * 2 ^ t from Nat.mul_right_comm _ _ _] at g1
  rw [show (f + 1) * b * D = f * (b * D) + b * D from by rw [Nat.mul_assoc,Nat.add_mul,Nat.one_mul],show a * 2 ^ t * D = a * D * 2 ^ t from Nat.mul_right_comm _ _ _] at g2
  rw [show f * D * b = f * (b * D) from by rw [Nat.mul_assoc,Nat.mul_comm D b],show x * 2 ^ t * b = x * b * 2 ^ t from Nat.mul_right_comm _ _ _] at g3
  rw [show (f + 1) * D * b = f * (b * D) + b * D from by rw [Nat.mul_assoc,Nat.mul_comm D b,Nat.add_mul,Nat.one_mul],show x * 2 ^ t * b = x * b * 2 ^ t from Nat.mul_right_comm _ _ _] at g4
  rcases Nat.lt_trichotomy (a * D) (x * b) with c | c | c
  ·exfalso
   have h5:=Nat.mul_le_mul_right (2 ^ t) (show a * D + 1≤x * b from c)
   rw [Nat.add_mul,Nat.one_mul] at h5
   omega
  ·exact c
  ·exfalso
   have h5:=Nat.mul_le_mul_right (2 ^ t) (show x * b + 1≤a * D from c)
   rw [Nat.add_mul,Nat.one_mul] at h5
   omega

set_option linter.unusedVariables false
def XF (s:Bool) (a b:Nat) (V:Int) (C N:Nat):Prop:=b≠0∧C≠0∧rvI s a * (C:Int) = V * (b:Int)∧blen a≤N∧blen b≤N
def XP (base:Nat) (w:World) (s:Bool) (p:Option Addr) (l c:Nat) (q:Option Addr) (k d:Nat) (V:Int) (C N:Nat):Prop:=∃ a b,Own w base (.slice p l c) (dig a)∧Own w base (.slice q k d) (dig b)∧XF s a b V C N
theorem XP.kp {base:Nat} {w:World} {s:Bool} {p:Option Addr} {l c:Nat} {q:Option Addr} {k d:Nat} {V:Int} {C N:Nat} {w':World} (h:XP base w s p l c q k d V C N) (g:Kp w w'):XP base w' s p l c q k d V C N:=by
 obtain ⟨a,b,h1,h2,h3⟩:=h
 exact ⟨a,b,h1.kp g,h2.kp g,h3⟩
theorem XP.mono {base:Nat} {w:World} {s:Bool} {p:Option Addr} {l c:Nat} {q:Option Addr} {k d:Nat} {V:Int} {C N:Nat} {base':Nat} (h:XP base w s p l c q k d V C N) (g:base'≤base):XP base' w s p l c q k d V C N:=by
 obtain ⟨a,b,h1,h2,h3⟩:=h
 exact ⟨a,b,h1.mono g,h2.mono g,h3⟩
theorem XP.set {base:Nat} {w:World} {s:Bool} {p:Option Addr} {l c:Nat} {q:Option Addr} {k d:Nat} {V:Int} {C N:Nat} (h:XP base w s p l c q k d V C N) {x:Addr} (hx:x.block < base) (u:Value):XP base (w.setCell x u) s p l c q k d V C N:=by
 obtain ⟨a,b,h1,h2,h3⟩:=h
 exact ⟨a,b,h1.setOther hx u,h2.setOther hx u,h3⟩
theorem XP.as {base:Nat} {w:World} {s:Bool} {p:Option Addr} {l c:Nat} {q:Option Addr} {k d:Nat} {V:Int} {C N:Nat} (h:XP base w s p l c q k d V C N) (V2:Int) (C2 N2:Nat) (hc:C2≠0) (e:V * (C2:Int) = V2 * (C:Int)) (hN:N≤N2):XP base w s p l c q k d V2 C2 N2:=by
 obtain ⟨a,b,h1,h2,f1,f2,f3,f4,f5⟩:=h
 refine ⟨a,b,h1,h2,f1,hc, ?_,by omega,by omega⟩
 refine Int.eq_of_mul_eq_mul_right (show (C:Int)≠0 by omega) ?_
 have e1:rvI s a * (C2:Int) * (C:Int) = rvI s a * (C:Int) * (C2:Int):=by ac_rfl
 have e2:V2 * (b:Int) * (C:Int) = V2 * (C:Int) * (b:Int):=by ac_rfl
 rw [e1,f3,e2,← e];ac_rfl
theorem RP.xp {base:Nat} {w:World} {s:Bool} {p:Option Addr} {l c:Nat} {q:Option Addr} {k d:Nat} {n:Bool} {m:Nat} (h:RP base w s p l c q k d n m) (K:Nat) (hK:K = 1074):XP base w s p l c q k d (Iv n m) (2 ^ K) 1500:=by
 obtain ⟨a,b,h1,h2,h3⟩:=h
 obtain ⟨f1,f2,f3,f4,f5⟩:=h3 K hK
 refine ⟨a,b,h1,h2,f1,by have:=Nat.two_pow_pos K;omega, ?_,f4,f5⟩
 have e:(a:Int) * ((2 ^ K:Nat):Int) = ((Fq.vV Ieee.double m:Nat):Int) * (b:Int):=by rw [← Int.natCast_mul,f2,Int.natCast_mul]
 rw [f3];unfold rvI
 cases s
 ·rw [if_neg (by decide),if_neg (by decide)];exact e
 ·rw [if_pos rfl,if_pos rfl,Int.neg_mul,e,Int.neg_mul]
theorem rvI_mul (s:Bool) (a b:Nat):rvI s (a * b) = rvI s a * (b:Int):=by
 unfold rvI;cases s
 ·rw [if_neg (by decide),if_neg (by decide),Int.natCast_mul]
 ·rw [if_pos rfl,if_pos rfl,Int.natCast_mul,Int.neg_mul]
theorem frac_x (x D a' b':Nat) (ng neg:Bool) (hD:D≠0) (hF:FracOf x D 0 a' b') (hn:x≠0→ng = neg):rvI ng a' * (D:Int) = rvI neg x * (b':Int):=by
 have h:=frac_ratio x D a' b' hD hF
 by_cases z:x = 0
 ·have z':=hF.2.1.2 z
  rw [z,z'];unfold rvI;simp
 ·rw [hn z,← rvI_mul,← rvI_mul,h]
theorem blen_mulX (u v N1 N2:Nat) (h1:blen u≤N1) (h2:blen v≤N2):blen (u * v)≤N1 + N2:=by
 rw [blen_le_iff,Nat.pow_add]
 exact Nat.mul_lt_mul'' ((blen_le_iff u N1).1 h1) ((blen_le_iff v N2).1 h2)
theorem rcmpW6_ s p l c q k d s2 p2 l2 c2 q2 k2 d2 (a b x y:Nat) (B1 B2:Nat) (w:World) (h1:Own w B1 (.slice p l c) (dig a)) (h2:Own w B1 (.slice q k d) (dig b)) (h3:Own w B2 (.slice p2 l2 c2) (dig x)) (h4:Own w B2 (.slice q2 k2 d2) (dig y)) (zb:b≠0) (zy:y≠0) (la:blen a≤3100000) (lb:blen b≤3100000) (lx:blen x≤3100000) (ly:blen y≤3100000):Calls Tryz.prog 33 #[.agg #[.bool s,.slice p l c,.slice q k d],.agg #[.bool s2,.slice p2 l2 c2,.slice q2 k2 d2]] w fun e w'=>e = .returned (.int .i64 (cmI (rvI s a * y) (rvI s2 x * b)))∧Kp w w':=by
 have hs1:∀ W:World,Kp w W→Calls Tryz.prog 30 #[.agg #[.bool s,.slice p l c,.slice q k d]] W fun e w'=>e = .returned (.int .i64 (if a = 0 then 0 else if s then -1 else 1))∧Kp W w':=fun W g=>rsign_ s _ _ a W (h1.kp g).ls (by omega)
 have hs2:∀ W:World,Kp w W→Calls Tryz.prog 30 #[.agg #[.bool s2,.slice p2 l2 c2,.slice q2 k2 d2]] W fun e w'=>e = .returned (.int .i64 (if x = 0 then 0 else if s2 then -1 else 1))∧Kp W w':=fun W g=>rsign_ s2 _ _ x W (h3.kp g).ls (by omega)
 have len:∀ z:Nat,blen z≤3100000→len32 z≤16777216:=fun z hz=>Nat.le_trans (dlen z 131072 (by omega)) (by decide)
 have hT1:∀ W:World,Kp w W→Calls Tryz.prog 70 #[.slice p l c,.slice q2 k2 d2] W fun e w'=>∃ v,e = .returned v∧Ls w' v (dig (a * y))∧Kp W w':=fun W g=>(timesW _ _ a y W (h1.kp g).ls (h4.kp g).ls (len a la) (len y ly)).mono (fun e w' ⟨pp,cc,e1,ar,ll,g2⟩=>⟨_,e1,⟨pp,cc,rfl,ar,ll⟩,g2⟩)
 have hT2:∀ W:World,Kp w W→Calls Tryz.prog 70 #[.slice p2 l2 c2,.slice q k d] W fun e w'=>∃ v,e = .returned v∧Ls w' v (dig (x * b))∧Kp W w':=fun W g=>(timesW _ _ x b W (h3.kp g).ls (h2.kp g).ls (len x lx) (len b lb)).mono (fun e w' ⟨pp,cc,e1,ar,ll,g2⟩=>⟨_,e1,⟨pp,cc,rfl,ar,ll⟩,g2⟩)
 have bl:∀ u v:Nat,blen u≤3100000→blen v≤3100000→blen (u * v)≤33554432:=fun u v h1 h2=>by
  obtain ⟨T5,hT5⟩:∃ T5:Nat,T5 = 3100000:=⟨_,rfl⟩
  have g:blen (u * v)≤T5 + T5:=by
   rw [blen_le_iff,Nat.pow_add]
   exact Nat.mul_lt_mul'' ((blen_le_iff u T5).1 (by omega)) ((blen_le_iff v T5).1 (by omega))
  omega
 have hC:∀ (W:World) (u v:Value),Kp w W→Ls W u (dig (a * y))→Ls W v (dig (x * b))→Calls Tryz.prog 71 #[u,v] W fun e w'=>e = .returned (.int .i64 (cmpN (a * y) (x * b)))∧Kp W w':=fun W u v _ g1 g2=>cmpR u v (a * y) (x * b) W g1 g2 (bl a y la ly) (bl x b lx lb)
 have hk:∀ (W W':World) (v:Value),Kp W W'→Ls W v (dig (a * y))→Ls W' v (dig (a * y)):=fun W W' v g h=>h.kp g
 have py:0 < y:=by omega
 have pb:0 < b:=by omega
 have key:∀ u v:Nat,0 < v→0 < u→0 < u * v:=fun u v h1 h2=>Nat.mul_pos h2 h1
 obtain ⟨A9,hA9⟩:∃ A9,A9 = a * y:=⟨_,rfl⟩
 obtain ⟨X9,hX9⟩:∃ X9,X9 = x * b:=⟨_,rfl⟩
 have eA:rvI s a * (y:Int) = rvI s A9:=by unfold rvI;rw [hA9];cases s <;> simp [Int.neg_mul]
 have eX:rvI s2 x * (b:Int) = rvI s2 X9:=by unfold rvI;rw [hX9];cases s2 <;> simp [Int.neg_mul]
 have zA:a = 0 ↔ A9 = 0:=by rw [hA9];constructor <;> intro h;rw [h];simp;rcases Nat.mul_eq_zero.1 h with h | h;exact h;omega
 have zX:x = 0 ↔ X9 = 0:=by rw [hX9];constructor <;> intro h;rw [h];simp;rcases Nat.mul_eq_zero.1 h with h | h;exact h;omega
 rw [eA,eX]
 rw [← hA9] at hT1 hC hk
 rw [← hX9] at hT2 hC
 simp only [zA] at hs1
 simp only [zX] at hs2
 obtain ⟨S,hS⟩:∃ S:Int,S = if A9 = 0 then 0 else if s then -1 else 1:=⟨_,rfl⟩
 obtain ⟨U,hU⟩:∃ U:Int,U = if X9 = 0 then 0 else if s2 then -1 else 1:=⟨_,rfl⟩
 rw [← hS] at hs1
 rw [← hU] at hs2
 have hcm:cmpN A9 X9 = cmI (A9:Int) X9:=by
  unfold cmpN cmI
  by_cases c1:A9 < X9
  ·rw [if_pos c1,if_pos (show (A9:Int) < X9 by omega)]
  ·rw [if_neg c1,if_neg (show ¬ (A9:Int) < X9 by omega)]
   by_cases c2:X9 < A9
   ·rw [if_pos c2,if_pos (show (X9:Int) < A9 by omega)]
   ·rw [if_neg c2,if_neg (show ¬ (X9:Int) < A9 by omega)]
 clear eA eX zA zX hA9 hX9 h1 h2 h3 h4
 have e1:S < U→cmI (rvI s A9) (rvI s2 X9) = -1:=fun g=>by
  rw [hS,hU] at g
  unfold cmI rvI
  rw [if_pos]
  by_cases c1:A9 = 0 <;> by_cases c2:X9 = 0 <;> cases s <;> cases s2 <;> simp [c1,c2] at g ⊢ <;> omega
 have e2:U < S→cmI (rvI s A9) (rvI s2 X9) = 1:=fun g=>by
  rw [hS,hU] at g
  have:rvI s2 X9 < rvI s A9:=by
   unfold rvI
   by_cases c1:A9 = 0 <;> by_cases c2:X9 = 0 <;> cases s <;> cases s2 <;> simp [c1,c2] at g ⊢ <;> omega
  unfold cmI
  rw [if_neg (by omega),if_pos this]
 rcases Int.lt_trichotomy S U with g | g | g
 ·rw [e1 g]
  exact rcmpL_ S U s p l c q k d s2 p2 l2 c2 q2 k2 d2 w hs1 hs2 g
 ·rw [← g] at hs2
  by_cases z:A9 = 0
  ·have zU:X9 = 0:=by
    rw [hS,hU,if_pos z] at g
    by_cases c2:X9 = 0
    ·exact c2
    ·rw [if_neg c2] at g;cases s2 <;> simp at g
   have e3:cmI (rvI s A9) (rvI s2 X9) = 0:=by rw [z,zU];cases s <;> cases s2 <;> rfl
   rw [e3]
   exact rcmpZ_ S _ _ _ s p l c q k d s2 p2 l2 c2 q2 k2 d2 w hk hs1 hs2 hT1 hT2 hC (by rw [hS,if_pos z];rfl)
  ·have zS:(S == 0) = false:=by rw [hS,if_neg z];cases s <;> rfl
   have ss:s = s2:=by
    rw [hS,hU,if_neg z] at g
    by_cases c2:X9 = 0
    ·rw [if_pos c2] at g;cases s <;> simp at g
    ·rw [if_neg c2] at g;cases s <;> cases s2 <;> simp at g ⊢
   subst ss
   cases s
   ·have e3:cmI (rvI false A9) (rvI false X9) = cmpN A9 X9:=hcm.symm
    rw [e3]
    exact rcmpP_ S _ _ _ p l c q k d false p2 l2 c2 q2 k2 d2 w hk hs1 hs2 hT1 hT2 hC zS
   ·have e3:cmI (rvI true A9) (rvI true X9) = - cmpN A9 X9:=by
     rw [hcm];unfold cmI rvI
     by_cases c1:A9 < X9
     ·rw [if_neg (by simp;omega),if_pos (by simp;omega),if_pos (by omega)];rfl
     ·by_cases c2:X9 < A9
      ·rw [if_pos (by simp;omega),if_neg (by omega),if_pos (by omega)]
      ·rw [if_neg (by simp;omega),if_neg (by simp;omega),if_neg (by omega),if_neg (by omega)];rfl
    have wr:IntKind.i64.wrap (-(cmpN A9 X9)) = -(cmpN A9 X9):=by
     rw [hcm];unfold cmI
     by_cases c1:(A9:Int) < X9
     ·rw [if_pos c1];decide +kernel
     ·rw [if_neg c1]
      by_cases c2:(X9:Int) < A9
      ·rw [if_pos c2];decide +kernel
      ·rw [if_neg c2];decide +kernel
    rw [e3]
    exact rcmpN_ S _ _ _ p l c q k d true p2 l2 c2 q2 k2 d2 w hk hs1 hs2 hT1 hT2 hC zS wr
 ·rw [e2 g]
  exact rcmpG_ S U s p l c q k d s2 p2 l2 c2 q2 k2 d2 w hs1 hs2 g
theorem xcmp_ (B1 B2:Nat) (V V':Int) (C C' N N':Nat) (hN:N≤3100000) (hN':N'≤3100000) s p l c q k d s2 p2 l2 c2 q2 k2 d2 (w:World) (h1:XP B1 w s p l c q k d V C N) (h2:XP B2 w s2 p2 l2 c2 q2 k2 d2 V' C' N'):Calls Tryz.prog 33 #[.agg #[.bool s,.slice p l c,.slice q k d],.agg #[.bool s2,.slice p2 l2 c2,.slice q2 k2 d2]] w fun e w'=>e = .returned (.int .i64 (cmI (V * (C':Int)) (V' * (C:Int))))∧Kp w w':=by
 obtain ⟨a,b,o1,o2,zb,zc,i1,j1,j2⟩:=h1
 obtain ⟨x,y,o3,o4,zy,zc',i2,j3,j4⟩:=h2
 have h:=rcmpW6_ s p l c q k d s2 p2 l2 c2 q2 k2 d2 a b x y B1 B2 w o1 o2 o3 o4 zb zy (by omega) (by omega) (by omega) (by omega)
 have e:cmI (rvI s a * (y:Int)) (rvI s2 x * (b:Int)) = cmI (V * (C':Int)) (V' * (C:Int)):=by
  have pk:(0:Int) < (C:Int) * (C':Int):=Int.mul_pos (by omega) (by omega)
  have pb:(0:Int) < (b:Int) * (y:Int):=Int.mul_pos (by omega) (by omega)
  rw [← cmI_scale _ _ _ pk,← cmI_scale (V * (C':Int)) (V' * (C:Int)) _ pb]
  have e1:rvI s a * (y:Int) * ((C:Int) * (C':Int)) = rvI s a * (C:Int) * ((y:Int) * (C':Int)):=by ac_rfl
  have e2:rvI s2 x * (b:Int) * ((C:Int) * (C':Int)) = rvI s2 x * (C':Int) * ((b:Int) * (C:Int)):=by ac_rfl
  rw [e1,e2,i1,i2]
  have e3:V * (b:Int) * ((y:Int) * (C':Int)) = V * (C':Int) * ((b:Int) * (y:Int)):=by ac_rfl
  have e4:V' * (y:Int) * ((b:Int) * (C:Int)) = V' * (C:Int) * ((b:Int) * (y:Int)):=by ac_rfl
  rw [e3,e4]
 rw [e] at h
 exact h
theorem XF.quo (s s' ng:Bool) (a1 a2 b1 b2 a' b':Nat) (V:Int) (U:Nat) (t:Bool) (C C' N N' M:Nat) (h1:XF s a1 a2 V C N) (h2:XF s' b1 b2 (rvI t U) C' N') (hU:U≠0) (hb:b'≠0) (h:rvI ng a' * ((a2:Int) * (b1:Int)) = rvI (s ^^ s') (a1 * b2) * (b':Int)) (m1:blen a'≤M) (m2:blen b'≤M):XF ng a' b' (rvI t 1 * V * (C':Int)) (C * U) M:=by
 obtain ⟨za,zc,i1,-,-⟩:=h1
 obtain ⟨zb,zc',i2,-,-⟩:=h2
 have hU':(0:Int) < (U:Int):=by omega
 have hC':(0:Int) < (C':Int):=by omega
 have hb2:(0:Int) < (b2:Int):=by omega
 have q1:(0:Int) < (U:Int) * (b2:Int):=Int.mul_pos hU' hb2
 have key:s' = t∧(b1:Int) * (C':Int) = (U:Int) * (b2:Int):=by
  have q2:(0:Int)≤(b1:Int) * (C':Int):=Int.mul_nonneg (by omega) (by omega)
  unfold rvI at i2
  cases s' <;> cases t <;> simp [Int.neg_mul] at i2 ⊢ <;> omega
 obtain ⟨rfl,i3⟩:=key
 have zb1:(0:Int) < (b1:Int):=by
  rcases Nat.eq_zero_or_pos b1 with z | z
  ·rw [z] at i3;simp at i3;omega
  ·omega
 refine ⟨hb,Nat.mul_ne_zero zc hU, ?_,m1,m2⟩
 have pn:(a2:Int) * (b1:Int)≠0:=by have:(0:Int) < (a2:Int) * (b1:Int):=Int.mul_pos (by omega) (by omega);omega
 refine Int.eq_of_mul_eq_mul_right pn ?_
 refine Int.eq_of_mul_eq_mul_right (show (b2:Int)≠0 by omega) ?_
 rw [Int.natCast_mul]
 have e0:rvI (s ^^ s') (a1 * b2) = rvI s' 1 * (rvI s a1 * (b2:Int)):=by unfold rvI;cases s <;> cases s' <;> simp [Int.neg_mul]
 have e1:rvI ng a' * ((C:Int) * (U:Int)) * ((a2:Int) * (b1:Int)) * (b2:Int) = rvI ng a' * ((a2:Int) * (b1:Int)) * ((C:Int) * ((U:Int) * (b2:Int))):=by ac_rfl
 rw [e1,h,← i3,e0]
 have e2:rvI s' 1 * (rvI s a1 * (b2:Int)) * (b':Int) * ((C:Int) * ((b1:Int) * (C':Int))) = (rvI s a1 * (C:Int)) * (rvI s' 1 * (b2:Int) * (b':Int) * (b1:Int) * (C':Int)):=by ac_rfl
 rw [e2,i1];ac_rfl

theorem XP.setNe {base:Nat} {w:World} {s:Bool} {p:Option Addr} {l c:Nat} {q:Option Addr} {k d:Nat} {V:Int} {C N:Nat} (h:XP base w s p l c q k d V C N) {x:Addr} (hx:NB p q x.block) (u:Value):XP base (w.setCell x u) s p l c q k d V C N:=by
 obtain ⟨a,b,h1,h2,h3⟩:=h
 exact ⟨a,b,h1.setNe hx.1 u,h2.setNe hx.2 u,h3⟩
set_option linter.unusedVariables false
set_option linter.unusedSimpArgs false
theorem xneg_ (V:Int) (C N:Nat) (hN:N≤3100000) s p l c q k d (B1:Nat) (w:World) (h:XP B1 w s p l c q k d V C N):Calls Tryz.prog 34 #[.agg #[.bool s,.slice p l c,.slice q k d]] w fun e w'=>∃ s2 p2 l2 c2 q2 k2 d2,e = .returned (.agg #[.bool s2,.slice p2 l2 c2,.slice q2 k2 d2])∧XP w.heap.size w' s2 p2 l2 c2 q2 k2 d2 (-V) C N∧Kp w w':=by
 obtain ⟨a,b,u1,u2,u3⟩:=h
 have hl:l = (dig a).length:=by
  obtain ⟨P1,C1,e1,-,-⟩:=u1.arr
  injection e1
 have key:∀ (s2:Bool),(a≠0→s2 = !s)→XF s2 a b (-V) C N:=by
  intro s2 hs
  obtain ⟨f1,f2,f3,f4,f5⟩:=u3
  refine ⟨f1,f2, ?_,f4,f5⟩
  rw [Int.neg_mul,← f3,← Int.neg_mul]
  congr 1
  by_cases z:a = 0
  ·rw [z];unfold rvI;cases s <;> cases s2 <;> simp
  ·rw [hs z];unfold rvI;cases s <;> simp
 have hl0:a≠0→0 < l:=fun h0=>by
  rw [hl]
  rcases Nat.eq_zero_or_pos (dig a).length with z | z
  ·have:=List.eq_nil_of_length_eq_zero z
   have e:=val_dig a
   rw [this] at e
   exact absurd e.symm h0
  ·exact z
 have u1:=u1.mono (Nat.zero_le B1)
 have u2:=u2.mono (Nat.zero_le B1)
 have n1:blen a≤3100000:=by have:=u3.2.2.2.1;omega
 have n2:blen b≤3100000:=by have:=u3.2.2.2.2;omega
 cases s
 ·by_cases t1:0 < l
  ·refine (rnegXP_ p l c q k d a b w u1 u2 n1 n2 t1).mono ?_
   rintro e w' ⟨p2,l2,c2,q2,k2,d2,rfl,o1,o2,g⟩
   exact ⟨true,p2,l2,c2,q2,k2,d2,rfl,⟨a,b,o1,o2,key true (fun _=>rfl)⟩,g⟩
  ·refine (rnegXZ_ p l c q k d a b w u1 u2 n1 n2 t1).mono ?_
   rintro e w' ⟨p2,l2,c2,q2,k2,d2,rfl,o1,o2,g⟩
   exact ⟨false,p2,l2,c2,q2,k2,d2,rfl,⟨a,b,o1,o2,key false (fun h0=>absurd (hl0 h0) t1)⟩,g⟩
 ·refine (rnegXT_ p l c q k d a b w u1 u2 n1 n2).mono ?_
  rintro e w' ⟨p2,l2,c2,q2,k2,d2,rfl,o1,o2,g⟩
  exact ⟨false,p2,l2,c2,q2,k2,d2,rfl,⟨a,b,o1,o2,key false (fun _=>rfl)⟩,g⟩
theorem rsignP_ (n:Bool) (m:Nat) s p l c q k d (B1:Nat) (w:World) (h:RP B1 w s p l c q k d n m):Calls Tryz.prog 30 #[.agg #[.bool s,.slice p l c,.slice q k d]] w fun e w'=>e = .returned (.int .i64 (cmI (Iv n m) 0))∧Kp w w':=by
 obtain ⟨a,b,u1,u2,u3⟩:=h
 obtain ⟨K,hK⟩:∃ K:Nat,K = 1074:=⟨_,rfl⟩
 obtain ⟨f1,f2,f3,f4,f5⟩:=u3 K hK
 have h:=rsign_ s (.slice p l c) (.slice q k d) a w u1.ls (by omega)
 have hz:a = 0 ↔ Fq.vV Ieee.double m = 0:=by
  have hp:=Nat.two_pow_pos K
  constructor
  ·intro h0;rw [h0,Nat.zero_mul] at f2
   rcases Nat.mul_eq_zero.1 f2.symm with h1 | h1 <;> omega
  ·intro h0;rw [h0,Nat.zero_mul] at f2
   rcases Nat.mul_eq_zero.1 f2 with h1 | h1
   ·exact h1
   ·omega
 have e:(if a = 0 then 0 else if s then (-1:Int) else 1) = cmI (Iv n m) 0:=by
  rw [f3]
  by_cases z:a = 0
  ·rw [if_pos z,hz.1 z];cases s <;> rfl
  ·have zp:0 < Fq.vV Ieee.double m:=by rcases Nat.eq_zero_or_pos (Fq.vV Ieee.double m) with h | h;exact absurd (hz.2 h) z;exact h
   rw [if_neg z]
   cases s
   ·rw [if_neg (by decide),if_neg (by decide),cmI_gt _ _ (by omega)]
   ·rw [if_pos rfl,if_pos rfl,cmI_lt _ _ (by omega)]
 rw [e] at h
 exact h
theorem signE_ (n:Bool) (m:Nat) s p l c q k d (B1:Nat) (w:World) (h:RP B1 w s p l c q k d (fN n m) (fM m)):Calls Tryz.prog 130 #[.agg #[.int .i64 (infS n m),.bool s,.slice p l c,.slice q k d]] w fun e w'=>e = .returned (.int .i64 (cmI (Fq.plz n m) 0))∧Kp w w':=by
 have z0:cmI (Fq.plz n m) 0 = cmI (Fq.plz n m) (Fq.plz false 0):=rfl
 by_cases c1:m = 9218868437227405312
 ·have e1:infS n m = if n then -1 else 1:=by unfold infS;rw [if_pos c1]
  rw [e1]
  have P1:Fq.plz n m = if n then -(m:Int) else m:=by unfold Fq.plz;cases n <;> rfl
  cases n
  ·rw [cmI_gt _ _ (by rw [P1];simp;omega)];exact signI_ 1 s p l c q k d (by decide) w
  ·rw [cmI_lt _ _ (by rw [P1];simp;omega)];exact signI_ (-1) s p l c q k d (by decide) w
 ·have e1:infS n m = 0:=by unfold infS;rw [if_neg c1]
  have f1:fN n m = n∧fM m = m:=by unfold fN fM;rw [if_neg c1,if_neg c1];exact ⟨rfl,rfl⟩
  rw [f1.1,f1.2] at h
  have iz:Iv false 0 = 0:=by unfold Iv;rw [if_neg (by decide),Fq.vV_zero];rfl
  rw [e1,z0,← cmI_iv,iz]
  exact signZ_ _ s p l c q k d w (fun W g=>rsignP_ n m s p l c q k d B1 W (h.kp g))
end Go.Proofs.YtaldmbeomdfafaaGreatDoor
