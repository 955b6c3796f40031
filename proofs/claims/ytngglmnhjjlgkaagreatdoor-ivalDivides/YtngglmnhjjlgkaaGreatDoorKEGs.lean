import Derived.Test.YtngglmnhjjlgkaaGreatDoorKEZ
set_option maxHeartbeats 1000000
set_option maxRecDepth 20000
namespace Go.Proofs.YtngglmnhjjlgkaaGreatDoor
open Go.RowKit
theorem leastP_ (i j:Int) (ZA ZB:Int→Nat) s p l c q k d s2 p2 l2 c2 q2 k2 d2 (B1 B2:Nat) (w:World) (h1:i = 0→QP B1 w s p l c q k d ZA) (h2:j = 0→QP B2 w s2 p2 l2 c2 q2 k2 d2 ZB):Calls Tryz.prog 23 #[.agg #[.bool false,.int .i64 i,.bool s,.slice p l c,.slice q k d,.int .i64 j,.bool s2,.slice p2 l2 c2,.slice q2 k2 d2]] w fun e w'=>e = .returned (.agg #[.int .u64 ((if i = 0 then ZA (-1) else 18442240474082181120:Nat):Int),.int .u64 ((if j = 0 then ZB 1 else 9218868437227405312:Nat):Int)])∧Kp w w':=by
 by_cases e1:i = 0
 ·have g1:=h1 e1
  rw [if_pos e1]
  by_cases e2:j = 0
  ·have g2:=h2 e2
   rw [if_pos e2]
   subst e1 e2
   exact leastFF_ _ _ s p l c q k d s2 p2 l2 c2 q2 k2 d2 w (fun W g=>qbits_ s p l c q k d ZA (-1) B1 W (g1.kp g)) (fun W g=>qbits_ s2 p2 l2 c2 q2 k2 d2 ZB 1 B2 W (g2.kp g))
  ·rw [if_neg e2]
   subst e1
   exact leastFN_ _ j (by simpa using e2) s p l c q k d s2 p2 l2 c2 q2 k2 d2 w (fun W g=>qbits_ s p l c q k d ZA (-1) B1 W (g1.kp g))
 ·rw [if_neg e1]
  by_cases e2:j = 0
  ·have g2:=h2 e2
   rw [if_pos e2]
   subst e2
   exact leastNF_ i (by simpa using e1) _ s p l c q k d s2 p2 l2 c2 q2 k2 d2 w (fun W g=>qbits_ s2 p2 l2 c2 q2 k2 d2 ZB 1 B2 W (g2.kp g))
  ·rw [if_neg e2]
   exact leastNN_ i (by simpa using e1) j (by simpa using e2) s p l c q k d s2 p2 l2 c2 q2 k2 d2 w
theorem leastN_ (W:World) (v:Value) (h:SV0 true v):Calls Tryz.prog 23 #[v] W fun e w'=>e = .returned (.agg #[.int .u64 9218868437227405312,.int .u64 18442240474082181120])∧Kp W w':=by
 obtain ⟨i,j,s,p,l,c,q,k,d,s2,p2,l2,c2,q2,k2,d2,rfl⟩:=h
 exact leastE_ i j s p l c q k d s2 p2 l2 c2 q2 k2 d2 W
theorem of0_ (a b:Nat) (ha:a < 18446744073709551616) (hb:b < 18446744073709551616) (w:World):Calls Tryz.prog 25 #[.agg #[.int .u64 ((a:Nat):Int),.int .u64 ((b:Nat):Int)]] w fun e w'=>∃ v,e = .returned v∧SV0 (!(Fq.snd a b)) v∧Kp w w':=by
 by_cases hs:Fq.snd a b = true
 ·obtain ⟨n,m,hm,e1⟩:=rlo_w a b ha hb
  obtain ⟨n',m',hm',e2⟩:=rhi_w a b ha hb
  refine (ofSound_ a b ha hb hs n n' m m' hm hm' e1 e2 w).mono ?_
  rintro e w' ⟨v,rfl,h,g⟩
  rw [hs]
  exact ⟨v,rfl,h.sv0,g⟩
 ·have hs:Fq.snd a b = false:=by simpa using hs
  rw [hs]
  exact ofEmpty_ a b ha hb hs w
theorem timesX_ (N M:Bool) (hNM:N = true∨M = true) (W:World) (u v:Value) (h1:SV0 N u) (h2:SV0 M v):Calls Tryz.prog 31 #[u,v] W fun e w'=>∃ v',e = .returned v'∧SV0 true v'∧Kp W w':=by
 obtain ⟨i,j,s,p,l,c,q,k,d,s2,p2,l2,c2,q2,k2,d2,rfl⟩:=h1
 obtain ⟨i2,j2,s3,p3,l3,c3,q3,k3,d3,s4,p4,l4,c4,q4,k4,d4,rfl⟩:=h2
 cases N
 ·have hM:M = true:=by simpa using hNM
  subst hM
  refine (timesE2_ i j i2 j2 s p l c q k d s2 p2 l2 c2 q2 k2 d2 s3 p3 l3 c3 q3 k3 d3 s4 p4 l4 c4 q4 k4 d4 W).mono ?_
  rintro e w' ⟨s5,p5,l5,c5,q5,k5,d5,s6,p6,l6,c6,q6,k6,d6,rfl,g⟩
  exact ⟨_,rfl,⟨0,0,s5,p5,l5,c5,q5,k5,d5,s6,p6,l6,c6,q6,k6,d6,rfl⟩,g⟩
 ·refine (timesE1_ i j i2 j2 M s p l c q k d s2 p2 l2 c2 q2 k2 d2 s3 p3 l3 c3 q3 k3 d3 s4 p4 l4 c4 q4 k4 d4 W).mono ?_
  rintro e w' ⟨s5,p5,l5,c5,q5,k5,d5,s6,p6,l6,c6,q6,k6,d6,rfl,g⟩
  exact ⟨_,rfl,⟨0,0,s5,p5,l5,c5,q5,k5,d5,s6,p6,l6,c6,q6,k6,d6,rfl⟩,g⟩

set_option linter.unusedVariables false
def pz (z:Int):Nat:=Fq.wD (decide (z < 0)) z.natAbs
def g53 (d:Int) (c1 c2:Nat) (V:Int):Int:=gpl 53 2098 9218868437227405311 9218868437227405312 d c1 c2 V
theorem g53_mono (d:Int) (c1 c2:Nat) (hc:0 < c2) (V V':Int) (h:V≤V'):g53 d c1 c2 V≤g53 d c1 c2 V':=gpl_mono 53 2098 9218868437227405311 9218868437227405312 d c1 c2 hc (by decide) (by decide) (by decide) (by decide) V V' h
theorem g53_le (d:Int) (c1 c2:Nat) (V:Int):-9218868437227405312≤g53 d c1 c2 V∧g53 d c1 c2 V≤9218868437227405312:=gpl_le 53 2098 9218868437227405311 9218868437227405312 d c1 c2 (by decide) (by decide) (by decide) (by decide) V
theorem mdW_pz (s:Bool) (M:Nat):mdW s M = pz (if s then -(M:Int) else M):=by
 unfold mdW pz Fq.wD
 by_cases z:M = 0
 ·rw [if_pos z,z];cases s <;> simp
 ·rw [if_neg z]
  cases s
  ·simp <;> omega
  ·simp <;> omega
theorem rV_pos (d:Int) (A B K:Nat):rV d 53 A B (K:Int) = rU d 53 (A * 2 ^ K) B:=by
 unfold rV
 rw [show ((K:Int)).toNat = K from by omega,show (-(K:Int)).toNat = 0 from by omega,Nat.pow_zero,Nat.mul_one]
theorem divW_g (K:Nat) (hK:K = 1074) (d:Int) (n:Bool) (m B:Nat):divW d (n ^^ false) (Fq.vV Ieee.double m) B = pz (g53 d (2 ^ K) B (Iv n m)):=by
 rw [show (n ^^ false) = n from by cases n <;> rfl]
 unfold divW g53 gpl
 rw [show (1074:Int) = (K:Int) from by omega]
 have e:Iv n m = if n then -((Fq.vV Ieee.double m:Nat):Int) else ((Fq.vV Ieee.double m:Nat):Int):=by unfold Iv;cases n <;> rfl
 rw [e]
 generalize Fq.vV Ieee.double m = P
 by_cases z:P = 0
 ·rw [if_pos z,z,if_pos (by cases n <;> rfl)];rfl
 ·rw [if_neg z,if_neg (by cases n <;> simp <;> omega),mdW_pz,rV_pos]
  cases n
  ·simp only [Bool.false_eq_true,if_false]
   rw [if_neg (show ¬ ((P:Nat):Int) < 0 by omega),show ((P:Nat):Int).natAbs = P from by omega]
  ·simp only [if_true]
   rw [if_pos (show -((P:Nat):Int) < 0 by omega),show (-((P:Nat):Int)).natAbs = P from by omega]

set_option linter.unusedVariables false
theorem gpl_neg (p T G I:Nat) (d:Int) (c1 c2:Nat) (V:Int):gpl p T G I (-d) c1 c2 (-V) = -(gpl p T G I d c1 c2 V):=by
 unfold gpl
 have e1:dirN true (-d) = dirN false d:=by unfold dirN;simp
 have e2:dirN false (-d) = dirN true d:=by unfold dirN;simp
 rw [e1,e2,Int.natAbs_neg]
 by_cases z:V = 0
 ·rw [if_pos (show -V = 0 by omega),if_pos z];rfl
 ·rw [if_neg (show ¬ -V = 0 by omega),if_neg z]
  by_cases n:V < 0
  ·rw [if_pos n,if_neg (show ¬ -V < 0 by omega)];omega
  ·rw [if_neg n,if_pos (show -V < 0 by omega)]
theorem g53_neg (d:Int) (c1 c2:Nat) (V:Int):g53 (-d) c1 c2 (-V) = -(g53 d c1 c2 V):=gpl_neg _ _ _ _ d c1 c2 V
theorem iv_nt (n:Bool) (m:Nat):Iv (!n) m = -Iv n m:=by rw [iv_not]
def zc (o:Option Int):Nat:=match o with | none=>9221120237041090561 | some z=>pz z
def sgI (n:Bool):Int:=if n then -9218868437227405312 else 9218868437227405312
theorem sgI_not (n:Bool):sgI (!n) = -sgI n:=by cases n <;> rfl
def oD (K:Nat) (d:Int) (n:Bool) (m:Nat) (n':Bool) (m':Nat):Option Int:=if m' = 0 then (if m = 0∨9218868437227405312 < m then none else some (sgI n)) else if 9218868437227405312 < m∨9218868437227405312 < m'∨(m = 9218868437227405312∧m' = 9218868437227405312) then none else if m = 9218868437227405312 then some (sgI (n ^^ n')) else if m' = 9218868437227405312 then some 0 else some (g53 d (2 ^ K) (Fq.vV Ieee.double m') (Iv (n ^^ n') m))
def ng (o:Option Int):Option Int:=o.map (fun z=>-z)
theorem xor_not9 (n n':Bool):((!n) ^^ n') = !(n ^^ n'):=by cases n <;> cases n' <;> rfl
theorem oD_mir (K:Nat) (d:Int) (n:Bool) (m:Nat) (n':Bool) (m':Nat):oD K (-d) (!n) m n' m' = ng (oD K d n m n' m'):=by
 unfold oD
 rw [xor_not9,sgI_not,sgI_not,iv_nt,g53_neg]
 by_cases c0:m' = 0
 ·rw [if_pos c0,if_pos c0]
  by_cases c1:m = 0∨9218868437227405312 < m
  ·rw [if_pos c1,if_pos c1];rfl
  rw [if_neg c1,if_neg c1];rfl
 rw [if_neg c0,if_neg c0]
 by_cases c1:9218868437227405312 < m∨9218868437227405312 < m'∨(m = 9218868437227405312∧m' = 9218868437227405312)
 ·rw [if_pos c1,if_pos c1];rfl
 rw [if_neg c1,if_neg c1]
 by_cases c2:m = 9218868437227405312
 ·rw [if_pos c2,if_pos c2];rfl
 rw [if_neg c2,if_neg c2]
 by_cases c3:m' = 9218868437227405312
 ·rw [if_pos c3,if_pos c3];rfl
 rw [if_neg c3,if_neg c3];rfl
theorem sgI_le (n:Bool):-9218868437227405312≤sgI n∧sgI n≤9218868437227405312:=by cases n <;> decide
def okO (o:Option Int):Prop:=∀ z,o = some z→-9218868437227405312≤z∧z≤9218868437227405312
theorem ok_some (z:Int) (h:-9218868437227405312≤z∧z≤9218868437227405312):okO (some z):=fun y e=>by cases e;exact h
theorem ok_none:okO none:=fun y e=>by cases e
theorem okD (K:Nat) (d:Int) (n:Bool) (m:Nat) (n':Bool) (m':Nat):okO (oD K d n m n' m'):=by
 unfold oD
 split
 ·split
  ·exact ok_none
  ·exact ok_some _ (sgI_le _)
 ·split
  ·exact ok_none
  ·split
   ·exact ok_some _ (sgI_le _)
   ·split
    ·exact ok_some _ (by decide)
    ·exact ok_some _ (g53_le _ _ _ _)
theorem wD_sg (n:Bool):Fq.wD n 9218868437227405312 = pz (sgI n):=by cases n <;> decide

def H4c (w:World) (b:Nat) (v0 v1 v2 v3:Value):Prop:=w.cell? ⟨b,0,none⟩ = some v0∧w.cell? ⟨b,1,none⟩ = some v1∧w.cell? ⟨b,2,none⟩ = some v2∧w.cell? ⟨b,3,none⟩ = some v3∧w.frozen? ⟨b,0,none⟩ = false∧w.frozen? ⟨b,1,none⟩ = false∧w.frozen? ⟨b,2,none⟩ = false∧w.frozen? ⟨b,3,none⟩ = false
theorem H4c.keep {W w:World} {b:Nat} {v0 v1 v2 v3:Value} (h:H4c W b v0 v1 v2 v3) (g:Kp W w):H4c w b v0 v1 v2 v3:=by
 obtain ⟨h0,h1,h2,h3,h4,h5,h6,h7⟩:=h
 exact ⟨kkeep g h0,kkeep g h1,kkeep g h2,kkeep g h3,(kfro g (cell_lt h0)).trans h4,(kfro g (cell_lt h0)).trans h5,(kfro g (cell_lt h0)).trans h6,(kfro g (cell_lt h0)).trans h7⟩
theorem H4c.new (w:World) (v0 v1 v2 v3:Value) (t:TypeId):H4c (w.alloc (.cells #[v0,v1,v2,v3] t)) w.heap.size v0 v1 v2 v3:=by
 unfold H4c;simp [go_sem]
theorem H4c.lt {w:World} {b:Nat} {v0 v1 v2 v3:Value} (h:H4c w b v0 v1 v2 v3):b < w.heap.size:=cell_lt h.1
theorem H4c.put {w:World} {b:Nat} {v0 v1 v2 v3:Value} (h:H4c w b v0 v1 v2 v3) (u0 u1 u2 u3:Value):H4c (((((w.setCell ⟨b,0,none⟩ u0).setCell ⟨b,1,none⟩ u1).setCell ⟨b,2,none⟩ u2).setCell ⟨b,3,none⟩ u3)) b u0 u1 u2 u3:=by
 obtain ⟨h0,h1,h2,h3,h4,h5,h6,h7⟩:=h
 unfold H4c;simp [go_sem,h0,h1,h2,h3,h4,h5,h6,h7]
theorem H4c.far1 {w:World} {b:Nat} {v0 v1 v2 v3:Value} (h:H4c w b v0 v1 v2 v3) (x:Addr) (hne:x.block≠b) (u:Value):H4c (w.setCell x u) b v0 v1 v2 v3:=by
 obtain ⟨h0,h1,h2,h3,h4,h5,h6,h7⟩:=h
 exact ⟨(CF _ _ _ _ hne).trans h0,(CF _ _ _ _ hne).trans h1,(CF _ _ _ _ hne).trans h2,(CF _ _ _ _ hne).trans h3,(World.frozen?_setCell _ _ _ _).trans h4,(World.frozen?_setCell _ _ _ _).trans h5,(World.frozen?_setCell _ _ _ _).trans h6,(World.frozen?_setCell _ _ _ _).trans h7⟩

set_option linter.unusedVariables false
def NB (p q:Option Addr) (b:Nat):Prop:=(∀ a,p = some a→a.block≠b)∧(∀ a,q = some a→a.block≠b)
theorem Own.setNe {w:World} {base:Nat} {p:Option Addr} {l c:Nat} {xs:List Int} (h:Own w base (.slice p l c) xs) {x:Addr} (hx:∀ a,p = some a→a.block≠x.block) (u:Value):Own (w.setCell x u) base (.slice p l c) xs:=by
 refine ownsRow_setCell_other h ?_ u
 cases p with
 | none=>simp [Value.ownBlock]
 | some a=>simpa [Value.ownBlock] using hx a rfl
theorem Own.blk {w:World} {base:Nat} {p:Option Addr} {l c:Nat} {xs:List Int} (h:Own w base (.slice p l c) xs):∀ a,p = some a→base≤a.block∧a.block < w.heap.size:=by
 intro a ha
 rcases h.2 with ⟨h1,-⟩ | ⟨g,cap,cur,h1,h2,h3,-⟩
 ·simp at h1;rw [h1.1] at ha;cases ha
 ·simp at h1
  rw [h1.1] at ha
  obtain rfl:=Option.some.inj ha
  refine ⟨h2, ?_⟩
  exact lt_of_block h3
theorem RP.setNe {base:Nat} {w:World} {s:Bool} {p:Option Addr} {l c:Nat} {q:Option Addr} {k d:Nat} {n:Bool} {m:Nat} (h:RP base w s p l c q k d n m) {x:Addr} (hx:NB p q x.block) (u:Value):RP base (w.setCell x u) s p l c q k d n m:=by
 obtain ⟨a,b,h1,h2,h3⟩:=h
 exact ⟨a,b,h1.setNe hx.1 u,h2.setNe hx.2 u,h3⟩
theorem RP.nought {base:Nat} {w:World} {s:Bool} {p:Option Addr} {l c:Nat} {q:Option Addr} {k d:Nat} {n:Bool} (h:RP base w s p l c q k d n 0) (n':Bool):RP base w s p l c q k d n' 0:=by
 obtain ⟨a,b,h1,h2,h3⟩:=h
 refine ⟨a,b,h1,h2,fun K hK=>?_⟩
 obtain ⟨f1,f2,f3,f4,f5⟩:=h3 K hK
 exact ⟨f1,f2,by rw [← f3];unfold Iv;rw [Fq.vV_zero];cases n <;> cases n' <;> rfl,f4,f5⟩
theorem RP.nbLow {base:Nat} {w:World} {s:Bool} {p:Option Addr} {l c:Nat} {q:Option Addr} {k d:Nat} {n:Bool} {m:Nat} (h:RP base w s p l c q k d n m) {b:Nat} (hb:b < base):NB p q b:=by
 obtain ⟨x,y,h1,h2,-⟩:=h
 exact ⟨fun a ha=>by have:=(h1.blk a ha).1;omega,fun a ha=>by have:=(h2.blk a ha).1;omega⟩

def H9c (w:World) (b:Nat) (v0 v1 v2 v3 v4 v5 v6 v7 v8:Value):Prop:=w.cell? ⟨b,0,none⟩ = some v0∧w.cell? ⟨b,1,none⟩ = some v1∧w.cell? ⟨b,2,none⟩ = some v2∧w.cell? ⟨b,3,none⟩ = some v3∧w.cell? ⟨b,4,none⟩ = some v4∧w.cell? ⟨b,5,none⟩ = some v5∧w.cell? ⟨b,6,none⟩ = some v6∧w.cell? ⟨b,7,none⟩ = some v7∧w.cell? ⟨b,8,none⟩ = some v8∧w.frozen? ⟨b,0,none⟩ = false∧w.frozen? ⟨b,1,none⟩ = false∧w.frozen? ⟨b,2,none⟩ = false∧w.frozen? ⟨b,3,none⟩ = false∧w.frozen? ⟨b,4,none⟩ = false∧w.frozen? ⟨b,5,none⟩ = false∧w.frozen? ⟨b,6,none⟩ = false∧w.frozen? ⟨b,7,none⟩ = false∧w.frozen? ⟨b,8,none⟩ = false
theorem H9c.keep {W w:World} {b:Nat} {v0 v1 v2 v3 v4 v5 v6 v7 v8:Value} (h:H9c W b v0 v1 v2 v3 v4 v5 v6 v7 v8) (g:Kp W w):H9c w b v0 v1 v2 v3 v4 v5 v6 v7 v8:=by
 obtain ⟨h0,h1,h2,h3,h4,h5,h6,h7,h8,h9,h10,h11,h12,h13,h14,h15,h16,h17⟩:=h
 exact ⟨kkeep g h0,kkeep g h1,kkeep g h2,kkeep g h3,kkeep g h4,kkeep g h5,kkeep g h6,kkeep g h7,kkeep g h8,(kfro g (cell_lt h0)).trans h9,(kfro g (cell_lt h0)).trans h10,(kfro g (cell_lt h0)).trans h11,(kfro g (cell_lt h0)).trans h12,(kfro g (cell_lt h0)).trans h13,(kfro g (cell_lt h0)).trans h14,(kfro g (cell_lt h0)).trans h15,(kfro g (cell_lt h0)).trans h16,(kfro g (cell_lt h0)).trans h17⟩
theorem H9c.new (w:World) (v0 v1 v2 v3 v4 v5 v6 v7 v8:Value) (t:TypeId):H9c (w.alloc (.cells #[v0,v1,v2,v3,v4,v5,v6,v7,v8] t)) w.heap.size v0 v1 v2 v3 v4 v5 v6 v7 v8:=by
 unfold H9c;simp [go_sem]
theorem H9c.lt {w:World} {b:Nat} {v0 v1 v2 v3 v4 v5 v6 v7 v8:Value} (h:H9c w b v0 v1 v2 v3 v4 v5 v6 v7 v8):b < w.heap.size:=cell_lt h.1
theorem H9c.put {w:World} {b:Nat} {v0 v1 v2 v3 v4 v5 v6 v7 v8:Value} (h:H9c w b v0 v1 v2 v3 v4 v5 v6 v7 v8) (u0 u1 u2 u3 u4 u5 u6 u7 u8:Value):H9c ((((((((((w.setCell ⟨b,0,none⟩ u0).setCell ⟨b,1,none⟩ u1).setCell ⟨b,2,none⟩ u2).setCell ⟨b,3,none⟩ u3).setCell ⟨b,4,none⟩ u4).setCell ⟨b,5,none⟩ u5).setCell ⟨b,6,none⟩ u6).setCell ⟨b,7,none⟩ u7).setCell ⟨b,8,none⟩ u8)) b u0 u1 u2 u3 u4 u5 u6 u7 u8:=by
 obtain ⟨h0,h1,h2,h3,h4,h5,h6,h7,h8,h9,h10,h11,h12,h13,h14,h15,h16,h17⟩:=h
 unfold H9c;simp [go_sem,h0,h1,h2,h3,h4,h5,h6,h7,h8,h9,h10,h11,h12,h13,h14,h15,h16,h17]
theorem H9c.far1 {w:World} {b:Nat} {v0 v1 v2 v3 v4 v5 v6 v7 v8:Value} (h:H9c w b v0 v1 v2 v3 v4 v5 v6 v7 v8) (x:Addr) (hne:x.block≠b) (u:Value):H9c (w.setCell x u) b v0 v1 v2 v3 v4 v5 v6 v7 v8:=by
 obtain ⟨h0,h1,h2,h3,h4,h5,h6,h7,h8,h9,h10,h11,h12,h13,h14,h15,h16,h17⟩:=h
 exact ⟨(CF _ _ _ _ hne).trans h0,(CF _ _ _ _ hne).trans h1,(CF _ _ _ _ hne).trans h2,(CF _ _ _ _ hne).trans h3,(CF _ _ _ _ hne).trans h4,(CF _ _ _ _ hne).trans h5,(CF _ _ _ _ hne).trans h6,(CF _ _ _ _ hne).trans h7,(CF _ _ _ _ hne).trans h8,(World.frozen?_setCell _ _ _ _).trans h9,(World.frozen?_setCell _ _ _ _).trans h10,(World.frozen?_setCell _ _ _ _).trans h11,(World.frozen?_setCell _ _ _ _).trans h12,(World.frozen?_setCell _ _ _ _).trans h13,(World.frozen?_setCell _ _ _ _).trans h14,(World.frozen?_setCell _ _ _ _).trans h15,(World.frozen?_setCell _ _ _ _).trans h16,(World.frozen?_setCell _ _ _ _).trans h17⟩

def pw (z:Int):Nat:=Fq.wD (decide (z < 0)) z.natAbs
def BdZ (z:Int):Prop:=-9218868437227405312≤z∧z≤9218868437227405312
theorem plz_pw (z:Int):Fq.plz (decide (z < 0)) z.natAbs = z:=by
 unfold Fq.plz
 by_cases c:z < 0 <;> simp [c] <;> omega
theorem abs_pw (z:Int) (h:BdZ z):z.natAbs≤9218868437227405312:=by unfold BdZ at h;omega
theorem pw_lt (z:Int) (h:BdZ z):pw z < 18446744073709551616:=by
 have:=abs_pw z h
 unfold pw Fq.wD;split <;> omega
theorem pw_ne (z:Int) (h:BdZ z):pw z≠9223372036854775808:=by
 have h2:=abs_pw z h
 unfold pw Fq.wD
 by_cases c:z < 0 <;> simp [c] <;> omega
theorem pla_pw (z:Int) (h:BdZ z):Fq.pla (pw z) = pw z:=by unfold Fq.pla;rw [if_neg (pw_ne z h)]
theorem pw_I:pw 9218868437227405312 = 9218868437227405312:=by decide
theorem pw_MI:pw (-9218868437227405312) = 18442240474082181120:=by decide
theorem ord_pw (x y:Int) (hx:BdZ x) (hy:BdZ y):FloatKind.f64.format.order (pw x) (pw y) = some (compare x y):=by
 have h:=Fq.ordD (decide (x < 0)) (decide (y < 0)) x.natAbs y.natAbs (abs_pw x hx) (abs_pw y hy)
 rw [plz_pw,plz_pw] at h
 exact h
theorem plt9 (x y:Int) (hx:BdZ x) (hy:BdZ y):(FloatKind.f64.format.order (pw x) (pw y) == some Ordering.lt) = decide (x < y):=by
 rw [ord_pw x y hx hy]
 rcases Int.lt_trichotomy x y with g | g | g
 ·rw [Fq.cmp_lt g,decide_eq_true g];rfl
 ·rw [Fq.cmp_eq g,decide_eq_false (by omega)];rfl
 ·rw [Fq.cmp_gt g,decide_eq_false (by omega)];rfl
theorem pgt9 (x y:Int) (hx:BdZ x) (hy:BdZ y):(FloatKind.f64.format.order (pw x) (pw y) == some Ordering.gt) = decide (y < x):=by
 rw [ord_pw x y hx hy]
 rcases Int.lt_trichotomy x y with g | g | g
 ·rw [Fq.cmp_lt g,decide_eq_false (by omega)];rfl
 ·rw [Fq.cmp_eq g,decide_eq_false (by omega)];rfl
 ·rw [Fq.cmp_gt g,decide_eq_true g];rfl
theorem peq9 (x y:Int) (hx:BdZ x) (hy:BdZ y):(FloatKind.f64.format.order (pw x) (pw y) == some Ordering.eq) = decide (x = y):=by
 rw [ord_pw x y hx hy]
 rcases Int.lt_trichotomy x y with g | g | g
 ·rw [Fq.cmp_lt g,decide_eq_false (by omega)];rfl
 ·rw [Fq.cmp_eq g,decide_eq_true g];rfl
 ·rw [Fq.cmp_gt g,decide_eq_false (by omega)];rfl
theorem ple9 (x y:Int) (hx:BdZ x) (hy:BdZ y):(FloatKind.f64.format.order (pw x) (pw y) == some Ordering.lt || FloatKind.f64.format.order (pw x) (pw y) == some Ordering.eq) = decide (x≤y):=by
 rw [plt9 x y hx hy,peq9 x y hx hy]
 by_cases c:x < y <;> by_cases c2:x = y <;> simp [c,c2] <;> omega
theorem pge9 (x y:Int) (hx:BdZ x) (hy:BdZ y):(FloatKind.f64.format.order (pw x) (pw y) == some Ordering.gt || FloatKind.f64.format.order (pw x) (pw y) == some Ordering.eq) = decide (y≤x):=by
 rw [pgt9 x y hx hy,peq9 x y hx hy]
 by_cases c:y < x <;> by_cases c2:x = y <;> simp [c,c2] <;> omega
theorem pw_inj (x y:Int) (hx:BdZ x) (hy:BdZ y):pw x = pw y ↔ x = y:=by
 constructor
 ·intro h
  have e:=peq9 x y hx hy
  have e2:=peq9 y y hy hy
  rw [h,e2] at e
  by_cases c:x = y
  ·exact c
  ·simp [c] at e
 ·intro h;rw [h]
def VdZ (L H:Int):Prop:=(L = 9218868437227405312∧H = -9218868437227405312)∨(-9218868437227405312≤L∧L < 9218868437227405312∧-9218868437227405312 < H∧H≤9218868437227405312∧L≤H)
theorem VdZ.lo {L H:Int} (h:VdZ L H):BdZ L:=by unfold VdZ at h;unfold BdZ;omega
theorem VdZ.hi {L H:Int} (h:VdZ L H):BdZ H:=by unfold VdZ at h;unfold BdZ;omega
theorem pw_plz (n:Bool) (m:Nat) (h:Fq.wD n m≠9223372036854775808) (hm:m≤9218868437227405312):pw (Fq.plz n m) = Fq.wD n m∧BdZ (Fq.plz n m):=by
 cases n
 ·have e:Fq.plz false m = (m:Int):=by simp [Fq.plz]
  rw [e]
  refine ⟨?_,by unfold BdZ;omega⟩
  unfold pw
  rw [show decide ((m:Int) < 0) = false from decide_eq_false (by omega),show ((m:Int)).natAbs = m from by omega]
 ·have e:Fq.plz true m = -(m:Int):=by simp [Fq.plz]
  have z:m≠0:=by intro z;apply h;rw [z];rfl
  rw [e]
  refine ⟨?_,by unfold BdZ;omega⟩
  unfold pw
  rw [show decide (-(m:Int) < 0) = true from decide_eq_true (by omega),show (-(m:Int)).natAbs = m from by omega]
theorem snd_pw (L H:Int) (hL:BdZ L) (hH:BdZ H):Fq.snd (pw L) (pw H) = decide (L≤H∧L≠9218868437227405312∧H≠-9218868437227405312):=by
 unfold Fq.snd
 rw [ple9 L H hL hH]
 have e1:(pw L = 9218868437227405312) ↔ L = 9218868437227405312:=by
  have h:=pw_inj L 9218868437227405312 hL (by unfold BdZ;omega)
  rw [pw_I] at h;exact h
 have e2:(pw H = 18442240474082181120) ↔ H = -9218868437227405312:=by
  have h:=pw_inj H (-9218868437227405312) hH (by unfold BdZ;omega)
  rw [pw_MI] at h;exact h
 simp only [e1,e2]
 by_cases c1:L≤H <;> by_cases c2:L = 9218868437227405312 <;> by_cases c3:H = -9218868437227405312 <;> simp [c1,c2,c3]
theorem rlo_pw (L H:Int) (hL:BdZ L) (hH:BdZ H):Fq.rlo (pw L) (pw H) = pw (if L≤H∧L≠9218868437227405312∧H≠-9218868437227405312 then L else 9218868437227405312):=by
 unfold Fq.rlo
 rw [snd_pw L H hL hH,pla_pw L hL]
 by_cases c:L≤H∧L≠9218868437227405312∧H≠-9218868437227405312
 ·rw [if_pos c,if_pos (decide_eq_true c)]
 ·rw [if_neg c,if_neg (by simpa using c),pw_I]
theorem rhi_pw (L H:Int) (hL:BdZ L) (hH:BdZ H):Fq.rhi (pw L) (pw H) = pw (if L≤H∧L≠9218868437227405312∧H≠-9218868437227405312 then H else -9218868437227405312):=by
 unfold Fq.rhi
 rw [snd_pw L H hL hH,pla_pw H hH]
 by_cases c:L≤H∧L≠9218868437227405312∧H≠-9218868437227405312
 ·rw [if_pos c,if_pos (decide_eq_true c)]
 ·rw [if_neg c,if_neg (by simpa using c),pw_MI]
theorem read_pw (a b:Nat) (ha:a < 18446744073709551616) (hb:b < 18446744073709551616):∃ L H,VdZ L H∧Fq.rlo a b = pw L∧Fq.rhi a b = pw H:=by
 by_cases c:Fq.snd a b = true
 ·obtain ⟨n,m,hm,rfl⟩:=Fq.exD a ha
  obtain ⟨n',m',hm',rfl⟩:=Fq.exD b hb
  have es:=Fq.snd_w n n' m m' hm hm'
  rw [c] at es
  have es:=of_decide_eq_true es.symm
  have key:∀ (g:Bool) (r:Nat),r≤9218868437227405312→pw (Fq.plz g r) = Fq.pla (Fq.wD g r)∧BdZ (Fq.plz g r):=by
   intro g r hr
   by_cases c2:Fq.wD g r = 9223372036854775808
   ·have hg:g = true∧r = 0:=by
     unfold Fq.wD at c2
     cases g
     ·simp at c2;omega
     ·simp at c2;exact ⟨rfl,c2⟩
    rw [c2,hg.1,hg.2]
    exact ⟨by decide,by unfold BdZ Fq.plz;simp⟩
   ·have h:=pw_plz g r c2 hr
    rw [show Fq.pla (Fq.wD g r) = Fq.wD g r from by simp [Fq.pla,c2]]
    exact h
  have k1:=key n m es.1
  have k2:=key n' m' es.2.1
  refine ⟨Fq.plz n m,Fq.plz n' m',Or.inr ?_, ?_, ?_⟩
  ·have b1:=k1.2
   have b2:=k2.2
   unfold BdZ at b1 b2
   have e1:Fq.plz n m≠9218868437227405312:=by
    intro h
    apply es.2.2.2.1
    unfold Fq.plz at h
    cases n
    ·simp at h;exact ⟨rfl,by omega⟩
    ·simp at h;omega
   have e2:Fq.plz n' m'≠-9218868437227405312:=by
    intro h
    apply es.2.2.2.2
    unfold Fq.plz at h
    cases n'
    ·simp at h <;> omega
    ·simp at h;exact ⟨rfl,by omega⟩
   have:=es.2.2.1
   omega
  ·rw [k1.1];simp [Fq.rlo,c]
  ·rw [k2.1];simp [Fq.rhi,c]
 ·refine ⟨9218868437227405312,-9218868437227405312,Or.inl ⟨rfl,rfl⟩, ?_, ?_⟩
  ·rw [pw_I];unfold Fq.rlo;rw [if_neg c]
  ·rw [pw_MI];unfold Fq.rhi;rw [if_neg c]
theorem reread9 (L H:Int) (h:VdZ L H):Fq.rlo (pw L) (pw H) = pw L∧Fq.rhi (pw L) (pw H) = pw H:=by
 rw [rlo_pw L H h.lo h.hi,rhi_pw L H h.lo h.hi]
 rcases h with ⟨rfl,rfl⟩ | h
 ·exact ⟨by rw [if_neg (by omega)],by rw [if_neg (by omega)]⟩
 ·exact ⟨by rw [if_pos (by omega)],by rw [if_pos (by omega)]⟩
theorem bd_min (x y:Int) (hx:BdZ x) (hy:BdZ y):BdZ (min x y):=by unfold BdZ at *;omega
theorem min7_ (n n':Bool) (m m':Nat) (hm:m≤9218868437227405312) (hm':m'≤9218868437227405312) (h1:Fq.wD n m≠9223372036854775808) (h2:Fq.wD n' m'≠9223372036854775808) (ts:Array TypeId) (t:TypeId) (w:World):(Builtin.min_ ts t #[.float .f64 (Fq.wD n m),.float .f64 (Fq.wD n' m')]).run Tryz.prog w = .ok (.float .f64 (if Fq.plz n' m' < Fq.plz n m then Fq.wD n' m' else Fq.wD n m)) w:=by
 have ho:=Fq.ordD n n' m m' hm hm'
 rcases Int.lt_trichotomy (Fq.plz n m) (Fq.plz n' m') with g | g | g
 ·rw [Fq.cmp_lt g] at ho
  rw [if_neg (by omega)]
  generalize Fq.wD n m = X at ho ⊢
  generalize Fq.wD n' m' = Y at ho ⊢
  simp [Builtin.min_,Builtin.min2,ho]
 ·rw [Fq.cmp_eq g] at ho
  have e:Fq.wD n m = Fq.wD n' m':=by
   have z1:n = true→m≠0:=fun h z=>h1 (by rw [h,z];rfl)
   have z2:n' = true→m'≠0:=fun h z=>h2 (by rw [h,z];rfl)
   unfold Fq.wD
   unfold Fq.plz at g
   cases n <;> cases n' <;> simp at z1 z2 g ⊢ <;> omega
  rw [if_neg (by omega)]
  rw [← e] at ho ⊢
  generalize Fq.wD n m = X at ho ⊢
  simp [Builtin.min_,Builtin.min2,ho]
 ·rw [Fq.cmp_gt g] at ho
  rw [if_pos (by omega)]
  generalize Fq.wD n m = X at ho ⊢
  generalize Fq.wD n' m' = Y at ho ⊢
  simp [Builtin.min_,Builtin.min2,ho]

def Rd (a b:Nat) (L H:Int):Prop:=a < 18446744073709551616∧b < 18446744073709551616∧VdZ L H∧Fq.rlo a b = pw L∧Fq.rhi a b = pw H
theorem Rd.ex (a b:Nat) (ha:a < 18446744073709551616) (hb:b < 18446744073709551616):∃ L H,Rd a b L H:=by
 obtain ⟨L,H,h1,h2,h3⟩:=read_pw a b ha hb
 exact ⟨L,H,ha,hb,h1,h2,h3⟩
theorem Rd.of {L H:Int} (h:VdZ L H):Rd (pw L) (pw H) L H:=⟨pw_lt L h.lo,pw_lt H h.hi,h,(reread9 L H h).1,(reread9 L H h).2⟩
theorem Rd.vd {a b:Nat} {L H:Int} (h:Rd a b L H):VdZ L H:=h.2.2.1
theorem Rd.call {a b:Nat} {L H:Int} (h:Rd a b L H) (w:World):Calls Tryz.prog 15 #[.agg #[.float .f64 a,.float .f64 b]] w fun e w'=>e = .returned (.agg #[.float .f64 (pw L),.float .f64 (pw H)])∧Kp w w':=by
 have g:=Fq.read_ a b h.1 h.2.1 w
 rw [h.2.2.2.1,h.2.2.2.2] at g
 exact g
theorem emp9 (L H:Int) (h:VdZ L H):decide (pw L = 9218868437227405312∧pw H = 18442240474082181120) = decide (L = 9218868437227405312):=by
 congr 1;apply propext
 have e1:=pw_inj L 9218868437227405312 h.lo (by unfold BdZ;omega)
 have e2:=pw_inj H (-9218868437227405312) h.hi (by unfold BdZ;omega)
 rw [pw_I] at e1
 rw [pw_MI] at e2
 rw [e1,e2]
 unfold VdZ at h
 omega
theorem void9_ (L H:Int) (h:VdZ L H) (w:World):Calls Tryz.prog 16 #[.agg #[.float .f64 (pw L),.float .f64 (pw H)]] w fun e w'=>e = .returned (.bool (decide (L = 9218868437227405312)))∧Kp w w':=by
 have g:=Fq.void_ (pw L) (pw H) (pw_lt L h.lo) (pw_lt H h.hi) w
 rw [emp9 L H h] at g
 exact g
theorem min9_ (x y:Int) (hx:BdZ x) (hy:BdZ y) (ts:Array TypeId) (t:TypeId) (w:World):(Builtin.min_ ts t #[.float .f64 (pw x),.float .f64 (pw y)]).run Tryz.prog w = .ok (.float .f64 (pw (min x y))) w:=by
 have h:=min7_ (decide (x < 0)) (decide (y < 0)) x.natAbs y.natAbs (abs_pw x hx) (abs_pw y hy) (pw_ne x hx) (pw_ne y hy) ts t w
 rw [plz_pw,plz_pw] at h
 have e:(if y < x then pw y else pw x) = pw (min x y):=by
  by_cases c:y < x
  ·rw [if_pos c,show min x y = y from by omega]
  ·rw [if_neg c,show min x y = x from by omega]
 exact e ▸ h

set_option linter.unusedVariables false
def sN (z:Int):Bool:=decide (z < 0)
theorem sN_neg (z:Int) (h:z≠0):sN (-z) = !(sN z):=by
 unfold sN
 by_cases c:z < 0
 ·rw [decide_eq_true c,decide_eq_false (by omega)];rfl
 ·rw [decide_eq_false c,decide_eq_true (by omega)];rfl
def diZ (K:Nat) (d x y:Int):Int:=(oD K d (sN x) x.natAbs (sN y) y.natAbs).getD 0
theorem okD0 {o:Option Int} (h:okO o):BdZ (o.getD 0):=by
 unfold BdZ
 cases o with
 | none=>simp
 | some z=>exact h z rfl
theorem diZ_bd (K:Nat) (d x y:Int):BdZ (diZ K d x y):=okD0 (okD _ _ _ _ _ _)
theorem getD_ng (o:Option Int):(ng o).getD 0 = -(o.getD 0):=by cases o <;> simp [ng]
theorem diZ_mir (K:Nat) (d x y:Int) (hx:x≠0):diZ K (-d) (-x) y = -(diZ K d x y):=by
 unfold diZ
 rw [sN_neg x hx,Int.natAbs_neg,oD_mir,getD_ng]
def lst (f:Int→Int→Int) (L1 H1 L2 H2:Int):Int:=if L1 < 0∧0 < H1∧L2 < 0∧0 < H2 then min (f H1 L2) (f L1 H2) else if L1 < 0∧0 < H2 then f L1 H2 else if 0 < H1∧L2 < 0 then f H1 L2 else if H1≤0∧H2≤0 then f H1 H2 else f L1 L2
theorem lst_bd (f:Int→Int→Int) (hf:∀ x y,BdZ (f x y)) (L1 H1 L2 H2:Int):BdZ (lst f L1 H1 L2 H2):=by
 unfold lst
 repeat' split
 ·exact bd_min _ _ (hf _ _) (hf _ _)
 all_goals exact hf _ _
set_option linter.unusedVariables false
def IsO (o:Option Int) (R:Nat):Prop:=∀ z,o = some z→R = pz z
theorem bitsP_ (z:Int) (h:-9218868437227405312≤z∧z≤9218868437227405312):IsO (some z) (pz z):=fun y e=>by cases e;rfl
theorem bitsI_ (n:Bool):IsO (some (sgI n)) (Fq.wD n 9218868437227405312):=fun y e=>by cases e;exact wD_sg n
theorem bitsQ_ (R:Nat) (h1:9218868437227405312 < R % 9223372036854775808) (h2:R < 18446744073709551616):IsO none R:=fun y e=>by cases e
theorem plain0 (s:Bool) (w:World):Calls Tryz.prog 61 #[.float .f64 (Fq.wD s 0)] w fun e w'=>e = .returned (.float .f64 0)∧w' = w:=by
 have hp:=Fq.plain_d s 0 (by decide) w
 rw [show Fq.wD (s && !((0:Nat) == 0)) 0 = 0 from by simp;rfl] at hp
 exact hp
theorem plainI (s:Bool) (w:World):Calls Tryz.prog 61 #[.float .f64 (Fq.wD s 9218868437227405312)] w fun e w'=>e = .returned (.float .f64 (Fq.wD s 9218868437227405312))∧w' = w:=by
 have hp:=Fq.plain_d s 9218868437227405312 (by decide) w
 rw [show (s && !((9218868437227405312:Nat) == 0)) = s from by simp] at hp
 exact hp
theorem plainN (R:Nat) (p1:9218868437227405312 < R % 9223372036854775808) (p2:R < 18446744073709551616) (w:World):Calls Tryz.prog 61 #[.float .f64 R] w fun e w'=>e = .returned (.float .f64 R)∧w' = w:=by
 obtain ⟨a,b,hb9,hR⟩:=word_of R p2
 have hp:=Fq.plain_d a b (by omega) w
 rw [show (a && !(b == 0)) = a from by simp;omega,← hR] at hp
 exact hp
theorem divW_g2 (K:Nat) (hK:K = 1074) (d:Int) (s:Bool) (m B:Nat):divW d s (Fq.vV Ieee.double m) B = pz (g53 d (2 ^ K) B (Iv s m)):=by
 have h:=divW_g K hK d s m B
 rw [show (s ^^ false) = s from by cases s <;> rfl] at h
 exact h
theorem aI (z:Int) (h:BdZ z):z.natAbs < 9223372036854775808:=by unfold BdZ at h;omega
def TT (w:World):Prop:=Tab w∧Fq.Tab w
theorem TT.kp {w w':World} (h:TT w) (g:Kp w w'):TT w':=⟨h.1.grown g,h.2.grown g⟩
end Go.Proofs.YtngglmnhjjlgkaaGreatDoor
