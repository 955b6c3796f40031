import Derived.Test.YtmpjcknaelgnoaaGreatDoorKEX
import Derived.Test.YtmpjcknaelgnoaaGreatDoorKMVa
import Derived.Test.YtmpjcknaelgnoaaGreatDoorKNRm
import Derived.Laws.Rows
import Derived.RangeFuncRecord
set_option maxHeartbeats 2000000
set_option maxRecDepth 20000
namespace Go.Proofs.YtmpjcknaelgnoaaGreatDoor
open Go.RowKit
set_option linter.unusedVariables false
set_option linter.unusedSimpArgs false

def BK (w:World) (b:Nat) (C:Array Value) (t:TypeId):Prop:=w.heap[b]? = some (.cells C t (0,0))
theorem BK.lt {w:World} {b:Nat} {C:Array Value} {t:TypeId} (h:BK w b C t):b<w.heap.size:=by
 rcases Nat.lt_or_ge b w.heap.size with c | c
 ·exact c
 ·unfold BK at h;rw [Array.getElem?_eq_none c] at h;cases h
theorem BK.cell {w:World} {b:Nat} {C:Array Value} {t:TypeId} (h:BK w b C t) (j:Nat):w.cell? ⟨b,j,none⟩=C[j]?:=cell_of_row w b j C t (0,0) h
theorem BK.frozen {w:World} {b:Nat} {C:Array Value} {t:TypeId} (h:BK w b C t) (j:Nat):w.frozen? ⟨b,j,none⟩=false:=by
 unfold BK at h
 simp [World.frozen?,h]
theorem BK.new (w:World) (C:Array Value) (t:TypeId):BK (w.alloc (.cells C t)) w.heap.size C t:=World.alloc_heap_new w _
theorem BK.newAt {w:World} {b:Nat} (hb:b=w.heap.size) (C:Array Value) (t:TypeId):BK (w.alloc (.cells C t)) b C t:=by rw [hb];exact BK.new w C t
theorem BK.kp {w w':World} {b:Nat} {C:Array Value} {t:TypeId} (h:BK w b C t) (k:Kp w w'):BK w' b C t:=(Below.block k b h.lt).trans h
theorem BK.put {w:World} {b:Nat} {C:Array Value} {t:TypeId} (h:BK w b C t) (j:Nat) (v:Value):BK (w.setCell ⟨b,j,none⟩ v) b (C.setIfInBounds j v) t:=by
 unfold BK at h ⊢
 simp [World.setCell,Array.getElem?_modify,h]
theorem BK.far {w:World} {b:Nat} {C:Array Value} {t:TypeId} (h:BK w b C t) (x:Addr) (v:Value) (hne:x.block≠b):BK (w.setCell x v) b C t:=by
 unfold BK at h ⊢
 simp [World.setCell,Array.getElem?_modify,hne,h]
theorem BK.c2 {w:World} {b:Nat} {x0 x1:Value} {t:TypeId} (h:BK w b #[x0,x1] t):w.cell? ⟨b,0,none⟩=some x0∧w.frozen? ⟨b,0,none⟩=false∧w.cell? ⟨b,1,none⟩=some x1∧w.frozen? ⟨b,1,none⟩=false:=⟨(h.cell 0).trans rfl,h.frozen 0,(h.cell 1).trans rfl,h.frozen 1⟩
theorem BK.c3 {w:World} {b:Nat} {x0 x1 x2:Value} {t:TypeId} (h:BK w b #[x0,x1,x2] t):w.cell? ⟨b,0,none⟩=some x0∧w.frozen? ⟨b,0,none⟩=false∧w.cell? ⟨b,1,none⟩=some x1∧w.frozen? ⟨b,1,none⟩=false∧w.cell? ⟨b,2,none⟩=some x2∧w.frozen? ⟨b,2,none⟩=false:=⟨(h.cell 0).trans rfl,h.frozen 0,(h.cell 1).trans rfl,h.frozen 1,(h.cell 2).trans rfl,h.frozen 2⟩
theorem BK.c6 {w:World} {b:Nat} {x0 x1 x2 x3 x4 x5:Value} {t:TypeId} (h:BK w b #[x0,x1,x2,x3,x4,x5] t):w.cell? ⟨b,0,none⟩=some x0∧w.frozen? ⟨b,0,none⟩=false∧w.cell? ⟨b,1,none⟩=some x1∧w.frozen? ⟨b,1,none⟩=false∧w.cell? ⟨b,2,none⟩=some x2∧w.frozen? ⟨b,2,none⟩=false∧w.cell? ⟨b,3,none⟩=some x3∧w.frozen? ⟨b,3,none⟩=false∧w.cell? ⟨b,4,none⟩=some x4∧w.frozen? ⟨b,4,none⟩=false∧w.cell? ⟨b,5,none⟩=some x5∧w.frozen? ⟨b,5,none⟩=false:=⟨(h.cell 0).trans rfl,h.frozen 0,(h.cell 1).trans rfl,h.frozen 1,(h.cell 2).trans rfl,h.frozen 2,(h.cell 3).trans rfl,h.frozen 3,(h.cell 4).trans rfl,h.frozen 4,(h.cell 5).trans rfl,h.frozen 5⟩
theorem BK.c9 {w:World} {b:Nat} {x0 x1 x2 x3 x4 x5 x6 x7 x8:Value} {t:TypeId} (h:BK w b #[x0,x1,x2,x3,x4,x5,x6,x7,x8] t):w.cell? ⟨b,0,none⟩=some x0∧w.frozen? ⟨b,0,none⟩=false∧w.cell? ⟨b,1,none⟩=some x1∧w.frozen? ⟨b,1,none⟩=false∧w.cell? ⟨b,2,none⟩=some x2∧w.frozen? ⟨b,2,none⟩=false∧w.cell? ⟨b,3,none⟩=some x3∧w.frozen? ⟨b,3,none⟩=false∧w.cell? ⟨b,4,none⟩=some x4∧w.frozen? ⟨b,4,none⟩=false∧w.cell? ⟨b,5,none⟩=some x5∧w.frozen? ⟨b,5,none⟩=false∧w.cell? ⟨b,6,none⟩=some x6∧w.frozen? ⟨b,6,none⟩=false∧w.cell? ⟨b,7,none⟩=some x7∧w.frozen? ⟨b,7,none⟩=false∧w.cell? ⟨b,8,none⟩=some x8∧w.frozen? ⟨b,8,none⟩=false:=⟨(h.cell 0).trans rfl,h.frozen 0,(h.cell 1).trans rfl,h.frozen 1,(h.cell 2).trans rfl,h.frozen 2,(h.cell 3).trans rfl,h.frozen 3,(h.cell 4).trans rfl,h.frozen 4,(h.cell 5).trans rfl,h.frozen 5,(h.cell 6).trans rfl,h.frozen 6,(h.cell 7).trans rfl,h.frozen 7,(h.cell 8).trans rfl,h.frozen 8⟩
theorem BK.c13 {w:World} {b:Nat} {x0 x1 x2 x3 x4 x5 x6 x7 x8 x9 x10 x11 x12:Value} {t:TypeId} (h:BK w b #[x0,x1,x2,x3,x4,x5,x6,x7,x8,x9,x10,x11,x12] t):w.cell? ⟨b,0,none⟩=some x0∧w.frozen? ⟨b,0,none⟩=false∧w.cell? ⟨b,1,none⟩=some x1∧w.frozen? ⟨b,1,none⟩=false∧w.cell? ⟨b,2,none⟩=some x2∧w.frozen? ⟨b,2,none⟩=false∧w.cell? ⟨b,3,none⟩=some x3∧w.frozen? ⟨b,3,none⟩=false∧w.cell? ⟨b,4,none⟩=some x4∧w.frozen? ⟨b,4,none⟩=false∧w.cell? ⟨b,5,none⟩=some x5∧w.frozen? ⟨b,5,none⟩=false∧w.cell? ⟨b,6,none⟩=some x6∧w.frozen? ⟨b,6,none⟩=false∧w.cell? ⟨b,7,none⟩=some x7∧w.frozen? ⟨b,7,none⟩=false∧w.cell? ⟨b,8,none⟩=some x8∧w.frozen? ⟨b,8,none⟩=false∧w.cell? ⟨b,9,none⟩=some x9∧w.frozen? ⟨b,9,none⟩=false∧w.cell? ⟨b,10,none⟩=some x10∧w.frozen? ⟨b,10,none⟩=false∧w.cell? ⟨b,11,none⟩=some x11∧w.frozen? ⟨b,11,none⟩=false∧w.cell? ⟨b,12,none⟩=some x12∧w.frozen? ⟨b,12,none⟩=false:=⟨(h.cell 0).trans rfl,h.frozen 0,(h.cell 1).trans rfl,h.frozen 1,(h.cell 2).trans rfl,h.frozen 2,(h.cell 3).trans rfl,h.frozen 3,(h.cell 4).trans rfl,h.frozen 4,(h.cell 5).trans rfl,h.frozen 5,(h.cell 6).trans rfl,h.frozen 6,(h.cell 7).trans rfl,h.frozen 7,(h.cell 8).trans rfl,h.frozen 8,(h.cell 9).trans rfl,h.frozen 9,(h.cell 10).trans rfl,h.frozen 10,(h.cell 11).trans rfl,h.frozen 11,(h.cell 12).trans rfl,h.frozen 12⟩

theorem Own.bkNe {w:World} {base:Nat} {p:Option Addr} {l c:Nat} {xs:List Int} (h:Own w base (.slice p l c) xs) {b:Nat} {C:Array Value} {t:TypeId} (hb:BK w b C t) (ht:t≠120):∀ a,p=some a→a.block≠b:=by
 intro a ha e
 rcases h.2 with ⟨h1,-⟩ | ⟨g,cap,cur,h1,h2,h3,-⟩
 ·simp at h1;rw [h1.1] at ha;cases ha
 ·simp at h1
  rw [h1.1] at ha
  obtain rfl:=Option.some.inj ha
  simp at e
  subst e
  unfold BK at hb
  rw [h3] at hb
  simp at hb
  first | exact ht hb.2.1.symm | exact ht hb.2.symm
theorem Own.setB {w:World} {base:Nat} {p:Option Addr} {l c:Nat} {xs:List Int} (h:Own w base (.slice p l c) xs) {b:Nat} {C:Array Value} {t:TypeId} (hb:BK w b C t) (ht:t≠120) (i:Nat) (u:Value):Own (w.setCell ⟨b,i,none⟩ u) base (.slice p l c) xs:=by
 have hn:=h.bkNe hb ht
 refine ⟨h.1, ?_⟩
 rcases h.2 with ⟨h1,h2⟩ | ⟨g,cap,cur,h1,h2,h3,h4⟩
 ·exact Or.inl ⟨h1,h2⟩
 ·refine Or.inr ⟨g,cap,cur,h1,h2, ?_,h4⟩
  have hg:g≠b:=by
   simp at h1
   exact hn ⟨g,0,none⟩ h1.1
  rw [heap_setCell_other w ⟨b,i,none⟩ g u hg]
  exact h3
theorem VP.setB {base:Nat} {w:World} {s:Bool} {p:Option Addr} {l c:Nat} {q:Option Addr} {k d:Nat} {V:Int} (h:VP base w s p l c q k d V) {b:Nat} {C:Array Value} {t:TypeId} (hb:BK w b C t) (ht:t≠120) (i:Nat) (u:Value):VP base (w.setCell ⟨b,i,none⟩ u) s p l c q k d V:=by
 obtain ⟨x,y,h1,h2,h3⟩:=h
 exact ⟨x,y,h1.setB hb ht i u,h2.setB hb ht i u,h3⟩
set_option linter.unusedVariables false
set_option linter.unusedSimpArgs false

theorem iv0_:Iv false 0=0:=by decide +kernel
def PCv (ia Va:Int) (oa:Bool) (ib Vb:Int) (ob:Bool) (W:World) (v:Value):Prop:=∃ (s:Bool) (p:Option Addr) (l c:Nat) (q:Option Addr) (k d:Nat) (s2:Bool) (p2:Option Addr) (l2 c2:Nat) (q2:Option Addr) (k2 d2:Nat),v=.agg #[.bool false,.int .i64 ia,.bool s,.slice p l c,.slice q k d,.int .i64 1,.bool oa,.int .i64 ib,.bool s2,.slice p2 l2 c2,.slice q2 k2 d2,.int .i64 1,.bool ob]∧VP 0 W s p l c q k d Va∧VP 0 W s2 p2 l2 c2 q2 k2 d2 Vb
theorem PCv.kp {ia Va ib Vb:Int} {oa ob:Bool} {W W':World} {v:Value} (h:PCv ia Va oa ib Vb ob W v) (g:Kp W W'):PCv ia Va oa ib Vb ob W' v:=by
 obtain ⟨s,p,l,c,q,k,d,s2,p2,l2,c2,q2,k2,d2,e,h1,h2⟩:=h
 exact ⟨s,p,l,c,q,k,d,s2,p2,l2,c2,q2,k2,d2,e,h1.kp g,h2.kp g⟩
def cB (X inf V:Int):Int:=if inf=0 then (if X=9218868437227405312 then 1 else if X = -9218868437227405312 then -1 else cmI (Iv (decide (X<0)) X.natAbs) V) else cmI X (inf*9218868437227405312)
theorem far9_ (i:Int) (w:World):Calls Tryz.prog 60 #[.int .i64 i] w fun e w'=>∃ s p l c q k d,e=.returned (.agg #[.int .i64 i,.bool s,.slice p l c,.slice q k d,.int .i64 1,.bool true])∧VP 0 w' s p l c q k d 0∧Kp w w':=by
 go_enter Tryz.func60,Tryz.ntmps60
 go_wp2_with (first | (go_at_call 118;refine (int0_ _).mono ?_;rintro e w1 ⟨s,p,l,c,q,k,d,rfl,hp,g1⟩;have hB:=(BK.new w #[.int .i64 0,.bool false,.slice none 0 0,.slice none 0 0,.int .i64 0,.bool false] 59).kp g1;obtain ⟨r0,rz0,r1,rz1,r2,rz2,r3,rz3,r4,rz4,r5,rz5⟩:=(show BK w1 (w.heap.size) #[.int .i64 0,.bool false,.slice none 0 0,.slice none 0 0,.int .i64 0,.bool false] _ from hB).c6;skip))
 have hv:VP 0 w1 s p l c q k d 0:=iv0_ ▸ (hp.vp).mono (Nat.zero_le _)
 exact BR (v:=.agg #[.int .i64 i,.bool s,.slice p l c,.slice q k d,.int .i64 1,.bool true]) (by simp [results,Tryz.results60,go_sem,r0,r1,r2,r3,r4,r5]) rfl ⟨s,p,l,c,q,k,d,rfl,((((((hv.setB hB (by decide) 0 _).setB (hB.put 0 _) (by decide) 1 _).setB ((hB.put 0 _).put 1 _) (by decide) 2 _).setB (((hB.put 0 _).put 1 _).put 2 _) (by decide) 3 _).setB ((((hB.put 0 _).put 1 _).put 2 _).put 3 _) (by decide) 4 _).setB (((((hB.put 0 _).put 1 _).put 2 _).put 3 _).put 4 _) (by decide) 5 _),KS6 ((Kp.trans ((Kp.refl w).alloc _) g1)) (Nat.le_refl _)⟩
theorem bndI_ (i:Int) s p l c q k d (t1:(i != 0)=true) (w:World):Calls Tryz.prog 102 #[.agg #[.int .i64 i,.bool s,.slice p l c,.slice q k d]] w fun e w'=>∃ s2 p2 l2 c2 q2 k2 d2,e=.returned (.agg #[.int .i64 i,.bool s2,.slice p2 l2 c2,.slice q2 k2 d2,.int .i64 1,.bool true])∧VP 0 w' s2 p2 l2 c2 q2 k2 d2 0∧Kp w w':=by
 go_enter Tryz.func102,Tryz.ntmps102
 go_wp2_with (first | (go_at_call 60;refine (far9_ i _).mono ?_;rintro e w1 ⟨s2,p2,l2,c2,q2,k2,d2,rfl,hp,g1⟩;have hB:=(BK.newAt (w:=(w.alloc (.cells #[.int .i64 i,.bool s,.slice p l c,.slice q k d] 64))) (b:=w.heap.size+1) (by simp) #[.int .i64 0,.bool false,.slice none 0 0,.slice none 0 0,.int .i64 0,.bool false] 59).kp g1;obtain ⟨r0,rz0,r1,rz1,r2,rz2,r3,rz3,r4,rz4,r5,rz5⟩:=(show BK w1 (w.heap.size+1) #[.int .i64 0,.bool false,.slice none 0 0,.slice none 0 0,.int .i64 0,.bool false] _ from hB).c6;skip))
 exact BR (v:=.agg #[.int .i64 i,.bool s2,.slice p2 l2 c2,.slice q2 k2 d2,.int .i64 1,.bool true]) (by simp [results,Tryz.results102,go_sem,r0,r1,r2,r3,r4,r5]) rfl ⟨s2,p2,l2,c2,q2,k2,d2,rfl,((((((hp.setB hB (by decide) 0 _).setB (hB.put 0 _) (by decide) 1 _).setB ((hB.put 0 _).put 1 _) (by decide) 2 _).setB (((hB.put 0 _).put 1 _).put 2 _) (by decide) 3 _).setB ((((hB.put 0 _).put 1 _).put 2 _).put 3 _) (by decide) 4 _).setB (((((hB.put 0 _).put 1 _).put 2 _).put 3 _).put 4 _) (by decide) 5 _),KS6 ((Kp.trans (((Kp.refl w).alloc _).alloc _) g1)) (by first | omega | (simp <;> omega))⟩
theorem bndZ_ s p l c q k d (w:World):Calls Tryz.prog 102 #[.agg #[.int .i64 0,.bool s,.slice p l c,.slice q k d]] w fun e w'=>e=.returned (.agg #[.int .i64 0,.bool s,.slice p l c,.slice q k d,.int .i64 1,.bool false])∧Kp w w':=by
 go_enter Tryz.func102,Tryz.ntmps102
 go_wp2
 exact BR (v:=.agg #[.int .i64 0,.bool s,.slice p l c,.slice q k d,.int .i64 1,.bool false]) (by simp [results,Tryz.results102,go_sem]) rfl ⟨rfl,(by repeat (with_reducible (first | assumption | exact Kp.refl _ | apply Kp.drew | apply Kp.alloc | apply Kp.drewN | (refine Kp.setCell ?_ (by first | omega | (simp <;> omega)) _) | (refine Kp.trans ?_ (by assumption)))))⟩
theorem bnd9_ (i V:Int) s p l c q k d (hi:i=0∨V=0) (B1:Nat) (w:World) (h:VP B1 w s p l c q k d V):Calls Tryz.prog 102 #[.agg #[.int .i64 i,.bool s,.slice p l c,.slice q k d]] w fun e w'=>∃ s2 p2 l2 c2 q2 k2 d2,e=.returned (.agg #[.int .i64 i,.bool s2,.slice p2 l2 c2,.slice q2 k2 d2,.int .i64 1,.bool (decide (i≠0))])∧VP 0 w' s2 p2 l2 c2 q2 k2 d2 V∧Kp w w':=by
 by_cases ci0:i=0
 ·subst ci0
  refine (bndZ_ s p l c q k d w).mono ?_
  rintro e w' ⟨rfl,g⟩
  exact ⟨s,p,l,c,q,k,d,rfl,(h.kp g).mono (Nat.zero_le _),g⟩
 ·have e:decide (i≠0)=true:=decide_eq_true ci0
  rw [e]
  rcases hi with hi | hi
  ·exact absurd hi ci0
  ·rw [hi];exact bndI_ i s p l c q k d (by simpa using ci0) w
set_option linter.unusedVariables false
set_option linter.unusedSimpArgs false
theorem againstC_ (X i i5 R:Int) (isx o:Bool) (N5:Bool) (M5:Nat) s p l c q k d (hii:SC 183 #[.int .u64 X] (.bool isx)) (tx:isx=true∨(isx=false∧(i != 0)=true)) (w:World) (hbo:∀ w:World,Calls Tryz.prog 105 #[.int .u64 X] w fun e w'=>∃ s5 p5 l5 c5 q5 k5 d5,e=.returned (.agg #[.int .i64 i5,.bool s5,.slice p5 l5 c5,.slice q5 k5 d5])∧RP w.heap.size w' s5 p5 l5 c5 q5 k5 d5 N5 M5∧Kp w w') (hcm:∀ (W:World) s5 p5 l5 c5 q5 k5 d5,Kp w W→RP 0 W s5 p5 l5 c5 q5 k5 d5 N5 M5→Calls Tryz.prog 73 #[.agg #[.int .i64 i5,.bool s5,.slice p5 l5 c5,.slice q5 k5 d5],.agg #[.int .i64 i,.bool s,.slice p l c,.slice q k d]] W fun e w'=>e=.returned (.int .i64 R)∧Kp W w'):Calls Tryz.prog 145 #[.int .u64 X,.agg #[.int .i64 i,.bool s,.slice p l c,.slice q k d,.int .i64 1,.bool o]] w fun e w'=>e=.returned (.int .i64 R)∧Kp w w':=by
 rcases tx with rfl | ⟨rfl,t2⟩
 all_goals (
  go_enter Tryz.func145,Tryz.ntmps145
  go_wp2_with (first | (go_at_call 183;refine (hii _).mono ?_;rintro e w' ⟨rfl,rfl⟩))
  have kw:Kp w (w.alloc (.cells #[.int .i64 i,.bool s,.slice p l c,.slice q k d,.int .i64 1,.bool o] 59)):=(Kp.refl w).alloc _
  have hB:BK (w.alloc (.cells #[.int .i64 i,.bool s,.slice p l c,.slice q k d,.int .i64 1,.bool o] 59)) w.heap.size #[.int .i64 i,.bool s,.slice p l c,.slice q k d,.int .i64 1,.bool o] 59:=BK.new w _ _
  generalize (w.alloc (.cells #[.int .i64 i,.bool s,.slice p l c,.slice q k d,.int .i64 1,.bool o] 59))=W at kw hB ⊢
  have xw0:W.cell? ⟨w.heap.size,0,none⟩=some (.int .i64 i):=(hB.cell 0).trans rfl
  have dw0:W.drew.cell? ⟨w.heap.size,0,none⟩=some (.int .i64 i):=xw0
  have xw1:W.cell? ⟨w.heap.size,1,none⟩=some (.bool s):=(hB.cell 1).trans rfl
  have dw1:W.drew.cell? ⟨w.heap.size,1,none⟩=some (.bool s):=xw1
  have xw2:W.cell? ⟨w.heap.size,2,none⟩=some (.slice p l c):=(hB.cell 2).trans rfl
  have dw2:W.drew.cell? ⟨w.heap.size,2,none⟩=some (.slice p l c):=xw2
  have xw3:W.cell? ⟨w.heap.size,3,none⟩=some (.slice q k d):=(hB.cell 3).trans rfl
  have dw3:W.drew.cell? ⟨w.heap.size,3,none⟩=some (.slice q k d):=xw3
  go_region_held3 (fun w'=>w'.cell? ⟨w.heap.size,0,none⟩=some (.int .i64 i)∧w'.cell? ⟨w.heap.size,1,none⟩=some (.bool s)∧w'.cell? ⟨w.heap.size,2,none⟩=some (.slice p l c)∧w'.cell? ⟨w.heap.size,3,none⟩=some (.slice q k d)) (first | (with_reducible exact ⟨xw0,xw1,xw2,xw3⟩) | (with_reducible exact ⟨dw0,dw1,dw2,dw3⟩) | (with_reducible exact ⟨wA0,wA1,wA2,wA3⟩) | (with_reducible exact ⟨wB0,wB1,wB2,wB3⟩)) (first | (go_at_call 105;refine (hbo _).mono ?_;rintro e wA ⟨s5,p5,l5,c5,q5,k5,d5,rfl,hA,gA⟩;have kA:Kp W wA:=Kp.trans (Kp.drew (Kp.refl _)) gA;have wA0:=kkeep kA xw0;have wA1:=kkeep kA xw1;have wA2:=kkeep kA xw2;have wA3:=kkeep kA xw3) | (go_at_call 73;refine (hcm _ s5 p5 l5 c5 q5 k5 d5 (Kp.trans kw kA) (hA.mono (Nat.zero_le _))).mono ?_;rintro e wB ⟨rfl,gB⟩;have kB:Kp W wB:=Kp.trans kA gB;have wB0:=kkeep kB xw0;have wB1:=kkeep kB xw1;have wB2:=kkeep kB xw2;have wB3:=kkeep kB xw3))
  go_wp2
  exact BR (v:=.int .i64 R) (by simp [results,Tryz.results145,go_sem]) rfl ⟨rfl,(Kp.trans kw kB)⟩)
theorem againstN_ (X R S T9:Int) (isx o:Bool) (N5:Bool) (M5:Nat) s p l c q k d (hii:SC 183 #[.int .u64 X] (.bool isx)) (tx:isx=false) (w:World) (hfb:∀ w:World,Calls Tryz.prog 152 #[.int .u64 X] w fun e w'=>∃ s5 p5 l5 c5 q5 k5 d5,e=.returned (.agg #[.bool s5,.slice p5 l5 c5,.slice q5 k5 d5])∧RP w.heap.size w' s5 p5 l5 c5 q5 k5 d5 N5 M5∧Kp w w') (hs:∀ (W:World) s5 p5 l5 c5 q5 k5 d5,RP 0 W s5 p5 l5 c5 q5 k5 d5 N5 M5→Calls Tryz.prog 133 #[.agg #[.bool s5,.slice p5 l5 c5,.slice q5 k5 d5]] W fun e w'=>e=.returned (.int .i64 S)∧Kp W w') (ht:∀ W:World,Kp w W→Calls Tryz.prog 133 #[.agg #[.bool s,.slice p l c,.slice q k d]] W fun e w'=>e=.returned (.int .i64 T9)∧Kp W w') (hc:((S != T9)=true∧wrap64 (S - T9)=R)∨(T9=S∧(S == 0)=true∧R=0)∨(T9=S∧(S == 0)=false∧∃ X8 C8:Int,bits .andNot .u64 X 9223372036854775808=X8∧(∀ W:World,Kp w W→Calls Tryz.prog 184 #[.int .u64 X8,.int .i64 1,.agg #[.bool false,.slice p l c,.slice q k d]] W fun e w'=>e=.returned (.int .i64 C8)∧Kp W w')∧wrap64 (S*C8)=R)):Calls Tryz.prog 145 #[.int .u64 X,.agg #[.int .i64 0,.bool s,.slice p l c,.slice q k d,.int .i64 1,.bool o]] w fun e w'=>e=.returned (.int .i64 R)∧Kp w w':=by
 subst tx
 have hB0:BK (w.alloc (.cells #[.int .i64 0,.bool s,.slice p l c,.slice q k d,.int .i64 1,.bool o] 59)) w.heap.size #[.int .i64 0,.bool s,.slice p l c,.slice q k d,.int .i64 1,.bool o] 59:=BK.new w _ _
 rcases hc with ⟨t1,e1⟩ | ⟨rfl,t1,e1⟩ | ⟨rfl,t1,X8,C8,e8,hpw,e1⟩
 iterate 2 (
  go_enter Tryz.func145,Tryz.ntmps145
  go_wp2_with (first | (go_at_call 183;refine (hii _).mono ?_;rintro e w' ⟨rfl,rfl⟩) | (have z9:=K2;go_at_call 133;refine (ht _ (by repeat (with_reducible (first | assumption | exact Kp.refl _ | apply Kp.drew | apply Kp.alloc | apply Kp.drewN | (refine Kp.setCell ?_ (by first | omega | (simp <;> omega)) _) | (refine Kp.trans ?_ (by assumption)))))).mono ?_;rintro e w3 ⟨rfl,g3⟩;have K3:Kp w1 w3:=Kp.trans K2 g3;have hB3:=hB1.kp K3;obtain ⟨y0,yz0,y1,yz1,y2,yz2,y3,yz3,y4,yz4,y5,yz5⟩:=(show BK w3 (w.heap.size) #[.int .i64 0,.bool s,.slice p l c,.slice q k d,.int .i64 1,.bool o] _ from hB3).c6;skip) | (have z9:=hp5;go_at_call 133;refine (hs _ s5 p5 l5 c5 q5 k5 d5 (RP.mono (RP.kp hp5 (by repeat (with_reducible (first | assumption | exact Kp.refl _ | apply Kp.drew | apply Kp.alloc | apply Kp.drewN | (refine Kp.setCell ?_ (by first | omega | (simp <;> omega)) _) | (refine Kp.trans ?_ (by assumption)))))) (Nat.zero_le _))).mono ?_;rintro e w2 ⟨rfl,g2⟩;have K2:Kp w1 w2:=Kp.trans (by repeat (with_reducible (first | assumption | exact Kp.refl _ | apply Kp.drew | apply Kp.alloc | apply Kp.drewN | (refine Kp.setCell ?_ (by first | omega | (simp <;> omega)) _) | (refine Kp.trans ?_ (by assumption))))) g2;have hB2:=hB1.kp K2;obtain ⟨u0,uz0,u1,uz1,u2,uz2,u3,uz3,u4,uz4,u5,uz5⟩:=(show BK w2 (w.heap.size) #[.int .i64 0,.bool s,.slice p l c,.slice q k d,.int .i64 1,.bool o] _ from hB2).c6;skip) | (go_at_call 152;refine (hfb _).mono ?_;rintro e w1 ⟨s5,p5,l5,c5,q5,k5,d5,rfl,hp5,g1⟩;have hB1:=hB0.kp g1;obtain ⟨r0,rz0,r1,rz1,r2,rz2,r3,rz3,r4,rz4,r5,rz5⟩:=(show BK w1 (w.heap.size) #[.int .i64 0,.bool s,.slice p l c,.slice q k d,.int .i64 1,.bool o] _ from hB1).c6;skip))
  exact BR (v:=.int .i64 R) (by simp [results,Tryz.results145,go_sem,e1]) rfl ⟨rfl,(by repeat (with_reducible (first | assumption | exact Kp.refl _ | apply Kp.drew | apply Kp.alloc | apply Kp.drewN | (refine Kp.setCell ?_ (by first | omega | (simp <;> omega)) _) | (refine Kp.trans ?_ (by assumption)))))⟩
  )
 go_enter Tryz.func145,Tryz.ntmps145
 go_upto_region 10 with (first | (go_at_call 183;refine (hii _).mono ?_;rintro e w' ⟨rfl,rfl⟩) | (have z9:=K2;go_at_call 133;refine (ht _ (by repeat (with_reducible (first | assumption | exact Kp.refl _ | apply Kp.drew | apply Kp.alloc | apply Kp.drewN | (refine Kp.setCell ?_ (by first | omega | (simp <;> omega)) _) | (refine Kp.trans ?_ (by assumption)))))).mono ?_;rintro e w3 ⟨rfl,g3⟩;have K3:Kp w1 w3:=Kp.trans K2 g3;have hB3:=hB1.kp K3;obtain ⟨y0,yz0,y1,yz1,y2,yz2,y3,yz3,y4,yz4,y5,yz5⟩:=(show BK w3 (w.heap.size) #[.int .i64 0,.bool s,.slice p l c,.slice q k d,.int .i64 1,.bool o] _ from hB3).c6;skip) | (have z9:=hp5;go_at_call 133;refine (hs _ s5 p5 l5 c5 q5 k5 d5 (RP.mono (RP.kp hp5 (by repeat (with_reducible (first | assumption | exact Kp.refl _ | apply Kp.drew | apply Kp.alloc | apply Kp.drewN | (refine Kp.setCell ?_ (by first | omega | (simp <;> omega)) _) | (refine Kp.trans ?_ (by assumption)))))) (Nat.zero_le _))).mono ?_;rintro e w2 ⟨rfl,g2⟩;have K2:Kp w1 w2:=Kp.trans (by repeat (with_reducible (first | assumption | exact Kp.refl _ | apply Kp.drew | apply Kp.alloc | apply Kp.drewN | (refine Kp.setCell ?_ (by first | omega | (simp <;> omega)) _) | (refine Kp.trans ?_ (by assumption))))) g2;have hB2:=hB1.kp K2;obtain ⟨u0,uz0,u1,uz1,u2,uz2,u3,uz3,u4,uz4,u5,uz5⟩:=(show BK w2 (w.heap.size) #[.int .i64 0,.bool s,.slice p l c,.slice q k d,.int .i64 1,.bool o] _ from hB2).c6;skip) | (go_at_call 152;refine (hfb _).mono ?_;rintro e w1 ⟨s5,p5,l5,c5,q5,k5,d5,rfl,hp5,g1⟩;have hB1:=hB0.kp g1;obtain ⟨r0,rz0,r1,rz1,r2,rz2,r3,rz3,r4,rz4,r5,rz5⟩:=(show BK w1 (w.heap.size) #[.int .i64 0,.bool s,.slice p l c,.slice q k d,.int .i64 1,.bool o] _ from hB1).c6;skip))
 have kW:Kp w3 (w3.alloc (.cells #[.bool false,.slice p l c,.slice q k d] 57)):=(Kp.refl w3).alloc _
 have hB4:=hB3.kp kW
 have hQ:BK (w3.alloc (.cells #[.bool false,.slice p l c,.slice q k d] 57)) w3.heap.size #[.bool false,.slice p l c,.slice q k d] 57:=BK.new _ _ _
 have kw4:Kp w (w3.alloc (.cells #[.bool false,.slice p l c,.slice q k d] 57)):=Kp.trans (by repeat (with_reducible (first | assumption | exact Kp.refl _ | apply Kp.drew | apply Kp.alloc | apply Kp.drewN | (refine Kp.setCell ?_ (by first | omega | (simp <;> omega)) _) | (refine Kp.trans ?_ (by assumption))))) kW
 generalize (w3.alloc (.cells #[.bool false,.slice p l c,.slice q k d] 57))=W4 at hB4 hQ kw4 ⊢
 obtain ⟨v0,vz0,v1,vz1,v2,vz2,v3,vz3,v4,vz4,v5,vz5⟩:=(show BK W4 (w.heap.size) #[.int .i64 0,.bool s,.slice p l c,.slice q k d,.int .i64 1,.bool o] _ from hB4).c6;skip
 obtain ⟨x0,xz0,x1,xz1,x2,xz2⟩:=(show BK W4 (w3.heap.size) #[.bool false,.slice p l c,.slice q k d] _ from hQ).c3;skip
 go_wp2_with (first | (go_at_call 184;refine (hpw _ kw4).mono ?_;rintro e w4 ⟨rfl,g4⟩))
 exact BR (v:=.int .i64 R) (by simp [results,Tryz.results145,go_sem,e1]) rfl ⟨rfl,(Kp.trans kw4 g4)⟩
theorem rpowerI_ (p:Option Addr) (c m:Nat) (xs:List Int) (w:World) (hx:Arr w p xs) (hwx:Wd xs) (lx:xs.length≤16777216) (ha:1≤val xs) (hK:len32 (val xs ^ m)≤16777216) (hm9:m≤1048576) :
  Calls Tryz.prog 216 #[.slice p xs.length c,.int .i64 (m:Int)] w fun e w'=>∃ v,e=.returned v∧Own w' w.heap.size v (dig (val xs ^ m))∧Kp w w':=by
 have hno:=fun w' (k:Kp w w')=>rnorm_ p c xs w' (hx.grown k) (by omega)
 have htm:∀ (x y:Nat) (p1 p2:Option Addr) (c1 c2:Nat) (w':World),len32 x≤16777216→len32 y≤16777216→Arr w' p1 (dig x)→Arr w' p2 (dig y) →
   Calls Tryz.prog 135 #[.slice p1 (dig x).length c1,.slice p2 (dig y).length c2] w' fun e w''=>∃ v,e=.returned v∧Own w'' w'.heap.size v (dig (x*y))∧Kp w' w'':=fun x y p1 p2 c1 c2 w' hx hy h1 h2=>by
  have:=rtimes_ p1 p2 c1 c2 (dig x) (dig y) w' h1 h2 (Wd_dig _) (Wd_dig _) hx hy
  rw [val_dig,val_dig] at this
  exact this
 have HT:Hid (∀ (x y:Nat) (p1 p2:Option Addr) (c1 c2:Nat) (w':World),len32 x≤16777216→len32 y≤16777216→Arr w' p1 (dig x)→Arr w' p2 (dig y) →
   Calls Tryz.prog 135 #[.slice p1 (dig x).length c1,.slice p2 (dig y).length c2] w' fun e w''=>∃ v,e=.returned v∧Own w'' w'.heap.size v (dig (x*y))∧Kp w' w''):=htm
 rw [nz_dig xs hwx] at hno
 obtain ⟨a,hA⟩:∃ a,a=val xs:=⟨_,rfl⟩
 obtain ⟨N,hN⟩:∃ N,N=xs.length:=⟨_,rfl⟩
 rw [← hA] at hno ha hK ⊢
 rw [← hN] at hno ⊢
 obtain ⟨R,hR⟩:∃ R,R=a ^ m:=⟨_,rfl⟩
 rw [← hR] at hK ⊢
 have hO1:=own1 w
 have hk1:Kp w (w.alloc (.cells #[.int .u32 1] 120)):=(Kp.refl w).alloc _
 have h1:=hno _ hk1
 have HR:Hid (R=a ^ m∧len32 R≤16777216∧1≤a):=⟨hR,hK,ha⟩
 clear htm hno hx hwx lx hA hN hR hK ha
 go_enter Tryz.func216,Tryz.ntmps216
 go_wp2_with fail
 refine h1.mono ?_;rintro e w1 ⟨v1,rfl,hOx,hk2⟩
 have HO:Hid (Own w1 w.heap.size (.slice (some ⟨w.heap.size,0,none⟩) 1 1) (dig 1)∧Own w1 w.heap.size v1 (dig a)∧Kp w w1):=⟨by rw [dig_one];exact hO1.kp hk2,hOx.mono hk1.size,hk1.trans hk2⟩
 clear h1 hOx hk2 hO1 hk1
 go_wp2
 go_loopw [1,5,6] (fun nn pp xx wr=>∃ (k P X:Nat) (v u:Value),nn=.int .i64 (k:Int)∧v=pp∧u=xx∧Own wr w.heap.size v (dig P)∧Own wr w.heap.size u (dig X)∧P*X ^ k=R∧1≤P∧1≤X∧Kp w wr∧k≤m) (fun nn _ _ _=>(intOf nn).toNat)
 case atStart=>exact ⟨m,1,a,_,_,rfl,rfl,rfl,HO.out.1,HO.out.2.1,by rw [Nat.one_mul];exact HR.out.1.symm,Nat.le_refl _,HR.out.2.2,HO.out.2.2,Nat.le_refl _⟩
 case round =>
  clear HO
  obtain ⟨k,P,X,v,u,rfl,rfl,rfl,hOp,hOx,hPX,hP,hX,hkp,hkm⟩:=hrel
  by_cases ck:k=0
  ·subst ck
   rw [Nat.pow_zero,Nat.mul_one] at hPX
   subst hPX
   clear HT HR hP hX hOx
   go_wp2
   exact BR (v:=v) (by simp [results,Tryz.results216,go_sem] <;> simp only [*]) rfl ⟨_,rfl,hOp,hkp⟩
  ·have t1:(0:Int)<(k:Int):=by omega
   have hlR:=HR.out.2.1
   have hXk:X≤X ^ k:=by
    have:=Nat.pow_le_pow_right (by omega:0<X) (by omega:1≤k)
    rw [Nat.pow_one] at this;exact this
   have hXk1:1≤X ^ k:=Nat.pow_pos (by omega)
   have hPR:P≤R:=by rw [← hPX];exact Nat.le_mul_of_pos_right _ hXk1
   have hXR:X≤R:=by rw [← hPX];exact Nat.le_trans hXk (Nat.le_mul_of_pos_left _ hP)
   have lP:len32 P≤16777216:=Nat.le_trans (len32_mono hPR) hlR
   have lX:len32 X≤16777216:=Nat.le_trans (len32_mono hXR) hlR
   obtain ⟨h,hh⟩:∃ h,h=k / 2:=⟨_,rfl⟩
   have fh:(k:Int) / 2=(h:Int):=by omega
   have hhb:h≤1048576:=by omega
   obtain ⟨p1,c1,rfl,hAp,_⟩:=hOp.arr
   obtain ⟨p2,c2,rfl,hAx,_⟩:=hOx.arr
   have hX2:X*X=X ^ 2:=by rw [Nat.pow_succ,Nat.pow_one]
   have hXX:1≤X*X:=Nat.le_trans hX (Nat.le_mul_of_pos_left _ (by omega))
   have hhk:h<k:=by omega
   have hsq:=fun w' (k':Kp wr w')=>HT.out X X p2 p2 c2 c2 w' lX lX (hAx.grown k') (hAx.grown k')
   obtain ⟨DX,hDX⟩:∃ DX,DX=(dig X).length:=⟨_,rfl⟩
   rcases (by omega:k % 2=0∨k % 2=1) with ce | ce
   ·have fm:(k:Int) % 2=0:=by omega
    have hPX2:P*(X*X) ^ h=R:=by rw [hX2,← Nat.pow_mul,show 2*h=k from by omega];exact hPX
    rw [← hDX] at hsq
    obtain ⟨DP,hDP⟩:∃ DP,DP=(dig P).length:=⟨_,rfl⟩
    have hOp2:Own wr w.heap.size (.slice p1 DP c1) (dig P):=by rw [hDP];exact hOp
    have hOx2:Own wr w.heap.size (.slice p2 DX c2) (dig X):=by rw [hDX];exact hOx
    rw [← hDX,← hDP]
    clear hOp hOx hDX hDP HR hXk hXk1 hPR hXR lP lX hAp hAx hlR HT hPX
    have hne:h≠0:=by omega
    clear hh
    by_cases c0:h=0
    ·exact absurd c0 hne
    ·have t2:(0:Int)<(h:Int):=by omega
     have h2:=hsq wr (Kp.refl _)
     clear hsq hX2
     go_wp2_with fail
     refine h2.mono ?_;rintro e w3 ⟨v3,rfl,hO3,hk3⟩
     have hO4:Own w3 w.heap.size v3 (dig (X*X)):=hO3.mono hkp.size
     have hO5:=hOp2.kp hk3
     have hk5:=hkp.trans hk3
     clear hO3 hk3 hkp hOp2 hOx2 h2
     go_wp2
     exact ⟨⟨h,P,X*X,_,_,by go_num,rfl,rfl,hO5,hO4,hPX2,hP,hXX,hk5,by omega⟩,by simp [intOf];omega⟩
   ·have fm:(k:Int) % 2=1:=by omega
    have hPX2:(P*X)*(X*X) ^ h=R:=by
     rw [hX2,← Nat.pow_mul,Nat.mul_assoc,Nat.mul_comm X,← Nat.pow_succ,show (2*h).succ=k from by omega];exact hPX
    have h2:=HT.out P X p1 p2 c1 c2 wr lP lX hAp hAx
    rw [← hDX] at hsq h2
    obtain ⟨DP,hDP⟩:∃ DP,DP=(dig P).length:=⟨_,rfl⟩
    rw [← hDP] at h2
    have hOx2:Own wr w.heap.size (.slice p2 DX c2) (dig X):=by rw [hDX];exact hOx
    rw [← hDX,← hDP]
    have hPX1:1≤P*X:=Nat.mul_pos hP (by omega)
    clear hh
    clear hOp hOx hDX hDP HR hXk hXk1 hPR hXR lP lX hAp hAx hlR HT hPX
    go_wp2_with fail
    refine h2.mono ?_;rintro e w3 ⟨v3,rfl,hO3,hk3⟩
    have h4:=hsq w3 hk3
    have hO4:Own w3 w.heap.size v3 (dig (P*X)):=hO3.mono hkp.size
    have hO5:=hOx2.kp hk3
    have hk5:=hkp.trans hk3
    clear hO3 hk3 hkp hOx2 h2 hsq hX2
    by_cases c0:h=0
    ·have t2:¬ ((0:Int)<(h:Int)):=by omega
     clear h4
     go_wp2
     exact ⟨⟨h,P*X,X,_,_,by go_num,rfl,rfl,hO4,hO5,by rw [← hPX2,c0,Nat.pow_zero,Nat.pow_zero],hPX1,hX,hk5,by omega⟩,by simp [intOf];omega⟩
    ·have t2:(0:Int)<(h:Int):=by omega
     go_wp2_with fail
     refine h4.mono ?_;rintro e w4 ⟨v4,rfl,hO6,hk6⟩
     have hO7:Own w4 w.heap.size v4 (dig (X*X)):=hO6.mono hk5.size
     have hO8:=hO4.kp hk6
     have hk7:=hk5.trans hk6
     clear hO6 hk6 hk5 hO4 hO5 h4
     go_wp2
     exact ⟨⟨h,P*X,X*X,_,_,by go_num,rfl,rfl,hO8,hO7,hPX2,hPX1,hXX,hk7,by omega⟩,by simp [intOf];omega⟩
end Go.Proofs.YtmpjcknaelgnoaaGreatDoor
