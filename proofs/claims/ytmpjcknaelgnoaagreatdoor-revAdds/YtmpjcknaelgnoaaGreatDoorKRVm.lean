import Derived.Test.YtmpjcknaelgnoaaGreatDoorKMR23
import Derived.Test.YtmpjcknaelgnoaaGreatDoorKRLc
import Derived.Test.YtmpjcknaelgnoaaGreatDoorKRVw
set_option maxHeartbeats 4000000
set_option maxRecDepth 20000
namespace Go.Proofs.YtmpjcknaelgnoaaGreatDoor
open Go.RowKit
set_option linter.unusedVariables false
set_option linter.unusedSimpArgs false
theorem wpo_load {P:Program} {op:Oper} {a:Act} {w:World} {K:Act→World→Prop} {Q:Exit→Act→World→Prop} (ty:TypeId) (x:Operand) (ho:op.op=.load ty x) (b o:Nat) (hx:a.eval x=.pointer (some ⟨b,o,none⟩)) (v:Value) (hr:(loadVar ty ⟨b,o,none⟩).run P w=.ok v w) (h:K (a.put op.dst v) w):op.wp P a w K Q:=by
 unfold Oper.wp execOp
 simp only [ho,hx,Instr.loadAt,Instr.sureAddr,Sem.run_bind,Sem.run_pure,Result.andThen_ok,hr]
 exact h
theorem wpo_store {P:Program} {op:Oper} {a:Act} {w:World} {K:Act→World→Prop} {Q:Exit→Act→World→Prop} (ty:TypeId) (x y:Operand) (ho:op.op=.store ty x y) (b o:Nat) (hx:a.eval x=.pointer (some ⟨b,o,none⟩)) (v:Value) (hy:a.eval y=v) (w2:World) (hr:(storeVar ty ⟨b,o,none⟩ v).run P w=.ok () w2) (h:K (a.put op.dst undef) w2):op.wp P a w K Q:=by
 unfold Oper.wp execOp
 simp only [ho,hx,hy,Instr.storeAt,Instr.sureAddr,Sem.run_bind,Sem.run_pure,Result.andThen_ok,hr]
 exact h
theorem exL {P:Program} {ρ:Operand→Value} {op:Oper} {t:TypeId} {x:Operand} {w:World} {v:Value} (ho:op.op=.load t x) (p:Value) (hx:ρ x=p) (hr:(Instr.loadAt t p).run P w=.ok v w):(execOp ρ op).run P w=.ok (.value v) w:=by
 unfold execOp
 simp only [ho,hx,Sem.run_bind,Sem.run_pure,Result.andThen_ok,hr]
theorem loadI (w:World) (b o:Nat) (x0 x1:Value) (e0:w.cell? ⟨b,o,none⟩=some x0) (e1:w.cell? ⟨b,o+1,none⟩=some x1):(loadVar 24 ⟨b,o,none⟩).run Tryz.prog w=.ok (.agg #[x0,x1]) w :=
 run_loadVar_mid (P:=Tryz.prog) w b o 24 [x0,x1] _ (fun j v hv=>by
 match j,hv with
 | 0,hv=>simp at hv;rw [← hv];exact e0
 | 1,hv=>simp at hv;rw [← hv];exact e1
 | n+2,hv=>simp at hv) Tryz.underlying24 rfl (by kernel_rfl)
theorem loadIa (w:World) (b o:Nat) (x0 x1:Value) (e0:w.cell? ⟨b,o,none⟩=some x0) (e1:w.cell? ⟨b,o+1,none⟩=some x1):(Instr.loadAt 24 (.pointer (some ⟨b,o,none⟩))).run Tryz.prog w=.ok (.agg #[x0,x1]) w:=by
 simp only [Instr.loadAt,Instr.sureAddr,Sem.run_bind,Sem.run_pure,Result.andThen]
 exact loadI w b o x0 x1 e0 e1
theorem loadP (w:World) (b o:Nat) (x0 x1 x2 x3 x4 x5 x6 x7 x8 x9 x10 x11 x12:Value) (e0:w.cell? ⟨b,o,none⟩=some x0) (e1:w.cell? ⟨b,o+1,none⟩=some x1) (e2:w.cell? ⟨b,o+2,none⟩=some x2) (e3:w.cell? ⟨b,o+3,none⟩=some x3) (e4:w.cell? ⟨b,o+4,none⟩=some x4) (e5:w.cell? ⟨b,o+5,none⟩=some x5) (e6:w.cell? ⟨b,o+6,none⟩=some x6) (e7:w.cell? ⟨b,o+7,none⟩=some x7) (e8:w.cell? ⟨b,o+8,none⟩=some x8) (e9:w.cell? ⟨b,o+9,none⟩=some x9) (e10:w.cell? ⟨b,o+10,none⟩=some x10) (e11:w.cell? ⟨b,o+11,none⟩=some x11) (e12:w.cell? ⟨b,o+12,none⟩=some x12):(loadVar 61 ⟨b,o,none⟩).run Tryz.prog w=.ok (.agg #[x0,x1,x2,x3,x4,x5,x6,x7,x8,x9,x10,x11,x12]) w :=
 run_loadVar_mid (P:=Tryz.prog) w b o 61 [x0,x1,x2,x3,x4,x5,x6,x7,x8,x9,x10,x11,x12] _ (fun j v hv=>by
 match j,hv with
 | 0,hv=>simp at hv;rw [← hv];exact e0
 | 1,hv=>simp at hv;rw [← hv];exact e1
 | 2,hv=>simp at hv;rw [← hv];exact e2
 | 3,hv=>simp at hv;rw [← hv];exact e3
 | 4,hv=>simp at hv;rw [← hv];exact e4
 | 5,hv=>simp at hv;rw [← hv];exact e5
 | 6,hv=>simp at hv;rw [← hv];exact e6
 | 7,hv=>simp at hv;rw [← hv];exact e7
 | 8,hv=>simp at hv;rw [← hv];exact e8
 | 9,hv=>simp at hv;rw [← hv];exact e9
 | 10,hv=>simp at hv;rw [← hv];exact e10
 | 11,hv=>simp at hv;rw [← hv];exact e11
 | 12,hv=>simp at hv;rw [← hv];exact e12
 | n+13,hv=>simp at hv) Tryz.underlying61 rfl (by kernel_rfl)
theorem loadPa (w:World) (b o:Nat) (x0 x1 x2 x3 x4 x5 x6 x7 x8 x9 x10 x11 x12:Value) (e0:w.cell? ⟨b,o,none⟩=some x0) (e1:w.cell? ⟨b,o+1,none⟩=some x1) (e2:w.cell? ⟨b,o+2,none⟩=some x2) (e3:w.cell? ⟨b,o+3,none⟩=some x3) (e4:w.cell? ⟨b,o+4,none⟩=some x4) (e5:w.cell? ⟨b,o+5,none⟩=some x5) (e6:w.cell? ⟨b,o+6,none⟩=some x6) (e7:w.cell? ⟨b,o+7,none⟩=some x7) (e8:w.cell? ⟨b,o+8,none⟩=some x8) (e9:w.cell? ⟨b,o+9,none⟩=some x9) (e10:w.cell? ⟨b,o+10,none⟩=some x10) (e11:w.cell? ⟨b,o+11,none⟩=some x11) (e12:w.cell? ⟨b,o+12,none⟩=some x12):(Instr.loadAt 61 (.pointer (some ⟨b,o,none⟩))).run Tryz.prog w=.ok (.agg #[x0,x1,x2,x3,x4,x5,x6,x7,x8,x9,x10,x11,x12]) w:=by
 simp only [Instr.loadAt,Instr.sureAddr,Sem.run_bind,Sem.run_pure,Result.andThen]
 exact loadP w b o x0 x1 x2 x3 x4 x5 x6 x7 x8 x9 x10 x11 x12 e0 e1 e2 e3 e4 e5 e6 e7 e8 e9 e10 e11 e12
theorem storeI (w:World) (b:Nat) (x0 x1:Value) (a c:Int) (e0:w.cell? ⟨b,0,none⟩=some x0) (e1:w.cell? ⟨b,1,none⟩=some x1) (z0:w.frozen? ⟨b,0,none⟩=false) (z1:w.frozen? ⟨b,1,none⟩=false):(storeVar 24 ⟨b,0,none⟩ (.agg #[.int .u64 a,.int .u64 c])).run Tryz.prog w=.ok () ((w.setCell ⟨b,0,none⟩ (.int .u64 a)).setCell ⟨b,1,none⟩ (.int .u64 c)):=by
 simp [storeVar,go_sem,e0,e1,z0,z1]
set_option linter.unusedVariables false
set_option linter.unusedSimpArgs false

def zLn (WL:Nat→Int):Nat→Int | 0=>9218868437227405312 | n+1=>min (zLn WL n) (WL n)
def zHn (WH:Nat→Int):Nat→Int | 0=>-9218868437227405312 | n+1=>max (zHn WH n) (WH n)
theorem pI_I9:pI 9218868437227405312=9218868437227405312:=by decide
theorem pI_M9:pI (-9218868437227405312)=18442240474082181120:=by decide
def HullS (a b u v:Int):Prop:=∃ P1 P2 P3:World→Value→Prop,(∀ (W W':World) (v:Value),Kp W W'→P1 W v→P1 W' v)∧(∀ W:World,Calls Tryz.prog 47 #[.agg #[.int .u64 (pI a),.int .u64 (pI b)]] W fun e w'=>∃ v,e=.returned v∧P1 w' v∧Kp W w')∧(∀ W:World,Calls Tryz.prog 47 #[.agg #[.int .u64 (pI u),.int .u64 (pI v)]] W fun e w'=>∃ v,e=.returned v∧P2 w' v∧Kp W w')∧(∀ (W:World) (x y:Value),P1 W x→P2 W y→Calls Tryz.prog 100 #[x,y] W fun e w'=>∃ v',e=.returned v'∧P3 w' v'∧Kp W w')∧(∀ (W:World) (x:Value),P3 W x→Calls Tryz.prog 99 #[x] W fun e w'=>e=.returned (.agg #[.int .u64 (pI (min a u)),.int .u64 (pI (max b v))])∧Kp W w')
theorem all9_ (p:Option Addr) (n cp:Nat) (hn:n≤1024) (f0 f1 f2 f3 f4 f5 f6 f7 f8 f9 f10 f11 f12:Nat→Value) (x0 x1:Value) (L H:Int) (WL WH:Nat→Int) (w:World) (hr:KC 98 #[.agg #[x0,x1]] (.agg #[.int .u64 (pI L),.int .u64 (pI H)])) (hl:n=0∨∃ g off,p=some ⟨g,off,none⟩∧g<w.heap.size∧∀ j,j<n→w.cell? ⟨g,off+j*13,none⟩=some (f0 j)∧w.cell? ⟨g,off+j*13+1,none⟩=some (f1 j)∧w.cell? ⟨g,off+j*13+2,none⟩=some (f2 j)∧w.cell? ⟨g,off+j*13+3,none⟩=some (f3 j)∧w.cell? ⟨g,off+j*13+4,none⟩=some (f4 j)∧w.cell? ⟨g,off+j*13+5,none⟩=some (f5 j)∧w.cell? ⟨g,off+j*13+6,none⟩=some (f6 j)∧w.cell? ⟨g,off+j*13+7,none⟩=some (f7 j)∧w.cell? ⟨g,off+j*13+8,none⟩=some (f8 j)∧w.cell? ⟨g,off+j*13+9,none⟩=some (f9 j)∧w.cell? ⟨g,off+j*13+10,none⟩=some (f10 j)∧w.cell? ⟨g,off+j*13+11,none⟩=some (f11 j)∧w.cell? ⟨g,off+j*13+12,none⟩=some (f12 j)) (hW:∀ j,j<n→VdZ (WL j) (WH j)∧∀ W:World,Kp w W→Calls Tryz.prog 92 #[.agg #[.int .u64 (pI L),.int .u64 (pI H)],.agg #[f0 j,f1 j,f2 j,f3 j,f4 j,f5 j,f6 j,f7 j,f8 j,f9 j,f10 j,f11 j,f12 j]] W fun e w'=>e=.returned (.agg #[.int .u64 (pI (WL j)),.int .u64 (pI (WH j))])∧Kp W w') (hs:∀ a b u v:Int,VdZ a b→VdZ u v→HullS a b u v):Calls Tryz.prog 44 #[.agg #[x0,x1],.slice p n cp] w fun e w'=>e=.returned (.agg #[.int .u64 (pI (zLn WL n)),.int .u64 (pI (zHn WH n))])∧Kp w w':=by
 obtain ⟨N,hN⟩:∃ N,N=n:=⟨_,rfl⟩
 have HN:Hid (N=n):=hN
 clear hN
 go_enter Tryz.func44,Tryz.ntmps44
 go_upto_region 3 with (first | (go_at_call 98;refine (hr _).mono ?_;rintro e w1 ⟨rfl,g1⟩) | (go_at_call 72;refine (rempty9_ _).mono ?_;rintro e w2 ⟨rfl,g2⟩))
 have kw1:Kp w (w1.alloc (.cells #[.int .u64 (pI L),.int .u64 (pI H)] 24)):=(Kp.trans (((Kp.refl w).alloc _).alloc _) g1).alloc _
 have hR:BK (w1.alloc (.cells #[.int .u64 (pI L),.int .u64 (pI H)] 24)) (w.heap.size+1) #[.int .u64 0,.int .u64 0] 24:=((BK.newAt (w:=(w.alloc (.cells #[x0,x1] 24))) (by simp) _ _).kp g1).kp ((Kp.refl _).alloc _)
 have hY:BK (w1.alloc (.cells #[.int .u64 (pI L),.int .u64 (pI H)] 24)) w1.heap.size #[.int .u64 (pI L),.int .u64 (pI H)] 24:=BK.new _ _ _
 have l1:w.heap.size+1<w1.heap.size:=by have:=Below.size g1;simp at this;omega
 have kw:Kp w (w2.alloc (.cells #[.int .u64 9218868437227405312,.int .u64 18442240474082181120] 24)):=(Kp.trans kw1 g2).alloc _
 replace hR:=(hR.kp g2).kp (w':=(w2.alloc (.cells #[.int .u64 9218868437227405312,.int .u64 18442240474082181120] 24))) ((Kp.refl _).alloc _)
 replace hY:=(hY.kp g2).kp (w':=(w2.alloc (.cells #[.int .u64 9218868437227405312,.int .u64 18442240474082181120] 24))) ((Kp.refl _).alloc _)
 have hZ:BK (w2.alloc (.cells #[.int .u64 9218868437227405312,.int .u64 18442240474082181120] 24)) w2.heap.size #[.int .u64 9218868437227405312,.int .u64 18442240474082181120] 24:=BK.new _ _ _
 have l2:w1.heap.size<w2.heap.size:=by have:=Below.size g2;simp at this;omega
 clear kw1 g1 g2
 generalize (w2.alloc (.cells #[.int .u64 9218868437227405312,.int .u64 18442240474082181120] 24))=W0 at kw hR hY hZ ⊢
 generalize w2.heap.size=zb at hZ l2 ⊢
 generalize w1.heap.size=yb at hY l1 l2 ⊢
 go_wp2
 go_loopw [7] (fun ii wr=>∃ i:Nat,ii=.int .i64 (i:Int)∧i≤n∧VdZ (zLn WL i) (zHn WH i)∧BK wr zb #[.int .u64 (pI (zLn WL i)),.int .u64 (pI (zHn WH i))] 24∧BK wr yb #[.int .u64 (pI L),.int .u64 (pI H)] 24∧BK wr (w.heap.size+1) #[.int .u64 0,.int .u64 0] 24∧Kp w wr) (fun ii _=>n - (intOf ii).toNat)
 case atStart=>exact ⟨0,rfl,Nat.zero_le _,Or.inl ⟨rfl,rfl⟩,by rw [show zLn WL 0=9218868437227405312 from rfl,show zHn WH 0 = -9218868437227405312 from rfl,pI_I9,pI_M9];exact hZ,hY,hR,kw⟩
 case round =>
  clear hZ hY hR kw
  obtain ⟨i,rfl,hi,hv,hZ,hY,hR,kw⟩:=hrel
  by_cases ci:i<n
  ·have ts0:(0:Int)≤(i:Int):=by omega
   have ts1:(i:Int)<(n:Int):=by omega
   rcases hl with hl | ⟨g,off,rfl,hg,hl⟩
   ·omega
   have hWi:=hW i ci
   obtain ⟨P1,P2,P3,hk1,hO1,hO2,hU,hL⟩:=hs _ _ _ _ hv hWi.1
   obtain ⟨l0,l1,l2,l3,l4,l5,l6,l7,l8,l9,l10,l11,l12⟩:=hl i ci
   replace l0:=kkeep kw l0;replace l1:=kkeep kw l1;replace l2:=kkeep kw l2;replace l3:=kkeep kw l3;replace l4:=kkeep kw l4;replace l5:=kkeep kw l5;replace l6:=kkeep kw l6;replace l7:=kkeep kw l7;replace l8:=kkeep kw l8;replace l9:=kkeep kw l9;replace l10:=kkeep kw l10;replace l11:=kkeep kw l11;replace l12:=kkeep kw l12
   go_upto_region 6 with fail
   generalize wr=W at kw hZ hY hR l0 l1 l2 l3 l4 l5 l6 l7 l8 l9 l10 l11 l12 ⊢
   have y0:W.cell? ⟨yb,0,none⟩=some (.int .u64 (pI L)):=(hY.cell 0).trans rfl
   have y1:W.cell? ⟨yb,1,none⟩=some (.int .u64 (pI H)):=(hY.cell 1).trans rfl
   have z0:W.drew.cell? ⟨zb,0,none⟩=some (.int .u64 (pI (zLn WL i))):=(hZ.cell 0).trans rfl
   have z1:W.drew.cell? ⟨zb,1,none⟩=some (.int .u64 (pI (zHn WH i))):=(hZ.cell 1).trans rfl
   have hle:w.heap.size≤zb:=by omega
   have gz:Kp W W.drew:=(Kp.refl _).drew
   refine wp_region_held_drew (S:=(fun w':World=>w'.cell? ⟨yb,0,none⟩=some (.int .u64 (pI L))∧w'.cell? ⟨yb,1,none⟩=some (.int .u64 (pI H))∧w'.cell? ⟨g,off+i*13,none⟩=some (f0 i)∧w'.cell? ⟨g,off+i*13+1,none⟩=some (f1 i)∧w'.cell? ⟨g,off+i*13+2,none⟩=some (f2 i)∧w'.cell? ⟨g,off+i*13+3,none⟩=some (f3 i)∧w'.cell? ⟨g,off+i*13+4,none⟩=some (f4 i)∧w'.cell? ⟨g,off+i*13+5,none⟩=some (f5 i)∧w'.cell? ⟨g,off+i*13+6,none⟩=some (f6 i)∧w'.cell? ⟨g,off+i*13+7,none⟩=some (f7 i)∧w'.cell? ⟨g,off+i*13+8,none⟩=some (f8 i)∧w'.cell? ⟨g,off+i*13+9,none⟩=some (f9 i)∧w'.cell? ⟨g,off+i*13+10,none⟩=some (f10 i)∧w'.cell? ⟨g,off+i*13+11,none⟩=some (f11 i)∧w'.cell? ⟨g,off+i*13+12,none⟩=some (f12 i))) (by kernel_rfl) ⟨kkeep gz y0,kkeep gz y1,kkeep gz l0,kkeep gz l1,kkeep gz l2,kkeep gz l3,kkeep gz l4,kkeep gz l5,kkeep gz l6,kkeep gz l7,kkeep gz l8,kkeep gz l9,kkeep gz l10,kkeep gz l11,kkeep gz l12⟩ (fun _=>?_)
   refine wpAnyH_take (i:=2) (v:=.agg #[.int .u64 (pI L),.int .u64 (pI H)]) rfl (by kernel_rfl) (by kernel_rfl) (by kernel_rfl) (fun _ _ _ h=>h) (Or.inl ⟨by rfl,fun w _hS=>exL rfl _ rfl (loadIa w yb 0 _ _ _hS.1 _hS.2.1)⟩) ⟨kkeep gz y0,kkeep gz y1,kkeep gz l0,kkeep gz l1,kkeep gz l2,kkeep gz l3,kkeep gz l4,kkeep gz l5,kkeep gz l6,kkeep gz l7,kkeep gz l8,kkeep gz l9,kkeep gz l10,kkeep gz l11,kkeep gz l12⟩ ?_
   try simp only [Act.put,List.getElem_toArray,List.getElem_cons_zero,List.getElem_cons_succ,List.setIfInBounds_toArray,List.set_cons_zero,List.set_cons_succ]
   refine wpAnyH_take (i:=3) (v:=.slice (some ⟨g,off,none⟩) n cp) rfl (by kernel_rfl) (by kernel_rfl) (by kernel_rfl) (fun _ _ _ h=>h) (Or.inl ⟨by rfl,fun w _hS=>rfl⟩) ⟨kkeep gz y0,kkeep gz y1,kkeep gz l0,kkeep gz l1,kkeep gz l2,kkeep gz l3,kkeep gz l4,kkeep gz l5,kkeep gz l6,kkeep gz l7,kkeep gz l8,kkeep gz l9,kkeep gz l10,kkeep gz l11,kkeep gz l12⟩ ?_
   try simp only [Act.put,List.getElem_toArray,List.getElem_cons_zero,List.getElem_cons_succ,List.setIfInBounds_toArray,List.set_cons_zero,List.set_cons_succ]
   refine wpAnyH_take (i:=4) (v:=.int .i64 (i:Int)) rfl (by kernel_rfl) (by kernel_rfl) (by kernel_rfl) (fun _ _ _ h=>h) (Or.inl ⟨by rfl,fun w _hS=>rfl⟩) ⟨kkeep gz y0,kkeep gz y1,kkeep gz l0,kkeep gz l1,kkeep gz l2,kkeep gz l3,kkeep gz l4,kkeep gz l5,kkeep gz l6,kkeep gz l7,kkeep gz l8,kkeep gz l9,kkeep gz l10,kkeep gz l11,kkeep gz l12⟩ ?_
   try simp only [Act.put,List.getElem_toArray,List.getElem_cons_zero,List.getElem_cons_succ,List.setIfInBounds_toArray,List.set_cons_zero,List.set_cons_succ]
   refine wpAnyH_take (i:=5) (v:=.pointer (some ⟨g,off+i*13,none⟩)) rfl (by kernel_rfl) (by kernel_rfl) (by kernel_rfl) (fun _ _ _ h=>h) (Or.inl ⟨by rfl,fun w _hS=>by simp [go_sem,ts0,ts1]⟩) ⟨kkeep gz y0,kkeep gz y1,kkeep gz l0,kkeep gz l1,kkeep gz l2,kkeep gz l3,kkeep gz l4,kkeep gz l5,kkeep gz l6,kkeep gz l7,kkeep gz l8,kkeep gz l9,kkeep gz l10,kkeep gz l11,kkeep gz l12⟩ ?_
   try simp only [Act.put,List.getElem_toArray,List.getElem_cons_zero,List.getElem_cons_succ,List.setIfInBounds_toArray,List.set_cons_zero,List.set_cons_succ]
   refine wpAnyH_take (i:=6) (v:=.agg #[f0 i,f1 i,f2 i,f3 i,f4 i,f5 i,f6 i,f7 i,f8 i,f9 i,f10 i,f11 i,f12 i]) rfl (by kernel_rfl) (by kernel_rfl) (by kernel_rfl) (fun _ _ _ h=>h) (Or.inl ⟨by rfl,fun w _hS=>exL rfl _ rfl (loadPa w g (off+i*13) _ _ _ _ _ _ _ _ _ _ _ _ _ _hS.2.2.1 _hS.2.2.2.1 _hS.2.2.2.2.1 _hS.2.2.2.2.2.1 _hS.2.2.2.2.2.2.1 _hS.2.2.2.2.2.2.2.1 _hS.2.2.2.2.2.2.2.2.1 _hS.2.2.2.2.2.2.2.2.2.1 _hS.2.2.2.2.2.2.2.2.2.2.1 _hS.2.2.2.2.2.2.2.2.2.2.2.1 _hS.2.2.2.2.2.2.2.2.2.2.2.2.1 _hS.2.2.2.2.2.2.2.2.2.2.2.2.2.1 _hS.2.2.2.2.2.2.2.2.2.2.2.2.2.2)⟩) ⟨kkeep gz y0,kkeep gz y1,kkeep gz l0,kkeep gz l1,kkeep gz l2,kkeep gz l3,kkeep gz l4,kkeep gz l5,kkeep gz l6,kkeep gz l7,kkeep gz l8,kkeep gz l9,kkeep gz l10,kkeep gz l11,kkeep gz l12⟩ ?_
   try simp only [Act.put,List.getElem_toArray,List.getElem_cons_zero,List.getElem_cons_succ,List.setIfInBounds_toArray,List.set_cons_zero,List.set_cons_succ]
   refine wpAnyH_ready (rs:=[0]) (by kernel_rfl) (by simp) ?_
   refine AllReadyH.cons rfl (fun K hK=>?_) AllReadyH.nil
   refine wpo_load 24 _ rfl zb 0 rfl _ (loadI W.drew zb 0 _ _ z0 z1) ?_
   refine hK.out _ _ ⟨kkeep gz y0,kkeep gz y1,kkeep gz l0,kkeep gz l1,kkeep gz l2,kkeep gz l3,kkeep gz l4,kkeep gz l5,kkeep gz l6,kkeep gz l7,kkeep gz l8,kkeep gz l9,kkeep gz l10,kkeep gz l11,kkeep gz l12⟩ (fun _=>?_)
   clear hK K
   try simp only [Act.put,List.getElem_toArray,List.getElem_cons_zero,List.getElem_cons_succ,List.setIfInBounds_toArray,List.set_cons_zero,List.set_cons_succ]
   refine wpAnyH_ready (rs:=[1]) (by kernel_rfl) (by simp) ?_
   refine AllReadyH.cons rfl (fun K hK=>?_) AllReadyH.nil
   go_simp
   refine (hO1 _).mono ?_
   rintro e w3 ⟨v3,rfl,p3,g3⟩
   have j3:=gz.trans g3
   go_wp2_with fail
   refine hK.out _ _ ⟨kkeep j3 y0,kkeep j3 y1,kkeep j3 l0,kkeep j3 l1,kkeep j3 l2,kkeep j3 l3,kkeep j3 l4,kkeep j3 l5,kkeep j3 l6,kkeep j3 l7,kkeep j3 l8,kkeep j3 l9,kkeep j3 l10,kkeep j3 l11,kkeep j3 l12⟩ (fun _=>?_)
   clear hK K
   try simp only [Act.put,List.getElem_toArray,List.getElem_cons_zero,List.getElem_cons_succ,List.setIfInBounds_toArray,List.set_cons_zero,List.set_cons_succ]
   refine wpAnyH_ready (rs:=[7]) (by kernel_rfl) (by simp) ?_
   refine AllReadyH.cons rfl (fun K hK=>?_) AllReadyH.nil
   go_simp
   refine (hWi.2 _ (Kp.trans kw j3)).mono ?_
   rintro e w4 ⟨rfl,g4⟩
   have j4:=j3.trans g4
   go_wp2_with fail
   refine hK.out _ _ ⟨kkeep j4 y0,kkeep j4 y1,kkeep j4 l0,kkeep j4 l1,kkeep j4 l2,kkeep j4 l3,kkeep j4 l4,kkeep j4 l5,kkeep j4 l6,kkeep j4 l7,kkeep j4 l8,kkeep j4 l9,kkeep j4 l10,kkeep j4 l11,kkeep j4 l12⟩ (fun _=>?_)
   clear hK K
   try simp only [Act.put,List.getElem_toArray,List.getElem_cons_zero,List.getElem_cons_succ,List.setIfInBounds_toArray,List.set_cons_zero,List.set_cons_succ]
   refine wpAnyH_ready (rs:=[8]) (by kernel_rfl) (by simp) ?_
   refine AllReadyH.cons rfl (fun K hK=>?_) AllReadyH.nil
   go_simp
   refine (hO2 _).mono ?_
   rintro e w5 ⟨v5,rfl,p5,g5⟩
   have j5:=j4.trans g5
   go_wp2_with fail
   refine hK.out _ _ ⟨kkeep j5 y0,kkeep j5 y1,kkeep j5 l0,kkeep j5 l1,kkeep j5 l2,kkeep j5 l3,kkeep j5 l4,kkeep j5 l5,kkeep j5 l6,kkeep j5 l7,kkeep j5 l8,kkeep j5 l9,kkeep j5 l10,kkeep j5 l11,kkeep j5 l12⟩ (fun _=>?_)
   clear hK K
   try simp only [Act.put,List.getElem_toArray,List.getElem_cons_zero,List.getElem_cons_succ,List.setIfInBounds_toArray,List.set_cons_zero,List.set_cons_succ]
   refine wpAnyH_ready (rs:=[9]) (by kernel_rfl) (by simp) ?_
   refine AllReadyH.cons rfl (fun K hK=>?_) AllReadyH.nil
   go_simp
   refine (hU _ _ _ (hk1 _ _ _ (Kp.trans g4 g5) p3) p5).mono ?_
   rintro e w6 ⟨v6,rfl,p6,g6⟩
   have j6:=j5.trans g6
   go_wp2_with fail
   refine hK.out _ _ ⟨kkeep j6 y0,kkeep j6 y1,kkeep j6 l0,kkeep j6 l1,kkeep j6 l2,kkeep j6 l3,kkeep j6 l4,kkeep j6 l5,kkeep j6 l6,kkeep j6 l7,kkeep j6 l8,kkeep j6 l9,kkeep j6 l10,kkeep j6 l11,kkeep j6 l12⟩ (fun _=>?_)
   clear hK K
   try simp only [Act.put,List.getElem_toArray,List.getElem_cons_zero,List.getElem_cons_succ,List.setIfInBounds_toArray,List.set_cons_zero,List.set_cons_succ]
   refine wpAnyH_ready (rs:=[10]) (by kernel_rfl) (by simp) ?_
   refine AllReadyH.cons rfl (fun K hK=>?_) AllReadyH.nil
   go_simp
   refine (hL _ _ p6).mono ?_
   rintro e w7 ⟨rfl,g7⟩
   have j7:=j6.trans g7
   go_wp2_with fail
   refine hK.out _ _ ⟨kkeep j7 y0,kkeep j7 y1,kkeep j7 l0,kkeep j7 l1,kkeep j7 l2,kkeep j7 l3,kkeep j7 l4,kkeep j7 l5,kkeep j7 l6,kkeep j7 l7,kkeep j7 l8,kkeep j7 l9,kkeep j7 l10,kkeep j7 l11,kkeep j7 l12⟩ (fun _=>?_)
   clear hK K
   try simp only [Act.put,List.getElem_toArray,List.getElem_cons_zero,List.getElem_cons_succ,List.setIfInBounds_toArray,List.set_cons_zero,List.set_cons_succ]
   replace hZ:=hZ.kp j7
   have hst:=storeI w7 zb _ _ (pI (min (zLn WL i) (WL i))) (pI (max (zHn WH i) (WH i))) ((hZ.cell 0).trans rfl) ((hZ.cell 1).trans rfl) (hZ.frozen 0) (hZ.frozen 1)
   refine wpAnyH_ready (rs:=[11]) (by kernel_rfl) (by simp) ?_
   refine AllReadyH.cons rfl (fun K hK=>?_) AllReadyH.nil
   refine wpo_store 24 _ _ rfl zb 0 rfl _ rfl _ hst ?_
   refine hK.out _ _ ?zS (fun _=>?_)
   case zS=>exact ⟨(CF _ _ _ _ (by simp;omega)).trans ((CF _ _ _ _ (by simp;omega)).trans (kkeep j7 y0)),(CF _ _ _ _ (by simp;omega)).trans ((CF _ _ _ _ (by simp;omega)).trans (kkeep j7 y1)),(CF _ _ _ _ (by simp;omega)).trans ((CF _ _ _ _ (by simp;omega)).trans (kkeep j7 l0)),(CF _ _ _ _ (by simp;omega)).trans ((CF _ _ _ _ (by simp;omega)).trans (kkeep j7 l1)),(CF _ _ _ _ (by simp;omega)).trans ((CF _ _ _ _ (by simp;omega)).trans (kkeep j7 l2)),(CF _ _ _ _ (by simp;omega)).trans ((CF _ _ _ _ (by simp;omega)).trans (kkeep j7 l3)),(CF _ _ _ _ (by simp;omega)).trans ((CF _ _ _ _ (by simp;omega)).trans (kkeep j7 l4)),(CF _ _ _ _ (by simp;omega)).trans ((CF _ _ _ _ (by simp;omega)).trans (kkeep j7 l5)),(CF _ _ _ _ (by simp;omega)).trans ((CF _ _ _ _ (by simp;omega)).trans (kkeep j7 l6)),(CF _ _ _ _ (by simp;omega)).trans ((CF _ _ _ _ (by simp;omega)).trans (kkeep j7 l7)),(CF _ _ _ _ (by simp;omega)).trans ((CF _ _ _ _ (by simp;omega)).trans (kkeep j7 l8)),(CF _ _ _ _ (by simp;omega)).trans ((CF _ _ _ _ (by simp;omega)).trans (kkeep j7 l9)),(CF _ _ _ _ (by simp;omega)).trans ((CF _ _ _ _ (by simp;omega)).trans (kkeep j7 l10)),(CF _ _ _ _ (by simp;omega)).trans ((CF _ _ _ _ (by simp;omega)).trans (kkeep j7 l11)),(CF _ _ _ _ (by simp;omega)).trans ((CF _ _ _ _ (by simp;omega)).trans (kkeep j7 l12))⟩
   clear hK K
   try simp only [Act.put,List.getElem_toArray,List.getElem_cons_zero,List.getElem_cons_succ,List.setIfInBounds_toArray,List.set_cons_zero,List.set_cons_succ]
   refine wpAnyH_done (by kernel_rfl) ?_ _
   replace kw:=((Kp.trans kw j7).setCell (p:=⟨zb,0,none⟩) hle (.int .u64 (pI (min (zLn WL i) (WL i))))).setCell (p:=⟨zb,1,none⟩) hle (.int .u64 (pI (max (zHn WH i) (WH i))))
   replace hY:=((hY.kp j7).far ⟨zb,0,none⟩ (.int .u64 (pI (min (zLn WL i) (WL i)))) (by simp;omega)).far ⟨zb,1,none⟩ (.int .u64 (pI (max (zHn WH i) (WH i)))) (by simp;omega)
   replace hR:=((hR.kp j7).far ⟨zb,0,none⟩ (.int .u64 (pI (min (zLn WL i) (WL i)))) (by simp;omega)).far ⟨zb,1,none⟩ (.int .u64 (pI (max (zHn WH i) (WH i)))) (by simp;omega)
   replace hZ:BK ((w7.setCell ⟨zb,0,none⟩ (.int .u64 (pI (min (zLn WL i) (WL i))))).setCell ⟨zb,1,none⟩ (.int .u64 (pI (max (zHn WH i) (WH i))))) zb #[.int .u64 (pI (zLn WL (i+1))),.int .u64 (pI (zHn WH (i+1)))] 24:=(hZ.put 0 (.int .u64 (pI (min (zLn WL i) (WL i))))).put 1 (.int .u64 (pI (max (zHn WH i) (WH i))))
   clear l0 l1
   generalize ((w7.setCell ⟨zb,0,none⟩ (.int .u64 (pI (min (zLn WL i) (WL i))))).setCell ⟨zb,1,none⟩ (.int .u64 (pI (max (zHn WH i) (WH i)))))=W8 at kw hZ hY hR ⊢
   go_wp2
   exact ⟨⟨i+1,by go_num,by omega,vd_hull _ _ _ _ hv hWi.1,hZ,hY,hR,kw⟩,by simp [intOf];omega⟩
  ·have hin:i=n:=by omega
   subst hin
   have z0:wr.cell? ⟨zb,0,none⟩=some (.int .u64 (pI (zLn WL i))):=(hZ.cell 0).trans rfl
   have z1:wr.cell? ⟨zb,1,none⟩=some (.int .u64 (pI (zHn WH i))):=(hZ.cell 1).trans rfl
   obtain ⟨r0,rz0,r1,rz1⟩:=(show BK wr (w.heap.size+1) #[.int .u64 0,.int .u64 0] _ from hR).c2;skip
   go_wp2
   exact BR (v:=.agg #[.int .u64 (pI (zLn WL i)),.int .u64 (pI (zHn WH i))]) (by simp [results,Tryz.results44,go_sem,r0,r1]) rfl ⟨rfl,((kw.setCell (by first | omega | (simp <;> omega)) _).setCell (by first | omega | (simp <;> omega)) _)⟩
set_option linter.unusedVariables false
set_option linter.unusedSimpArgs false

def iz (z:Int):Int:=infS (decide (z<0)) z.natAbs
def Vz (z:Int):Int:=Iv (fN (decide (z<0)) z.natAbs) (fM z.natAbs)
theorem iz_fin (z:Int) (h:z.natAbs≠9218868437227405312):iz z=0∧Vz z=Iv (decide (z<0)) z.natAbs:=by
 unfold iz Vz infS fN fM
 rw [if_neg h,if_neg h,if_neg h]
 exact ⟨rfl,rfl⟩
theorem iz_inf (z:Int) (h:z.natAbs=9218868437227405312):(z=9218868437227405312∧iz z=1∨z = -9218868437227405312∧iz z = -1)∧Vz z=0:=by
 have e:Vz z=0:=by unfold Vz fN fM;rw [if_pos h,if_pos h];exact iv0_
 rcases (by omega:z=9218868437227405312∨z = -9218868437227405312) with c1 | c1
 ·exact ⟨Or.inl ⟨c1,by rw [c1];decide⟩,e⟩
 ·exact ⟨Or.inr ⟨c1,by rw [c1];decide⟩,e⟩
set_option linter.unusedVariables false
set_option linter.unusedSimpArgs false
theorem sumA_ (i j:Int) s p l c q k d s2 p2 l2 c2 q2 k2 d2 (t1:(i != 0)=true) (w:World):Calls Tryz.prog 104 #[.agg #[.int .i64 i,.bool s,.slice p l c,.slice q k d],.agg #[.int .i64 j,.bool s2,.slice p2 l2 c2,.slice q2 k2 d2]] w fun e w'=>e=.returned (.agg #[.int .i64 i,.bool s,.slice p l c,.slice q k d])∧Kp w w':=by
 go_enter Tryz.func104,Tryz.ntmps104
 go_wp2
 exact BR (v:=.agg #[.int .i64 i,.bool s,.slice p l c,.slice q k d]) (by simp [results,Tryz.results104,go_sem]) rfl ⟨rfl,(by repeat (with_reducible (first | assumption | exact Kp.refl _ | apply Kp.drew | apply Kp.alloc | apply Kp.drewN | (refine Kp.setCell ?_ (by first | omega | (simp <;> omega)) _) | (refine Kp.trans ?_ (by assumption)))))⟩
theorem sumB_ (i j:Int) s p l c q k d s2 p2 l2 c2 q2 k2 d2 (t1:(i != 0)=false) (t2:(j != 0)=true) (w:World):Calls Tryz.prog 104 #[.agg #[.int .i64 i,.bool s,.slice p l c,.slice q k d],.agg #[.int .i64 j,.bool s2,.slice p2 l2 c2,.slice q2 k2 d2]] w fun e w'=>e=.returned (.agg #[.int .i64 j,.bool s2,.slice p2 l2 c2,.slice q2 k2 d2])∧Kp w w':=by
 go_enter Tryz.func104,Tryz.ntmps104
 go_wp2
 exact BR (v:=.agg #[.int .i64 j,.bool s2,.slice p2 l2 c2,.slice q2 k2 d2]) (by simp [results,Tryz.results104,go_sem]) rfl ⟨rfl,(by repeat (with_reducible (first | assumption | exact Kp.refl _ | apply Kp.drew | apply Kp.alloc | apply Kp.drewN | (refine Kp.setCell ?_ (by first | omega | (simp <;> omega)) _) | (refine Kp.trans ?_ (by assumption)))))⟩
def sI (i j:Int):Int:=if i=0 then j else i
theorem none6_ (w:World):Calls Tryz.prog 103 #[] w fun e w'=>∃ (s:Bool) (p:Option Addr) (l c:Nat) (q:Option Addr) (k d:Nat) (s2:Bool) (p2:Option Addr) (l2 c2:Nat) (q2:Option Addr) (k2 d2:Nat),e=.returned (.agg #[.bool true,.int .i64 0,.bool s,.slice p l c,.slice q k d,.int .i64 0,.bool s2,.slice p2 l2 c2,.slice q2 k2 d2])∧Kp w w':=by
 go_enter Tryz.func103,Tryz.ntmps103
 go_wp2_with (first | (go_at_call 74;refine (fin0_ _).mono ?_;rintro e wh ⟨s2,p2,l2,c2,q2,k2,d2,rfl,hp2,gh⟩;have kh:=Kp.trans kl gh;obtain ⟨R0,Rz0,R1,Rz1,R2,Rz2,R3,Rz3,R4,Rz4,R5,Rz5,R6,Rz6,R7,Rz7,R8,Rz8⟩:=AK9 gh ⟨r0,rz0,r1,rz1,r2,rz2,r3,rz3,r4,rz4,r5,rz5,r6,rz6,r7,rz7,r8,rz8⟩) | (go_at_call 74;refine (fin0_ _).mono ?_;rintro e wl ⟨s,p,l,c,q,k,d,rfl,hp,gl⟩;have kl:Kp w wl:=Kp.trans ((Kp.refl w).alloc _) gl;obtain ⟨r0,rz0,r1,rz1,r2,rz2,r3,rz3,r4,rz4,r5,rz5,r6,rz6,r7,rz7,r8,rz8⟩:=FK9 gl (w.heap.size) (.bool false) (.int .i64 0) (.bool false) (.slice none 0 0) (.slice none 0 0) (.int .i64 0) (.bool false) (.slice none 0 0) (.slice none 0 0) (by simp [go_sem])))
 exact BR (v:=.agg #[.bool true,.int .i64 0,.bool s,.slice p l c,.slice q k d,.int .i64 0,.bool s2,.slice p2 l2 c2,.slice q2 k2 d2]) (by simp [results,Tryz.results103,go_sem,R0,R1,R2,R3,R4,R5,R6,R7,R8]) rfl ⟨s,p,l,c,q,k,d,s2,p2,l2,c2,q2,k2,d2,rfl,KS9 (kh) (Nat.le_refl _)⟩
theorem plusE1_ (i j i2 j2:Int) (N2:Bool) s p l c q k d s2 p2 l2 c2 q2 k2 d2 s3 p3 l3 c3 q3 k3 d3 s4 p4 l4 c4 q4 k4 d4 (w:World):Calls Tryz.prog 46 #[.agg #[.bool true,.int .i64 i,.bool s,.slice p l c,.slice q k d,.int .i64 j,.bool s2,.slice p2 l2 c2,.slice q2 k2 d2],.agg #[.bool N2,.int .i64 i2,.bool s3,.slice p3 l3 c3,.slice q3 k3 d3,.int .i64 j2,.bool s4,.slice p4 l4 c4,.slice q4 k4 d4]] w fun e w'=>∃ (s5:Bool) (p5:Option Addr) (l5 c5:Nat) (q5:Option Addr) (k5 d5:Nat) (s6:Bool) (p6:Option Addr) (l6 c6:Nat) (q6:Option Addr) (k6 d6:Nat),e=.returned (.agg #[.bool true,.int .i64 0,.bool s5,.slice p5 l5 c5,.slice q5 k5 d5,.int .i64 0,.bool s6,.slice p6 l6 c6,.slice q6 k6 d6])∧Kp w w':=by
 go_enter Tryz.func46,Tryz.ntmps46
 go_wp2_with (first | (go_at_call 103;refine (none6_ _).mono ?_;rintro e w1 ⟨s5,p5,l5,c5,q5,k5,d5,s6,p6,l6,c6,q6,k6,d6,rfl,g1⟩;obtain ⟨r0,rz0,r1,rz1,r2,rz2,r3,rz3,r4,rz4,r5,rz5,r6,rz6,r7,rz7,r8,rz8⟩:=FK9 g1 (w.heap.size+2) (.bool false) (.int .i64 0) (.bool false) (.slice none 0 0) (.slice none 0 0) (.int .i64 0) (.bool false) (.slice none 0 0) (.slice none 0 0) (by simp [go_sem])))
 exact BR (v:=.agg #[.bool true,.int .i64 0,.bool s5,.slice p5 l5 c5,.slice q5 k5 d5,.int .i64 0,.bool s6,.slice p6 l6 c6,.slice q6 k6 d6]) (by simp [results,Tryz.results46,go_sem,r0,r1,r2,r3,r4,r5,r6,r7,r8]) rfl ⟨s5,p5,l5,c5,q5,k5,d5,s6,p6,l6,c6,q6,k6,d6,rfl,KS9 ((Kp.trans ((((Kp.refl w).alloc _).alloc _).alloc _) g1)) (by first | omega | (simp <;> omega))⟩
theorem plusE2_ (i j i2 j2:Int) s p l c q k d s2 p2 l2 c2 q2 k2 d2 s3 p3 l3 c3 q3 k3 d3 s4 p4 l4 c4 q4 k4 d4 (w:World):Calls Tryz.prog 46 #[.agg #[.bool false,.int .i64 i,.bool s,.slice p l c,.slice q k d,.int .i64 j,.bool s2,.slice p2 l2 c2,.slice q2 k2 d2],.agg #[.bool true,.int .i64 i2,.bool s3,.slice p3 l3 c3,.slice q3 k3 d3,.int .i64 j2,.bool s4,.slice p4 l4 c4,.slice q4 k4 d4]] w fun e w'=>∃ (s5:Bool) (p5:Option Addr) (l5 c5:Nat) (q5:Option Addr) (k5 d5:Nat) (s6:Bool) (p6:Option Addr) (l6 c6:Nat) (q6:Option Addr) (k6 d6:Nat),e=.returned (.agg #[.bool true,.int .i64 0,.bool s5,.slice p5 l5 c5,.slice q5 k5 d5,.int .i64 0,.bool s6,.slice p6 l6 c6,.slice q6 k6 d6])∧Kp w w':=by
 go_enter Tryz.func46,Tryz.ntmps46
 go_wp2_with (first | (go_at_call 103;refine (none6_ _).mono ?_;rintro e w1 ⟨s5,p5,l5,c5,q5,k5,d5,s6,p6,l6,c6,q6,k6,d6,rfl,g1⟩;obtain ⟨r0,rz0,r1,rz1,r2,rz2,r3,rz3,r4,rz4,r5,rz5,r6,rz6,r7,rz7,r8,rz8⟩:=FK9 g1 (w.heap.size+2) (.bool false) (.int .i64 0) (.bool false) (.slice none 0 0) (.slice none 0 0) (.int .i64 0) (.bool false) (.slice none 0 0) (.slice none 0 0) (by simp [go_sem])))
 exact BR (v:=.agg #[.bool true,.int .i64 0,.bool s5,.slice p5 l5 c5,.slice q5 k5 d5,.int .i64 0,.bool s6,.slice p6 l6 c6,.slice q6 k6 d6]) (by simp [results,Tryz.results46,go_sem,r0,r1,r2,r3,r4,r5,r6,r7,r8]) rfl ⟨s5,p5,l5,c5,q5,k5,d5,s6,p6,l6,c6,q6,k6,d6,rfl,KS9 ((Kp.trans ((((Kp.refl w).alloc _).alloc _).alloc _) g1)) (by first | omega | (simp <;> omega))⟩
theorem sumVN_ (Z:Int) s p l c q k d s2 p2 l2 c2 q2 k2 d2 (w:World) (hq:∀ W:World,Kp w W→Calls Tryz.prog 151 #[.agg #[.bool s,.slice p l c,.slice q k d],.agg #[.bool s2,.slice p2 l2 c2,.slice q2 k2 d2]] W fun e w'=>∃ s3 p3 l3 c3 q3 k3 d3,e=.returned (.agg #[.bool s3,.slice p3 l3 c3,.slice q3 k3 d3])∧VP W.heap.size w' s3 p3 l3 c3 q3 k3 d3 Z∧Kp W w'):Calls Tryz.prog 104 #[.agg #[.int .i64 0,.bool s,.slice p l c,.slice q k d],.agg #[.int .i64 0,.bool s2,.slice p2 l2 c2,.slice q2 k2 d2]] w fun e w'=>∃ s3 p3 l3 c3 q3 k3 d3,e=.returned (.agg #[.int .i64 0,.bool s3,.slice p3 l3 c3,.slice q3 k3 d3])∧VP w.heap.size w' s3 p3 l3 c3 q3 k3 d3 Z∧Kp w w':=by
 go_enter Tryz.func104,Tryz.ntmps104
 go_wp2_with (first | (go_at_call 151;refine (hq _ ?q0).mono ?_;(case q0=>exact (((Kp.refl w).alloc _).alloc _).alloc _);rintro e w1 ⟨s3,p3,l3,c3,q3,k3,d3,rfl,hp,g1⟩;obtain ⟨r0,rz0,r1,rz1,r2,rz2,r3,rz3⟩:=FK4 g1 (w.heap.size+2) (.int .i64 0) (.bool false) (.slice none 0 0) (.slice none 0 0) (by simp [go_sem])))
 exact BR (v:=.agg #[.int .i64 0,.bool s3,.slice p3 l3 c3,.slice q3 k3 d3]) (by simp [results,Tryz.results104,go_sem,r0,r1,r2,r3]) rfl ⟨s3,p3,l3,c3,q3,k3,d3,rfl,VP.mono (((((hp).set (x:=⟨w.heap.size+2,0,none⟩) (by simp) (.int .i64 0)).set (x:=⟨w.heap.size+2,1,none⟩) (by simp) (.bool s3)).set (x:=⟨w.heap.size+2,2,none⟩) (by simp) (.slice p3 l3 c3)).set (x:=⟨w.heap.size+2,3,none⟩) (by simp) (.slice q3 k3 d3)) (by simp;omega),KS4 ((Kp.trans ((((Kp.refl w).alloc _).alloc _).alloc _) g1)) (by first | omega | (simp <;> omega))⟩
def sVx (i j V V':Int):Int:=if i=0 then (if j=0 then V+V' else V') else V
theorem sumV9_ (i j:Int) (n n':Bool) (m m':Nat) s p l c q k d s2 p2 l2 c2 q2 k2 d2 (w:World) (h1:RP 0 w s p l c q k d n m) (h2:RP 0 w s2 p2 l2 c2 q2 k2 d2 n' m'):Calls Tryz.prog 104 #[.agg #[.int .i64 i,.bool s,.slice p l c,.slice q k d],.agg #[.int .i64 j,.bool s2,.slice p2 l2 c2,.slice q2 k2 d2]] w fun e w'=>∃ s3 p3 l3 c3 q3 k3 d3,e=.returned (.agg #[.int .i64 (sI i j),.bool s3,.slice p3 l3 c3,.slice q3 k3 d3])∧VP 0 w' s3 p3 l3 c3 q3 k3 d3 (sVx i j (Iv n m) (Iv n' m'))∧Kp w w':=by
 unfold sVx
 by_cases ci:i=0
 ·by_cases cj:j=0
  ·subst ci cj
   rw [if_pos rfl,if_pos rfl]
   refine (sumVN_ (Iv n m+Iv n' m') s p l c q k d s2 p2 l2 c2 q2 k2 d2 w (fun W g=>vadd_ n n' m m' s p l c q k d s2 p2 l2 c2 q2 k2 d2 0 0 W (h1.kp g) (h2.kp g))).mono ?_
   rintro e w' ⟨s3,p3,l3,c3,q3,k3,d3,rfl,hp,g⟩
   exact ⟨s3,p3,l3,c3,q3,k3,d3,rfl,hp.mono (Nat.zero_le _),g⟩
  ·rw [if_pos ci,if_neg cj]
   refine (sumB_ i j s p l c q k d s2 p2 l2 c2 q2 k2 d2 (by simp [ci]) (by simp [cj]) w).mono ?_
   rintro e w' ⟨rfl,g⟩
   exact ⟨s2,p2,l2,c2,q2,k2,d2,by simp [sI,ci],(h2.kp g).vp,g⟩
 ·rw [if_neg ci]
  refine (sumA_ i j s p l c q k d s2 p2 l2 c2 q2 k2 d2 (by simp [ci]) w).mono ?_
  rintro e w' ⟨rfl,g⟩
  exact ⟨s,p,l,c,q,k,d,by simp [sI,ci],(h1.kp g).vp,g⟩
theorem plusV9_ (i1 i2 i5 i6:Int) (nA nB nC nD:Bool) (mA mB mC mD:Nat) s p l c q k d s2 p2 l2 c2 q2 k2 d2 s5 p5 l5 c5 q5 k5 d5 s6 p6 l6 c6 q6 k6 d6 (w:World) (h1:RP 0 w s p l c q k d nA mA) (h2:RP 0 w s2 p2 l2 c2 q2 k2 d2 nB mB) (h5:RP 0 w s5 p5 l5 c5 q5 k5 d5 nC mC) (h6:RP 0 w s6 p6 l6 c6 q6 k6 d6 nD mD):Calls Tryz.prog 46 #[.agg #[.bool false,.int .i64 i1,.bool s,.slice p l c,.slice q k d,.int .i64 i2,.bool s2,.slice p2 l2 c2,.slice q2 k2 d2],.agg #[.bool false,.int .i64 i5,.bool s5,.slice p5 l5 c5,.slice q5 k5 d5,.int .i64 i6,.bool s6,.slice p6 l6 c6,.slice q6 k6 d6]] w fun e w'=>∃ (s7:Bool) (p7:Option Addr) (l7 c7:Nat) (q7:Option Addr) (k7 d7:Nat) (s8:Bool) (p8:Option Addr) (l8 c8:Nat) (q8:Option Addr) (k8 d8:Nat),e=.returned (.agg #[.bool false,.int .i64 (sI i1 i5),.bool s7,.slice p7 l7 c7,.slice q7 k7 d7,.int .i64 (sI i2 i6),.bool s8,.slice p8 l8 c8,.slice q8 k8 d8])∧VP 0 w' s7 p7 l7 c7 q7 k7 d7 (sVx i1 i5 (Iv nA mA) (Iv nC mC))∧VP 0 w' s8 p8 l8 c8 q8 k8 d8 (sVx i2 i6 (Iv nB mB) (Iv nD mD))∧Kp w w':=by
 go_enter Tryz.func46,Tryz.ntmps46
 go_wp2
 have kw:Kp w (((w.alloc (.cells #[.bool false,.int .i64 i1,.bool s,.slice p l c,.slice q k d,.int .i64 i2,.bool s2,.slice p2 l2 c2,.slice q2 k2 d2] 66)).alloc (.cells #[.bool false,.int .i64 i5,.bool s5,.slice p5 l5 c5,.slice q5 k5 d5,.int .i64 i6,.bool s6,.slice p6 l6 c6,.slice q6 k6 d6] 66)).alloc (.cells #[.bool false,.int .i64 0,.bool false,.slice none 0 0,.slice none 0 0,.int .i64 0,.bool false,.slice none 0 0,.slice none 0 0] 66)):=(((Kp.refl w).alloc _).alloc _).alloc _
 have hS:BK (((w.alloc (.cells #[.bool false,.int .i64 i1,.bool s,.slice p l c,.slice q k d,.int .i64 i2,.bool s2,.slice p2 l2 c2,.slice q2 k2 d2] 66)).alloc (.cells #[.bool false,.int .i64 i5,.bool s5,.slice p5 l5 c5,.slice q5 k5 d5,.int .i64 i6,.bool s6,.slice p6 l6 c6,.slice q6 k6 d6] 66)).alloc (.cells #[.bool false,.int .i64 0,.bool false,.slice none 0 0,.slice none 0 0,.int .i64 0,.bool false,.slice none 0 0,.slice none 0 0] 66)) w.heap.size #[.bool false,.int .i64 i1,.bool s,.slice p l c,.slice q k d,.int .i64 i2,.bool s2,.slice p2 l2 c2,.slice q2 k2 d2] 66:=((BK.new w _ _).kp ((Kp.refl _).alloc _)).kp ((Kp.refl _).alloc _)
 have hT:BK (((w.alloc (.cells #[.bool false,.int .i64 i1,.bool s,.slice p l c,.slice q k d,.int .i64 i2,.bool s2,.slice p2 l2 c2,.slice q2 k2 d2] 66)).alloc (.cells #[.bool false,.int .i64 i5,.bool s5,.slice p5 l5 c5,.slice q5 k5 d5,.int .i64 i6,.bool s6,.slice p6 l6 c6,.slice q6 k6 d6] 66)).alloc (.cells #[.bool false,.int .i64 0,.bool false,.slice none 0 0,.slice none 0 0,.int .i64 0,.bool false,.slice none 0 0,.slice none 0 0] 66)) (w.heap.size+1) #[.bool false,.int .i64 i5,.bool s5,.slice p5 l5 c5,.slice q5 k5 d5,.int .i64 i6,.bool s6,.slice p6 l6 c6,.slice q6 k6 d6] 66:=(BK.newAt (by simp) _ _).kp ((Kp.refl _).alloc _)
 have hR:BK (((w.alloc (.cells #[.bool false,.int .i64 i1,.bool s,.slice p l c,.slice q k d,.int .i64 i2,.bool s2,.slice p2 l2 c2,.slice q2 k2 d2] 66)).alloc (.cells #[.bool false,.int .i64 i5,.bool s5,.slice p5 l5 c5,.slice q5 k5 d5,.int .i64 i6,.bool s6,.slice p6 l6 c6,.slice q6 k6 d6] 66)).alloc (.cells #[.bool false,.int .i64 0,.bool false,.slice none 0 0,.slice none 0 0,.int .i64 0,.bool false,.slice none 0 0,.slice none 0 0] 66)) (w.heap.size+2) #[.bool false,.int .i64 0,.bool false,.slice none 0 0,.slice none 0 0,.int .i64 0,.bool false,.slice none 0 0,.slice none 0 0] 66:=BK.newAt (by simp) _ _
 generalize (((w.alloc (.cells #[.bool false,.int .i64 i1,.bool s,.slice p l c,.slice q k d,.int .i64 i2,.bool s2,.slice p2 l2 c2,.slice q2 k2 d2] 66)).alloc (.cells #[.bool false,.int .i64 i5,.bool s5,.slice p5 l5 c5,.slice q5 k5 d5,.int .i64 i6,.bool s6,.slice p6 l6 c6,.slice q6 k6 d6] 66)).alloc (.cells #[.bool false,.int .i64 0,.bool false,.slice none 0 0,.slice none 0 0,.int .i64 0,.bool false,.slice none 0 0,.slice none 0 0] 66))=W at kw hS hT hR ⊢
 have xw0:W.cell? ⟨w.heap.size,1,none⟩=some (.int .i64 i1):=(hS.cell 1).trans rfl
 have dw0:W.drew.cell? ⟨w.heap.size,1,none⟩=some (.int .i64 i1):=xw0
 have xw1:W.cell? ⟨w.heap.size,2,none⟩=some (.bool s):=(hS.cell 2).trans rfl
 have dw1:W.drew.cell? ⟨w.heap.size,2,none⟩=some (.bool s):=xw1
 have xw2:W.cell? ⟨w.heap.size,3,none⟩=some (.slice p l c):=(hS.cell 3).trans rfl
 have dw2:W.drew.cell? ⟨w.heap.size,3,none⟩=some (.slice p l c):=xw2
 have xw3:W.cell? ⟨w.heap.size,4,none⟩=some (.slice q k d):=(hS.cell 4).trans rfl
 have dw3:W.drew.cell? ⟨w.heap.size,4,none⟩=some (.slice q k d):=xw3
 have xw4:W.cell? ⟨w.heap.size,5,none⟩=some (.int .i64 i2):=(hS.cell 5).trans rfl
 have dw4:W.drew.cell? ⟨w.heap.size,5,none⟩=some (.int .i64 i2):=xw4
 have xw5:W.cell? ⟨w.heap.size,6,none⟩=some (.bool s2):=(hS.cell 6).trans rfl
 have dw5:W.drew.cell? ⟨w.heap.size,6,none⟩=some (.bool s2):=xw5
 have xw6:W.cell? ⟨w.heap.size,7,none⟩=some (.slice p2 l2 c2):=(hS.cell 7).trans rfl
 have dw6:W.drew.cell? ⟨w.heap.size,7,none⟩=some (.slice p2 l2 c2):=xw6
 have xw7:W.cell? ⟨w.heap.size,8,none⟩=some (.slice q2 k2 d2):=(hS.cell 8).trans rfl
 have dw7:W.drew.cell? ⟨w.heap.size,8,none⟩=some (.slice q2 k2 d2):=xw7
 have xw8:W.cell? ⟨w.heap.size+1,1,none⟩=some (.int .i64 i5):=(hT.cell 1).trans rfl
 have dw8:W.drew.cell? ⟨w.heap.size+1,1,none⟩=some (.int .i64 i5):=xw8
 have xw9:W.cell? ⟨w.heap.size+1,2,none⟩=some (.bool s5):=(hT.cell 2).trans rfl
 have dw9:W.drew.cell? ⟨w.heap.size+1,2,none⟩=some (.bool s5):=xw9
 have xw10:W.cell? ⟨w.heap.size+1,3,none⟩=some (.slice p5 l5 c5):=(hT.cell 3).trans rfl
 have dw10:W.drew.cell? ⟨w.heap.size+1,3,none⟩=some (.slice p5 l5 c5):=xw10
 have xw11:W.cell? ⟨w.heap.size+1,4,none⟩=some (.slice q5 k5 d5):=(hT.cell 4).trans rfl
 have dw11:W.drew.cell? ⟨w.heap.size+1,4,none⟩=some (.slice q5 k5 d5):=xw11
 have xw12:W.cell? ⟨w.heap.size+1,5,none⟩=some (.int .i64 i6):=(hT.cell 5).trans rfl
 have dw12:W.drew.cell? ⟨w.heap.size+1,5,none⟩=some (.int .i64 i6):=xw12
 have xw13:W.cell? ⟨w.heap.size+1,6,none⟩=some (.bool s6):=(hT.cell 6).trans rfl
 have dw13:W.drew.cell? ⟨w.heap.size+1,6,none⟩=some (.bool s6):=xw13
 have xw14:W.cell? ⟨w.heap.size+1,7,none⟩=some (.slice p6 l6 c6):=(hT.cell 7).trans rfl
 have dw14:W.drew.cell? ⟨w.heap.size+1,7,none⟩=some (.slice p6 l6 c6):=xw14
 have xw15:W.cell? ⟨w.heap.size+1,8,none⟩=some (.slice q6 k6 d6):=(hT.cell 8).trans rfl
 have dw15:W.drew.cell? ⟨w.heap.size+1,8,none⟩=some (.slice q6 k6 d6):=xw15
 have hn1:w.heap.size+2≠w.heap.size:=by omega
 have hn2:w.heap.size+2≠w.heap.size+1:=by omega
 go_region_held3 (fun w'=>w'.cell? ⟨w.heap.size,1,none⟩=some (.int .i64 i1)∧w'.cell? ⟨w.heap.size,2,none⟩=some (.bool s)∧w'.cell? ⟨w.heap.size,3,none⟩=some (.slice p l c)∧w'.cell? ⟨w.heap.size,4,none⟩=some (.slice q k d)∧w'.cell? ⟨w.heap.size,5,none⟩=some (.int .i64 i2)∧w'.cell? ⟨w.heap.size,6,none⟩=some (.bool s2)∧w'.cell? ⟨w.heap.size,7,none⟩=some (.slice p2 l2 c2)∧w'.cell? ⟨w.heap.size,8,none⟩=some (.slice q2 k2 d2)∧w'.cell? ⟨w.heap.size+1,1,none⟩=some (.int .i64 i5)∧w'.cell? ⟨w.heap.size+1,2,none⟩=some (.bool s5)∧w'.cell? ⟨w.heap.size+1,3,none⟩=some (.slice p5 l5 c5)∧w'.cell? ⟨w.heap.size+1,4,none⟩=some (.slice q5 k5 d5)∧w'.cell? ⟨w.heap.size+1,5,none⟩=some (.int .i64 i6)∧w'.cell? ⟨w.heap.size+1,6,none⟩=some (.bool s6)∧w'.cell? ⟨w.heap.size+1,7,none⟩=some (.slice p6 l6 c6)∧w'.cell? ⟨w.heap.size+1,8,none⟩=some (.slice q6 k6 d6)) (first | (with_reducible exact ⟨xw0,xw1,xw2,xw3,xw4,xw5,xw6,xw7,xw8,xw9,xw10,xw11,xw12,xw13,xw14,xw15⟩) | (with_reducible exact ⟨dw0,dw1,dw2,dw3,dw4,dw5,dw6,dw7,dw8,dw9,dw10,dw11,dw12,dw13,dw14,dw15⟩) | (with_reducible exact ⟨wA0,wA1,wA2,wA3,wA4,wA5,wA6,wA7,wA8,wA9,wA10,wA11,wA12,wA13,wA14,wA15⟩) | (with_reducible exact ⟨wB0,wB1,wB2,wB3,wB4,wB5,wB6,wB7,wB8,wB9,wB10,wB11,wB12,wB13,wB14,wB15⟩) | (exact ⟨(CF9 hn1 wB0),(CF9 hn1 wB1),(CF9 hn1 wB2),(CF9 hn1 wB3),(CF9 hn1 wB4),(CF9 hn1 wB5),(CF9 hn1 wB6),(CF9 hn1 wB7),(CF9 hn2 wB8),(CF9 hn2 wB9),(CF9 hn2 wB10),(CF9 hn2 wB11),(CF9 hn2 wB12),(CF9 hn2 wB13),(CF9 hn2 wB14),(CF9 hn2 wB15)⟩)) (first | (have z9:=kA;clear z9;go_at_call 104;refine (sumV9_ i2 i6 nB nD mB mD s2 p2 l2 c2 q2 k2 d2 s6 p6 l6 c6 q6 k6 d6 _ (h2.kp (Kp.trans kw kA)) (h6.kp (Kp.trans kw kA))).mono ?_;rintro e wB ⟨s8,p8,l8,c8,q8,k8,d8,rfl,vB,gB⟩;have kB:Kp W wB:=Kp.trans kA gB;have hRB:=hR.kp kB;obtain ⟨r0,rz0,r1,rz1,r2,rz2,r3,rz3,r4,rz4,r5,rz5,r6,rz6,r7,rz7,r8,rz8⟩:=(show BK wB (w.heap.size+2) #[.bool false,.int .i64 0,.bool false,.slice none 0 0,.slice none 0 0,.int .i64 0,.bool false,.slice none 0 0,.slice none 0 0] _ from hRB).c9;skip;have wB0:=kkeep kB xw0;have wB1:=kkeep kB xw1;have wB2:=kkeep kB xw2;have wB3:=kkeep kB xw3;have wB4:=kkeep kB xw4;have wB5:=kkeep kB xw5;have wB6:=kkeep kB xw6;have wB7:=kkeep kB xw7;have wB8:=kkeep kB xw8;have wB9:=kkeep kB xw9;have wB10:=kkeep kB xw10;have wB11:=kkeep kB xw11;have wB12:=kkeep kB xw12;have wB13:=kkeep kB xw13;have wB14:=kkeep kB xw14;have wB15:=kkeep kB xw15) | (go_at_call 104;refine (sumV9_ i1 i5 nA nC mA mC s p l c q k d s5 p5 l5 c5 q5 k5 d5 _ (h1.kp kw.drew) (h5.kp kw.drew)).mono ?_;rintro e wA ⟨s7,p7,l7,c7,q7,k7,d7,rfl,vA,gA⟩;have kA:Kp W wA:=Kp.trans (Kp.drew (Kp.refl _)) gA;have wA0:=kkeep kA xw0;have wA1:=kkeep kA xw1;have wA2:=kkeep kA xw2;have wA3:=kkeep kA xw3;have wA4:=kkeep kA xw4;have wA5:=kkeep kA xw5;have wA6:=kkeep kA xw6;have wA7:=kkeep kA xw7;have wA8:=kkeep kA xw8;have wA9:=kkeep kA xw9;have wA10:=kkeep kA xw10;have wA11:=kkeep kA xw11;have wA12:=kkeep kA xw12;have wA13:=kkeep kA xw13;have wA14:=kkeep kA xw14;have wA15:=kkeep kA xw15))
 go_wp2
 have vA2:=vA.kp gB
 exact BR (v:=.agg #[.bool false,.int .i64 (sI i1 i5),.bool s7,.slice p7 l7 c7,.slice q7 k7 d7,.int .i64 (sI i2 i6),.bool s8,.slice p8 l8 c8,.slice q8 k8 d8]) (by simp [results,Tryz.results46,go_sem,r0,r1,r2,r3,r4,r5,r6,r7,r8]) rfl ⟨s7,p7,l7,c7,q7,k7,d7,s8,p8,l8,c8,q8,k8,d8,rfl,(((((((((vA2.setB hRB (by decide) 0 _).setB (hRB.put 0 _) (by decide) 1 _).setB ((hRB.put 0 _).put 1 _) (by decide) 2 _).setB (((hRB.put 0 _).put 1 _).put 2 _) (by decide) 3 _).setB ((((hRB.put 0 _).put 1 _).put 2 _).put 3 _) (by decide) 4 _).setB (((((hRB.put 0 _).put 1 _).put 2 _).put 3 _).put 4 _) (by decide) 5 _).setB ((((((hRB.put 0 _).put 1 _).put 2 _).put 3 _).put 4 _).put 5 _) (by decide) 6 _).setB (((((((hRB.put 0 _).put 1 _).put 2 _).put 3 _).put 4 _).put 5 _).put 6 _) (by decide) 7 _).setB ((((((((hRB.put 0 _).put 1 _).put 2 _).put 3 _).put 4 _).put 5 _).put 6 _).put 7 _) (by decide) 8 _),(((((((((vB.setB hRB (by decide) 0 _).setB (hRB.put 0 _) (by decide) 1 _).setB ((hRB.put 0 _).put 1 _) (by decide) 2 _).setB (((hRB.put 0 _).put 1 _).put 2 _) (by decide) 3 _).setB ((((hRB.put 0 _).put 1 _).put 2 _).put 3 _) (by decide) 4 _).setB (((((hRB.put 0 _).put 1 _).put 2 _).put 3 _).put 4 _) (by decide) 5 _).setB ((((((hRB.put 0 _).put 1 _).put 2 _).put 3 _).put 4 _).put 5 _) (by decide) 6 _).setB (((((((hRB.put 0 _).put 1 _).put 2 _).put 3 _).put 4 _).put 5 _).put 6 _) (by decide) 7 _).setB ((((((((hRB.put 0 _).put 1 _).put 2 _).put 3 _).put 4 _).put 5 _).put 6 _).put 7 _) (by decide) 8 _),KS9 ((Kp.trans kw kB)) (by first | omega | (simp <;> omega))⟩
end Go.Proofs.YtmpjcknaelgnoaaGreatDoor
