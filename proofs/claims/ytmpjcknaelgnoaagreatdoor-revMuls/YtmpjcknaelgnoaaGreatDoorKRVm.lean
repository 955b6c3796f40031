import Derived.Test.YtmpjcknaelgnoaaGreatDoorKRLc
set_option maxHeartbeats 4000000
set_option maxRecDepth 20000
namespace Go.Proofs.YtmpjcknaelgnoaaGreatDoor
open Go.RowKit Tryz
set_option linter.all false
theorem vL {P:Program}{op:Oper}{a:Act}{w:World}{K:Act->World->Prop}{Q:Exit->Act->World->Prop}(ty:TypeId)(x:Operand)(ho:op.op=.load ty x)(b o:Nat)(hx:a.eval x=.pointer (some ⟨b,o,none⟩))(v:Value)(hr:(loadVar ty ⟨b,o,none⟩).run P w=.ok v w)(h:K (a.put op.dst v) w):op.wp P a w K Q:=by
 unfold Oper.wp execOp
 simp only[ho,hx,Instr.loadAt,Instr.sureAddr,Sem.run_bind,Sem.run_pure,Result.andThen_ok,hr]
 exact h
theorem uk {P:Program}{op:Oper}{a:Act}{w:World}{K:Act->World->Prop}{Q:Exit->Act->World->Prop}(ty:TypeId)(x y:Operand)(ho:op.op=.store ty x y)(b o:Nat)(hx:a.eval x=.pointer (some ⟨b,o,none⟩))(v:Value)(hy:a.eval y=v)(w2:World)(hr:(storeVar ty ⟨b,o,none⟩ v).run P w=.ok () w2)(h:K (a.put op.dst undef) w2):op.wp P a w K Q:=by
 unfold Oper.wp execOp
 simp only[ho,hx,hy,Instr.storeAt,Instr.sureAddr,Sem.run_bind,Sem.run_pure,Result.andThen_ok,hr]
 exact h
theorem Hs {P:Program}{ρ:Operand->Value}{op:Oper}{t:TypeId}{x:Operand}{w:World}{v:Value}(ho:op.op=.load t x)(p:Value)(hx:ρ x=p)(hr:(Instr.loadAt t p).run P w=.ok v w):(execOp ρ op).run P w=.ok (.value v) w:=by
 unfold execOp
 simp only[ho,hx,Sem.run_bind,Sem.run_pure,Result.andThen_ok,hr]
theorem Bu (w:World)(b o:Nat)(x0 x1:Value)(e0:w.cell? ⟨b,o,none⟩=some x0)(e1:w.cell? ⟨b,o+1,none⟩=some x1):(loadVar 24 ⟨b,o,none⟩).run prog w=.ok (.agg #[x0,x1]) w :=
 run_loadVar_mid (P:=prog) w b o 24 [x0,x1] _ (fun j v hv=>by
 match j,hv with
 | 0,hv=>simp at hv;rw[<-hv];exact e0
 | 1,hv=>simp at hv;rw[<-hv];exact e1
 | n+2,hv=>simp at hv) underlying24 rfl (by kernel_rfl)
theorem Dh (w:World)(b o:Nat)(x0 x1:Value)(e0:w.cell? ⟨b,o,none⟩=some x0)(e1:w.cell? ⟨b,o+1,none⟩=some x1):(Instr.loadAt 24 (.pointer (some ⟨b,o,none⟩))).run prog w=.ok (.agg #[x0,x1]) w:=by
 simp only[Instr.loadAt,Instr.sureAddr,Sem.run_bind,Sem.run_pure,Result.andThen]
 exact Bu w b o x0 x1 e0 e1
theorem Fv (w:World)(b o:Nat)(x0 x1 x2 x3 x4 x5 x6 x7 x8 x9 x10 x11 x12:Value)(e0:w.cell? ⟨b,o,none⟩=some x0)(e1:w.cell? ⟨b,o+1,none⟩=some x1)(e2:w.cell? ⟨b,o+2,none⟩=some x2)(e3:w.cell? ⟨b,o+3,none⟩=some x3)(e4:w.cell? ⟨b,o+4,none⟩=some x4)(e5:w.cell? ⟨b,o+5,none⟩=some x5)(e6:w.cell? ⟨b,o+6,none⟩=some x6)(e7:w.cell? ⟨b,o+7,none⟩=some x7)(e8:w.cell? ⟨b,o+8,none⟩=some x8)(e9:w.cell? ⟨b,o+9,none⟩=some x9)(e10:w.cell? ⟨b,o+10,none⟩=some x10)(e11:w.cell? ⟨b,o+11,none⟩=some x11)(e12:w.cell? ⟨b,o+12,none⟩=some x12):(loadVar 61 ⟨b,o,none⟩).run prog w=.ok (.agg #[x0,x1,x2,x3,x4,x5,x6,x7,x8,x9,x10,x11,x12]) w :=
 run_loadVar_mid (P:=prog) w b o 61 [x0,x1,x2,x3,x4,x5,x6,x7,x8,x9,x10,x11,x12] _ (fun j v hv=>by
 match j,hv with
 | 0,hv=>simp at hv;rw[<-hv];exact e0
 | 1,hv=>simp at hv;rw[<-hv];exact e1
 | 2,hv=>simp at hv;rw[<-hv];exact e2
 | 3,hv=>simp at hv;rw[<-hv];exact e3
 | 4,hv=>simp at hv;rw[<-hv];exact e4
 | 5,hv=>simp at hv;rw[<-hv];exact e5
 | 6,hv=>simp at hv;rw[<-hv];exact e6
 | 7,hv=>simp at hv;rw[<-hv];exact e7
 | 8,hv=>simp at hv;rw[<-hv];exact e8
 | 9,hv=>simp at hv;rw[<-hv];exact e9
 | 10,hv=>simp at hv;rw[<-hv];exact e10
 | 11,hv=>simp at hv;rw[<-hv];exact e11
 | 12,hv=>simp at hv;rw[<-hv];exact e12
 | n+13,hv=>simp at hv) underlying61 rfl (by kernel_rfl)
theorem Dg (w:World)(b o:Nat)(x0 x1 x2 x3 x4 x5 x6 x7 x8 x9 x10 x11 x12:Value)(e0:w.cell? ⟨b,o,none⟩=some x0)(e1:w.cell? ⟨b,o+1,none⟩=some x1)(e2:w.cell? ⟨b,o+2,none⟩=some x2)(e3:w.cell? ⟨b,o+3,none⟩=some x3)(e4:w.cell? ⟨b,o+4,none⟩=some x4)(e5:w.cell? ⟨b,o+5,none⟩=some x5)(e6:w.cell? ⟨b,o+6,none⟩=some x6)(e7:w.cell? ⟨b,o+7,none⟩=some x7)(e8:w.cell? ⟨b,o+8,none⟩=some x8)(e9:w.cell? ⟨b,o+9,none⟩=some x9)(e10:w.cell? ⟨b,o+10,none⟩=some x10)(e11:w.cell? ⟨b,o+11,none⟩=some x11)(e12:w.cell? ⟨b,o+12,none⟩=some x12):(Instr.loadAt 61 (.pointer (some ⟨b,o,none⟩))).run prog w=.ok (.agg #[x0,x1,x2,x3,x4,x5,x6,x7,x8,x9,x10,x11,x12]) w:=by
 simp only[Instr.loadAt,Instr.sureAddr,Sem.run_bind,Sem.run_pure,Result.andThen]
 exact Fv w b o x0 x1 x2 x3 x4 x5 x6 x7 x8 x9 x10 x11 x12 e0 e1 e2 e3 e4 e5 e6 e7 e8 e9 e10 e11 e12
theorem Cf (w:World)(b:Nat)(x0 x1:Value)(a c:Int)(e0:w.cell? ⟨b,0,none⟩=some x0)(e1:w.cell? ⟨b,1,none⟩=some x1)(z0:w.frozen? ⟨b,0,none⟩=false)(z1:w.frozen? ⟨b,1,none⟩=false):(storeVar 24 ⟨b,0,none⟩ (.agg #[.int .u64 a,.int .u64 c])).run prog w=.ok () ((w.setCell ⟨b,0,none⟩ (.int .u64 a)).setCell ⟨b,1,none⟩ (.int .u64 c)):=by
 simp[storeVar,go_sem,e0,e1,z0,z1]

def nZ (WL:Nat->Int):Nat->Int|0=>9218868437227405312|n+1=>min (nZ WL n) (WL n)
def oe (WH:Nat->Int):Nat->Int|0=>-9218868437227405312|n+1=>max (oe WH n) (WH n)
theorem lK:pI 9218868437227405312=9218868437227405312:=by decide
theorem mJ:pI (-9218868437227405312)=18442240474082181120:=by decide
def yM (a b u v:Int):Prop:=∃P1 P2 P3:World->Value->Prop,(∀(W W':World)(v:Value),Kp W W'->P1 W v->P1 W' v)∧(∀W:World,Calls prog 47 #[.agg #[.int .u64 (pI a),.int .u64 (pI b)]] W fun e w'=>∃v,e=.returned v∧P1 w' v∧Kp W w')∧(∀W:World,Calls prog 47 #[.agg #[.int .u64 (pI u),.int .u64 (pI v)]] W fun e w'=>∃v,e=.returned v∧P2 w' v∧Kp W w')∧(∀(W:World)(x y:Value),P1 W x->P2 W y->Calls prog 100 #[x,y] W fun e w'=>∃v',e=.returned v'∧P3 w' v'∧Kp W w')∧(∀(W:World)(x:Value),P3 W x->Calls prog 99 #[x] W (RT (.agg #[.int .u64 (pI (min a u)),.int .u64 (pI (max b v))]) W))
theorem yI (p:Option Addr)(n cp:Nat)(hn:n<=1024)(f0 f1 f2 f3 f4 f5 f6 f7 f8 f9 f10 f11 f12:Nat->Value)(x0 x1:Value)(L H:Int)(WL WH:Nat->Int)(w:World)(hr:KC 98 #[.agg #[x0,x1]] (.agg #[.int .u64 (pI L),.int .u64 (pI H)]))(hl:n=0∨∃g off,p=some ⟨g,off,none⟩∧g<w.heap.size∧∀j,j<n->w.cell? ⟨g,off+j*13,none⟩=some (f0 j)∧w.cell? ⟨g,off+j*13+1,none⟩=some (f1 j)∧w.cell? ⟨g,off+j*13+2,none⟩=some (f2 j)∧w.cell? ⟨g,off+j*13+3,none⟩=some (f3 j)∧w.cell? ⟨g,off+j*13+4,none⟩=some (f4 j)∧w.cell? ⟨g,off+j*13+5,none⟩=some (f5 j)∧w.cell? ⟨g,off+j*13+6,none⟩=some (f6 j)∧w.cell? ⟨g,off+j*13+7,none⟩=some (f7 j)∧w.cell? ⟨g,off+j*13+8,none⟩=some (f8 j)∧w.cell? ⟨g,off+j*13+9,none⟩=some (f9 j)∧w.cell? ⟨g,off+j*13+10,none⟩=some (f10 j)∧w.cell? ⟨g,off+j*13+11,none⟩=some (f11 j)∧w.cell? ⟨g,off+j*13+12,none⟩=some (f12 j))(hW:∀j,j<n->VdZ (WL j) (WH j)∧KW w 92 #[.agg #[.int .u64 (pI L),.int .u64 (pI H)],.agg #[f0 j,f1 j,f2 j,f3 j,f4 j,f5 j,f6 j,f7 j,f8 j,f9 j,f10 j,f11 j,f12 j]] (.agg #[.int .u64 (pI (WL j)),.int .u64 (pI (WH j))]))(hs:∀a b u v:Int,VdZ a b->VdZ u v->yM a b u v):Calls prog 44 #[.agg #[x0,x1],.slice p n cp] w (RT (.agg #[.int .u64 (pI (nZ WL n)),.int .u64 (pI (oe WH n))]) w):=by
 obtain⟨N,hN⟩:=aA n
 have HN:Hid (N=n):=hN
 clear hN
 go_enter func44,ntmps44
 go_upto_region 3 with(first|(go_at_call 98;refine(hr _).mono ?_;rintro e Q ⟨rfl,X⟩)|(go_at_call 72;refine(iW _).mono ?_;rintro e P ⟨rfl,U⟩))
 have T:Kp w (Q.alloc (.cells #[.int .u64 (pI L),.int .u64 (pI H)] 24)):=(Kp.trans (((Kp.refl w).alloc _).alloc _) X).alloc _
 have O:BK (Q.alloc (.cells #[.int .u64 (pI L),.int .u64 (pI H)] 24)) (w.heap.size+1) #[.int .u64 0,.int .u64 0] 24:=((BK.newAt (w:=(w.alloc (.cells #[x0,x1] 24))) (by simp) _ _).kp X).kp ((Kp.refl _).alloc _)
 have I:BK (Q.alloc (.cells #[.int .u64 (pI L),.int .u64 (pI H)] 24)) Q.heap.size #[.int .u64 (pI L),.int .u64 (pI H)] 24:=BK.new _ _ _
 have r:w.heap.size+1<Q.heap.size:=by have:=Below.size X;simp at this;omega
 have m:Kp w (P.alloc (.cells #[.int .u64 9218868437227405312,.int .u64 18442240474082181120] 24)):=(Kp.trans T U).alloc _
 replace O:=(O.kp U).kp (w':=(P.alloc (.cells #[.int .u64 9218868437227405312,.int .u64 18442240474082181120] 24))) ((Kp.refl _).alloc _)
 replace I:=(I.kp U).kp (w':=(P.alloc (.cells #[.int .u64 9218868437227405312,.int .u64 18442240474082181120] 24))) ((Kp.refl _).alloc _)
 have o:BK (P.alloc (.cells #[.int .u64 9218868437227405312,.int .u64 18442240474082181120] 24)) P.heap.size #[.int .u64 9218868437227405312,.int .u64 18442240474082181120] 24:=BK.new _ _ _
 have q:Q.heap.size<P.heap.size:=by have:=Below.size U;simp at this;omega
 clear T X U
 generalize (P.alloc (.cells #[.int .u64 9218868437227405312,.int .u64 18442240474082181120] 24))=W0 at m O I o|-
 generalize P.heap.size=zb at o q|-
 generalize Q.heap.size=yb at I r q|-
 go_wp2
 go_loopw [7] (fun ii wr=>∃i:Nat,ii=.int .i64 (i:Int)∧i<=n∧VdZ (nZ WL i) (oe WH i)∧BK wr zb #[.int .u64 (pI (nZ WL i)),.int .u64 (pI (oe WH i))] 24∧BK wr yb #[.int .u64 (pI L),.int .u64 (pI H)] 24∧BK wr (w.heap.size+1) #[.int .u64 0,.int .u64 0] 24∧Kp w wr) (fun ii _=>n-(intOf ii).toNat)
 case atStart=>exact⟨0,rfl,aW _,Or.inl ⟨rfl,rfl⟩,by rw[show nZ WL 0=9218868437227405312 from rfl,show oe WH 0 = -9218868437227405312 from rfl,lK,mJ];exact o,I,O,m⟩
 case round =>
  clear o I O m
  obtain⟨i,rfl,hi,hv,o,I,O,m⟩:=hrel
  by_cases ci:i<n
  ·have ad:(0:Int)<=(i:Int):=by omega
   have aa:(i:Int)<(n:Int):=by omega
   rcases hl with hl|⟨g,off,rfl,hg,hl⟩
   ·omega
   have R:=hW i ci
   obtain⟨P1,P2,P3,Y,ab,Z,hU,hL⟩:=hs _ _ _ _ hv R.1
   obtain⟨t,r,q,B,x,E,C,F,A,D,k,l,f⟩:=hl i ci
   replace t:=ac m t;replace r:=ac m r;replace q:=ac m q;replace B:=ac m B;replace x:=ac m x;replace E:=ac m E;replace C:=ac m C;replace F:=ac m F;replace A:=ac m A;replace D:=ac m D;replace k:=ac m k;replace l:=ac m l;replace f:=ac m f
   go_upto_region 6 with fail
   generalize wr=W at m o I O t r q B x E C F A D k l f|-
   have J:W.cell? ⟨yb,0,none⟩=some (.int .u64 (pI L)):=(I.cell 0).trans rfl
   have M:W.cell? ⟨yb,1,none⟩=some (.int .u64 (pI H)):=(I.cell 1).trans rfl
   have z0:W.drew.cell? ⟨zb,0,none⟩=some (.int .u64 (pI (nZ WL i))):=(o.cell 0).trans rfl
   have z1:W.drew.cell? ⟨zb,1,none⟩=some (.int .u64 (pI (oe WH i))):=(o.cell 1).trans rfl
   have V:w.heap.size<=zb:=by omega
   have c:Kp W W.drew:=(Kp.refl _).drew
   refine wp_region_held_drew (S:=(fun w':World=>w'.cell? ⟨yb,0,none⟩=some (.int .u64 (pI L))∧w'.cell? ⟨yb,1,none⟩=some (.int .u64 (pI H))∧w'.cell? ⟨g,off+i*13,none⟩=some (f0 i)∧w'.cell? ⟨g,off+i*13+1,none⟩=some (f1 i)∧w'.cell? ⟨g,off+i*13+2,none⟩=some (f2 i)∧w'.cell? ⟨g,off+i*13+3,none⟩=some (f3 i)∧w'.cell? ⟨g,off+i*13+4,none⟩=some (f4 i)∧w'.cell? ⟨g,off+i*13+5,none⟩=some (f5 i)∧w'.cell? ⟨g,off+i*13+6,none⟩=some (f6 i)∧w'.cell? ⟨g,off+i*13+7,none⟩=some (f7 i)∧w'.cell? ⟨g,off+i*13+8,none⟩=some (f8 i)∧w'.cell? ⟨g,off+i*13+9,none⟩=some (f9 i)∧w'.cell? ⟨g,off+i*13+10,none⟩=some (f10 i)∧w'.cell? ⟨g,off+i*13+11,none⟩=some (f11 i)∧w'.cell? ⟨g,off+i*13+12,none⟩=some (f12 i))) (by kernel_rfl) ⟨ac c J,ac c M,ac c t,ac c r,ac c q,ac c B,ac c x,ac c E,ac c C,ac c F,ac c A,ac c D,ac c k,ac c l,ac c f⟩ (fun _=>?_)
   refine wpAnyH_take (i:=2) (v:=.agg #[.int .u64 (pI L),.int .u64 (pI H)]) rfl (by kernel_rfl) (by kernel_rfl) (by kernel_rfl) (fun _ _ _ h=>h) (Or.inl ⟨by rfl,fun w _hS=>Hs rfl _ rfl (Dh w yb 0 _ _ _hS.1 _hS.2.1)⟩) ⟨ac c J,ac c M,ac c t,ac c r,ac c q,ac c B,ac c x,ac c E,ac c C,ac c F,ac c A,ac c D,ac c k,ac c l,ac c f⟩ ?_
   try simp only[Act.put,aJ,aC,aD,ax,aO,aL]
   refine wpAnyH_take (i:=3) (v:=.slice (some ⟨g,off,none⟩) n cp) rfl (by kernel_rfl) (by kernel_rfl) (by kernel_rfl) (fun _ _ _ h=>h) (Or.inl ⟨by rfl,fun w _hS=>rfl⟩) ⟨ac c J,ac c M,ac c t,ac c r,ac c q,ac c B,ac c x,ac c E,ac c C,ac c F,ac c A,ac c D,ac c k,ac c l,ac c f⟩ ?_
   try simp only[Act.put,aJ,aC,aD,ax,aO,aL]
   refine wpAnyH_take (i:=4) (v:=.int .i64 (i:Int)) rfl (by kernel_rfl) (by kernel_rfl) (by kernel_rfl) (fun _ _ _ h=>h) (Or.inl ⟨by rfl,fun w _hS=>rfl⟩) ⟨ac c J,ac c M,ac c t,ac c r,ac c q,ac c B,ac c x,ac c E,ac c C,ac c F,ac c A,ac c D,ac c k,ac c l,ac c f⟩ ?_
   try simp only[Act.put,aJ,aC,aD,ax,aO,aL]
   refine wpAnyH_take (i:=5) (v:=.pointer (some ⟨g,off+i*13,none⟩)) rfl (by kernel_rfl) (by kernel_rfl) (by kernel_rfl) (fun _ _ _ h=>h) (Or.inl ⟨by rfl,fun w _hS=>by simp[go_sem,ad,aa]⟩) ⟨ac c J,ac c M,ac c t,ac c r,ac c q,ac c B,ac c x,ac c E,ac c C,ac c F,ac c A,ac c D,ac c k,ac c l,ac c f⟩ ?_
   try simp only[Act.put,aJ,aC,aD,ax,aO,aL]
   refine wpAnyH_take (i:=6) (v:=.agg #[f0 i,f1 i,f2 i,f3 i,f4 i,f5 i,f6 i,f7 i,f8 i,f9 i,f10 i,f11 i,f12 i]) rfl (by kernel_rfl) (by kernel_rfl) (by kernel_rfl) (fun _ _ _ h=>h) (Or.inl ⟨by rfl,fun w _hS=>Hs rfl _ rfl (Dg w g (off+i*13) _ _ _ _ _ _ _ _ _ _ _ _ _ _hS.2.2.1 _hS.2.2.2.1 _hS.2.2.2.2.1 _hS.2.2.2.2.2.1 _hS.2.2.2.2.2.2.1 _hS.2.2.2.2.2.2.2.1 _hS.2.2.2.2.2.2.2.2.1 _hS.2.2.2.2.2.2.2.2.2.1 _hS.2.2.2.2.2.2.2.2.2.2.1 _hS.2.2.2.2.2.2.2.2.2.2.2.1 _hS.2.2.2.2.2.2.2.2.2.2.2.2.1 _hS.2.2.2.2.2.2.2.2.2.2.2.2.2.1 _hS.2.2.2.2.2.2.2.2.2.2.2.2.2.2)⟩) ⟨ac c J,ac c M,ac c t,ac c r,ac c q,ac c B,ac c x,ac c E,ac c C,ac c F,ac c A,ac c D,ac c k,ac c l,ac c f⟩ ?_
   try simp only[Act.put,aJ,aC,aD,ax,aO,aL]
   refine wpAnyH_ready (rs:=[0]) (by kernel_rfl) (by simp) ?_
   refine AllReadyH.cons rfl (fun K hK=>?_) AllReadyH.nil
   refine vL 24 _ rfl zb 0 rfl _ (Bu W.drew zb 0 _ _ z0 z1) ?_
   refine hK.out _ _ ⟨ac c J,ac c M,ac c t,ac c r,ac c q,ac c B,ac c x,ac c E,ac c C,ac c F,ac c A,ac c D,ac c k,ac c l,ac c f⟩ (fun _=>?_)
   clear hK K
   try simp only[Act.put,aJ,aC,aD,ax,aO,aL]
   refine wpAnyH_ready (rs:=[1]) (by kernel_rfl) (by simp) ?_
   refine AllReadyH.cons rfl (fun K hK=>?_) AllReadyH.nil
   go_simp
   refine(ab _).mono ?_
   rintro e w3 ⟨v3,rfl,p3,g3⟩
   have s:=c.trans g3
   go_wp2_with fail
   refine hK.out _ _ ⟨ac s J,ac s M,ac s t,ac s r,ac s q,ac s B,ac s x,ac s E,ac s C,ac s F,ac s A,ac s D,ac s k,ac s l,ac s f⟩ (fun _=>?_)
   clear hK K
   try simp only[Act.put,aJ,aC,aD,ax,aO,aL]
   refine wpAnyH_ready (rs:=[7]) (by kernel_rfl) (by simp) ?_
   refine AllReadyH.cons rfl (fun K hK=>?_) AllReadyH.nil
   go_simp
   refine(R.2 _ (Kp.trans m s)).mono ?_
   rintro e w4 ⟨rfl,g4⟩
   have G:=s.trans g4
   go_wp2_with fail
   refine hK.out _ _ ⟨ac G J,ac G M,ac G t,ac G r,ac G q,ac G B,ac G x,ac G E,ac G C,ac G F,ac G A,ac G D,ac G k,ac G l,ac G f⟩ (fun _=>?_)
   clear hK K
   try simp only[Act.put,aJ,aC,aD,ax,aO,aL]
   refine wpAnyH_ready (rs:=[8]) (by kernel_rfl) (by simp) ?_
   refine AllReadyH.cons rfl (fun K hK=>?_) AllReadyH.nil
   go_simp
   refine(Z _).mono ?_
   rintro e w5 ⟨v5,rfl,p5,g5⟩
   have y:=G.trans g5
   go_wp2_with fail
   refine hK.out _ _ ⟨ac y J,ac y M,ac y t,ac y r,ac y q,ac y B,ac y x,ac y E,ac y C,ac y F,ac y A,ac y D,ac y k,ac y l,ac y f⟩ (fun _=>?_)
   clear hK K
   try simp only[Act.put,aJ,aC,aD,ax,aO,aL]
   refine wpAnyH_ready (rs:=[9]) (by kernel_rfl) (by simp) ?_
   refine AllReadyH.cons rfl (fun K hK=>?_) AllReadyH.nil
   go_simp
   refine(hU _ _ _ (Y _ _ _ (Kp.trans g4 g5) p3) p5).mono ?_
   rintro e w6 ⟨v6,rfl,p6,g6⟩
   have z:=y.trans g6
   go_wp2_with fail
   refine hK.out _ _ ⟨ac z J,ac z M,ac z t,ac z r,ac z q,ac z B,ac z x,ac z E,ac z C,ac z F,ac z A,ac z D,ac z k,ac z l,ac z f⟩ (fun _=>?_)
   clear hK K
   try simp only[Act.put,aJ,aC,aD,ax,aO,aL]
   refine wpAnyH_ready (rs:=[10]) (by kernel_rfl) (by simp) ?_
   refine AllReadyH.cons rfl (fun K hK=>?_) AllReadyH.nil
   go_simp
   refine(hL _ _ p6).mono ?_
   rintro e w7 ⟨rfl,g7⟩
   have d:=z.trans g7
   go_wp2_with fail
   refine hK.out _ _ ⟨ac d J,ac d M,ac d t,ac d r,ac d q,ac d B,ac d x,ac d E,ac d C,ac d F,ac d A,ac d D,ac d k,ac d l,ac d f⟩ (fun _=>?_)
   clear hK K
   try simp only[Act.put,aJ,aC,aD,ax,aO,aL]
   replace o:=o.kp d
   have an:=Cf w7 zb _ _ (pI (min (nZ WL i) (WL i))) (pI (max (oe WH i) (WH i))) ((o.cell 0).trans rfl) ((o.cell 1).trans rfl) (o.frozen 0) (o.frozen 1)
   refine wpAnyH_ready (rs:=[11]) (by kernel_rfl) (by simp) ?_
   refine AllReadyH.cons rfl (fun K hK=>?_) AllReadyH.nil
   refine uk 24 _ _ rfl zb 0 rfl _ rfl _ an ?_
   refine hK.out _ _ ?zS (fun _=>?_)
   case zS=>exact⟨(CF _ _ _ _ (by simp;omega)).trans ((CF _ _ _ _ (by simp;omega)).trans (ac d J)),(CF _ _ _ _ (by simp;omega)).trans ((CF _ _ _ _ (by simp;omega)).trans (ac d M)),(CF _ _ _ _ (by simp;omega)).trans ((CF _ _ _ _ (by simp;omega)).trans (ac d t)),(CF _ _ _ _ (by simp;omega)).trans ((CF _ _ _ _ (by simp;omega)).trans (ac d r)),(CF _ _ _ _ (by simp;omega)).trans ((CF _ _ _ _ (by simp;omega)).trans (ac d q)),(CF _ _ _ _ (by simp;omega)).trans ((CF _ _ _ _ (by simp;omega)).trans (ac d B)),(CF _ _ _ _ (by simp;omega)).trans ((CF _ _ _ _ (by simp;omega)).trans (ac d x)),(CF _ _ _ _ (by simp;omega)).trans ((CF _ _ _ _ (by simp;omega)).trans (ac d E)),(CF _ _ _ _ (by simp;omega)).trans ((CF _ _ _ _ (by simp;omega)).trans (ac d C)),(CF _ _ _ _ (by simp;omega)).trans ((CF _ _ _ _ (by simp;omega)).trans (ac d F)),(CF _ _ _ _ (by simp;omega)).trans ((CF _ _ _ _ (by simp;omega)).trans (ac d A)),(CF _ _ _ _ (by simp;omega)).trans ((CF _ _ _ _ (by simp;omega)).trans (ac d D)),(CF _ _ _ _ (by simp;omega)).trans ((CF _ _ _ _ (by simp;omega)).trans (ac d k)),(CF _ _ _ _ (by simp;omega)).trans ((CF _ _ _ _ (by simp;omega)).trans (ac d l)),(CF _ _ _ _ (by simp;omega)).trans ((CF _ _ _ _ (by simp;omega)).trans (ac d f))⟩
   clear hK K
   try simp only[Act.put,aJ,aC,aD,ax,aO,aL]
   refine wpAnyH_done (by kernel_rfl) ?_ _
   replace m:=((Kp.trans m d).setCell (p:=⟨zb,0,none⟩) V (.int .u64 (pI (min (nZ WL i) (WL i))))).setCell (p:=⟨zb,1,none⟩) V (.int .u64 (pI (max (oe WH i) (WH i))))
   replace I:=((I.kp d).far ⟨zb,0,none⟩ (.int .u64 (pI (min (nZ WL i) (WL i)))) (by simp;omega)).far ⟨zb,1,none⟩ (.int .u64 (pI (max (oe WH i) (WH i)))) (by simp;omega)
   replace O:=((O.kp d).far ⟨zb,0,none⟩ (.int .u64 (pI (min (nZ WL i) (WL i)))) (by simp;omega)).far ⟨zb,1,none⟩ (.int .u64 (pI (max (oe WH i) (WH i)))) (by simp;omega)
   replace o:BK ((w7.setCell ⟨zb,0,none⟩ (.int .u64 (pI (min (nZ WL i) (WL i))))).setCell ⟨zb,1,none⟩ (.int .u64 (pI (max (oe WH i) (WH i))))) zb #[.int .u64 (pI (nZ WL (i+1))),.int .u64 (pI (oe WH (i+1)))] 24:=(o.put 0 (.int .u64 (pI (min (nZ WL i) (WL i))))).put 1 (.int .u64 (pI (max (oe WH i) (WH i))))
   clear t r
   generalize ((w7.setCell ⟨zb,0,none⟩ (.int .u64 (pI (min (nZ WL i) (WL i))))).setCell ⟨zb,1,none⟩ (.int .u64 (pI (max (oe WH i) (WH i)))))=W8 at m o I O|-
   go_wp2
   exact⟨⟨i+1,by go_num,by omega,sQ _ _ _ _ hv R.1,o,I,O,m⟩,by simp[intOf];omega⟩
  ·have ar:i=n:=by omega
   subst ar
   have z0:wr.cell? ⟨zb,0,none⟩=some (.int .u64 (pI (nZ WL i))):=(o.cell 0).trans rfl
   have z1:wr.cell? ⟨zb,1,none⟩=some (.int .u64 (pI (oe WH i))):=(o.cell 1).trans rfl
   obtain⟨r0,a8,r1,a5⟩:=O.c2;skip
   go_wp2
   exact BR (v:=.agg #[.int .u64 (pI (nZ WL i)),.int .u64 (pI (oe WH i))]) ⟨rfl,((m.setCell (by (simp<;>omega)) _).setCell (by (simp<;>omega)) _)⟩ (by simp[results,results44,go_sem,r0,r1])
set_option linter.all false

def iz (z:Int):Int:=dT (decide (z<0)) z.natAbs
def Vz (z:Int):Int:=Iv (fN (decide (z<0)) z.natAbs) (fM z.natAbs)
theorem Dq (z:Int)(h:z.natAbs≠9218868437227405312):iz z=0∧Vz z=Iv (decide (z<0)) z.natAbs:=by
 unfold iz Vz dT fN fM
 rw[if_neg h,if_neg h,if_neg h]
 exact⟨rfl,rfl⟩
theorem xW (z:Int)(h:z.natAbs=9218868437227405312):(z=9218868437227405312∧iz z=1∨z = -9218868437227405312∧iz z = -1)∧Vz z=0:=by
 have e:Vz z=0:=by unfold Vz fN fM;rw[if_pos h,if_pos h];exact Dv
 rcases(by omega:z=9218868437227405312∨z = -9218868437227405312)with a|a
 ·exact⟨Or.inl ⟨a,by rw[a];decide⟩,e⟩
 ·exact⟨Or.inr ⟨a,by rw[a];decide⟩,e⟩
theorem xr (w:World):Calls prog 103 #[] w fun e w'=>∃(s:Bool)(p:Option Addr)(l c:Nat)(q:Option Addr)(k d:Nat)(s2:Bool)(p2:Option Addr)(l2 c2:Nat)(q2:Option Addr)(k2 d2:Nat),e=.returned (.agg #[.bool true,.int .i64 0,.bool s,.slice p l c,.slice q k d,.int .i64 0,.bool s2,.slice p2 l2 c2,.slice q2 k2 d2])∧Kp w w':=by
 go_enter func103,ntmps103
 go_wp2_with (first|(go_at_call 74;refine(qW _).mono ?_;rintro e wh ⟨s2,p2,l2,c2,q2,k2,d2,rfl,x,r⟩;have K:=Kp.trans L r;obtain⟨F,S,P,Q,u,C,z,T,U,H,Z,t,y,G,Y,J,I,D⟩:=BQ r ⟨B,g,M,b,A,h,O,m,W,i,V,a,R,j,X,f,E,n⟩)|(go_at_call 74;refine(qW _).mono ?_;rintro e N ⟨s,p,l,c,q,k,d,rfl,hp,o⟩;have L:Kp w N:=Kp.trans ((Kp.refl w).alloc _) o;obtain⟨B,g,M,b,A,h,O,m,W,i,V,a,R,j,X,f,E,n⟩:=Ej o (w.heap.size) (.bool false) (.int .i64 0) (.bool false) (.slice none 0 0) (.slice none 0 0) (.int .i64 0) (.bool false) (.slice none 0 0) (.slice none 0 0) (by simp[go_sem])))
 exact BR ⟨s,p,l,c,q,k,d,s2,p2,l2,c2,q2,k2,d2,rfl,yR (K) (ao _)⟩ (by simp[results,results103,go_sem,F,P,u,z,U,Z,y,Y,I])
set_option linter.all false

theorem DI (c1 c2:Nat)(hc:0<c2)(V z:Int)(hz:-9218868437227405312<z∧z<9218868437227405312):z<=gE (-1) c1 c2 V ↔ vZ z*(c2:Int)<=V*(c1:Int):=by
 have t:=li c1 c2 hc V vZ kN gG
 have P:(0:Int)<(c2:Int):=by omega
 generalize (c2:Int)=B at t P|-
 generalize V*(c1:Int)=A at t|-
 generalize gE (-1) c1 c2 V=lo at t|-
 generalize gE 1 c1 c2 V=hi at t
 clear hc
 constructor
 ·intro h
  have m:=bN (jR z lo h) (by omega:(0:Int)<=B)
  rcases t with⟨h1,_,h3,h4,h5⟩|⟨h1,h2,h3,h4,h5,_⟩
  ·omega
  ·have:=h4 (by omega);omega
 ·intro h
  rcases cC lo z with c|c
  ·exfalso
   rcases t with⟨h1,_,h3,h4,h5⟩|⟨h1,h2,h3,h4,h5,_⟩
   ·have m:=bW (jQ lo z c) P
    omega
   ·have m:=bN (jR hi z (by omega)) (by omega:(0:Int)<=B)
    have:=h5 (by omega);omega
  ·exact c
theorem Aw (c1 c2:Nat)(hc:0<c2)(V z:Int)(hz:-9218868437227405312<z∧z<9218868437227405312):gE 1 c1 c2 V<=z ↔ V*(c1:Int)<=vZ z*(c2:Int):=by
 have t:=li c1 c2 hc V vZ kN gG
 have P:(0:Int)<(c2:Int):=by omega
 generalize (c2:Int)=B at t P|-
 generalize V*(c1:Int)=A at t|-
 generalize gE (-1) c1 c2 V=lo at t
 generalize gE 1 c1 c2 V=hi at t|-
 clear hc
 constructor
 ·intro h
  have m:=bN (jR hi z h) (by omega:(0:Int)<=B)
  rcases t with⟨h1,_,h3,h4,h5⟩|⟨h1,h2,h3,h4,h5,_⟩
  ·rw[h1]at h5;omega
  ·have:=h5 (by omega);omega
 ·intro h
  rcases cC z hi with c|c
  ·exfalso
   rcases t with⟨h1,_,h3,h4,h5⟩|⟨h1,h2,h3,h4,h5,_⟩
   ·have m:=bW (jQ z hi c) P
    rw[h1]at h5;omega
   ·have m:=bN (jR z lo (by omega)) (by omega:(0:Int)<=B)
    have:=h4 (by omega);omega
  ·exact c
theorem BL (V z:Int)(hz:-9218868437227405312<z∧z<9218868437227405312):z<=gE (-1) 1 1 V ↔ vZ z<=V:=by
 have:=DI 1 1 (by decide) V z hz
 simpa using this
theorem BJ (V z:Int)(hz:-9218868437227405312<z∧z<9218868437227405312):gE 1 1 1 V<=z ↔ V<=vZ z:=by
 have:=Aw 1 1 (by decide) V z hz
 simpa using this
def ID (i V:Int):Int:=if i=0 then gE (-1) 1 1 V else -9218868437227405312
def IC (i V:Int):Int:=if i=0 then gE 1 1 1 V else 9218868437227405312
theorem mY (x y:Int):eh x y<=0 ↔ x<=y:=by rcases cZ x y with q|q|q<;>omega
theorem mZ (x y:Int):0<=eh x y ↔ y<=x:=by rcases cZ x y with q|q|q<;>omega
def Ha (L H iA VA iB VB:Int):Prop:=0<cB L iB VB∨cB H iA VA<0
instance (L H iA VA iB VB:Int):Decidable (Ha L H iA VA iB VB):=by unfold Ha;infer_instance
def IH (iA VA iB VB:Int):Prop:=(iA=0∨iA = -1)∧(iB=0∨iB=1)∧(iA=0->iB=0->VA<=VB)
def Hu (L L1 L2:Int):Prop:=L1=9218868437227405312∨L2=9218868437227405312∨L=9218868437227405312
instance (L L1 L2:Int):Decidable (Hu L L1 L2):=by unfold Hu;infer_instance
theorem wL (p9 q9 r9:Nat)(t1:(FloatKind.f64.format.order p9 0 == some Ordering.eq)=true)(w:World):Calls prog 147 #[.float .f64 p9,.float .f64 q9,.float .f64 r9] w (RT (.float .f64 r9) w):=by
 go_enter func147,ntmps147
 go_wp2
 exact BR (v:=.float .f64 r9) ⟨rfl,(by repeat(with_reducible(exact Kp.refl _)))⟩
theorem wM (p9 q9 r9:Nat)(t1:(FloatKind.f64.format.order p9 0 == some Ordering.eq)=false)(t2:(FloatKind.f64.format.order q9 0 == some Ordering.eq)=true)(w:World):Calls prog 147 #[.float .f64 p9,.float .f64 q9,.float .f64 r9] w (RT (.float .f64 r9) w):=by
 go_enter func147,ntmps147
 go_wp2
 exact BR (v:=.float .f64 r9) ⟨rfl,(by repeat(with_reducible(exact Kp.refl _)))⟩
theorem wN (p9 q9 r9 Z9:Nat)(t1:(FloatKind.f64.format.order p9 0 == some Ordering.eq)=false)(t2:(FloatKind.f64.format.order q9 0 == some Ordering.eq)=false)(w:World)(hf:KW w 161 #[.int .i64 1,.float .f64 p9,.float .f64 q9,.float .f64 r9] (.float .f64 Z9)):Calls prog 147 #[.float .f64 p9,.float .f64 q9,.float .f64 r9] w (RT (.float .f64 Z9) w):=by
 go_enter func147,ntmps147
 go_wp2_with (first|(go_at_call 161;refine(hf _ (Kp.refl _)).mono ?_;rintro e a ⟨rfl,b⟩))
 exact BR (v:=.float .f64 Z9) ⟨rfl,(by repeat(with_reducible(assumption)))⟩
theorem xF (a9 b9 E9:Nat->Nat)(r9:Nat)(hM:∀W:World,Calls prog 68 #[.int .i64 (-1)] W (RE (.float .f64 18442240474082181120) W))(hP:∀W:World,Calls prog 68 #[.int .i64 1] W (RE (.float .f64 9218868437227405312) W))(t1:(FloatKind.f64.format.order r9 18442240474082181120 == some Ordering.eq)=false)(h0:E9 0=9218868437227405312)(w:World)(hR:∀i j:Nat,i<2->j<2->∀W:World,Kp w W->Calls prog 147 #[.float .f64 (a9 i),.float .f64 (b9 j),.float .f64 r9] W fun e w'=>∃Z9:Nat,e=.returned (.float .f64 Z9)∧(∀(ts:Array TypeId)(t:TypeId)(w:World),(Builtin.min_ ts t #[.float .f64 (E9 (2*i+j)),.float .f64 Z9]).run prog w=.ok (.float .f64 (E9 (2*i+j+1))) w)∧Kp W w'):Calls prog 95 #[.agg #[.float .f64 (a9 0),.float .f64 (a9 1)],.agg #[.float .f64 (b9 0),.float .f64 (b9 1)],.float .f64 r9] w (RT (.float .f64 (E9 4)) w):=by
 go_enter func95,ntmps95
 go_upto_region 5 with(first|(have F:=r;clear F;go_at_call 68;refine(hP _).mono ?_;rintro e y ⟨rfl,g⟩;obtain rfl:=g.symm;clear g)|(go_at_call 68;refine(hM _).mono ?_;rintro e y ⟨rfl,g⟩;obtain rfl:=g.symm;clear g;have r:=t1))
 obtain⟨W,a,b,f,d,c⟩:=Ek w #[.float .f64 (a9 0),.float .f64 (a9 1)] 29 #[.float .f64 (b9 0),.float .f64 (b9 1)] 29 #[.float .f64 (a9 0),.float .f64 (a9 1)] 27
 rw[<-a];clear a
 go_wp2
 go_loopw [7,23] (fun s7 s23 wr=>∃i:Nat,s7=.float .f64 (E9 (2*i))∧s23=.int .i64 (i:Int)∧i<=2∧BK wr w.heap.size #[.float .f64 (a9 0),.float .f64 (a9 1)] 29∧BK wr (w.heap.size+1) #[.float .f64 (b9 0),.float .f64 (b9 1)] 29∧BK wr (w.heap.size+2) #[.float .f64 (a9 0),.float .f64 (a9 1)] 27∧Kp w wr) (fun _ s23 _=>2-(intOf s23).toNat)
 case atStart=>exact⟨0,by rw[Nat.mul_zero,h0],rfl,by decide,f,d,c,b⟩
 case round =>
  clear f d c b
  obtain⟨i,rfl,rfl,hi,f,d,c,b⟩:=hrel
  by_cases B:i<2
  ·have E:(0:Int)<=(i:Int):=by omega
   have C:(i:Int)<2:=by omega
   have H:wr.cell? ⟨w.heap.size+2,i,none⟩=some (.float .f64 (a9 i)):=by
    rcases(by omega:i=0∨i=1)with rfl|rfl
    ·exact(c.cell 0).trans rfl
    ·exact(c.cell 1).trans rfl
   obtain⟨z,n,x,p⟩:=d.c2;skip
   go_upto_region 8 with fail
   obtain⟨u,a⟩:=aA (wr.alloc (.cells #[.float .f64 (b9 0),.float .f64 (b9 1)] 27))
   have m:Kp wr u:=by subst a;exact(Kp.refl _).alloc _
   have h:BK u wr.heap.size #[.float .f64 (b9 0),.float .f64 (b9 1)] 27:=by subst a;exact BK.new _ _ _
   replace f:=f.kp m;replace d:=d.kp m;replace c:=c.kp m;replace b:=Kp.trans b m
   rw[<-a];clear a
   generalize wr.heap.size=hb at h|-
   clear H m z n x p
   go_wp2
   go_loopw [7,33] (fun s7 s33 wr=>∃j:Nat,s7=.float .f64 (E9 (2*i+j))∧s33=.int .i64 (j:Int)∧j<=2∧BK wr w.heap.size #[.float .f64 (a9 0),.float .f64 (a9 1)] 29∧BK wr (w.heap.size+1) #[.float .f64 (b9 0),.float .f64 (b9 1)] 29∧BK wr (w.heap.size+2) #[.float .f64 (a9 0),.float .f64 (a9 1)] 27∧BK wr hb #[.float .f64 (b9 0),.float .f64 (b9 1)] 27∧Kp w wr) (fun _ s33 _=>2-(intOf s33).toNat)
   case atStart=>exact⟨0,rfl,rfl,by decide,f,d,c,h,b⟩
   case round =>
    clear f d c h b
    obtain⟨j,rfl,rfl,I,f,d,c,h,b⟩:=hrel
    by_cases A:j<2
    ·have G:(0:Int)<=(j:Int):=by omega
     have D:(j:Int)<2:=by omega
     have K:wr.cell? ⟨hb,j,none⟩=some (.float .f64 (b9 j)):=by
      rcases(by omega:j=0∨j=1)with rfl|rfl
      ·exact(h.cell 0).trans rfl
      ·exact(h.cell 1).trans rfl
     go_wp2_with (first|(go_at_call 147;refine(hR i j B A _ b).mono ?_;rintro e J ⟨Z9,rfl,s,l⟩;replace f:=f.kp l;replace d:=d.kp l;replace c:=c.kp l;replace h:=h.kp l;replace b:=Kp.trans b l))
     exact⟨⟨j+1,rfl,by go_num,by omega,f,d,c,h,b⟩,by simp[intOf];omega⟩
    ·have o:j=2:=by omega
     have k:E9 (2*i+j)=E9 (2*(i+1)):=by rw[o];rfl
     rw[k]
     clear k
     go_wp2
     exact⟨⟨i+1,rfl,by go_num,by omega,f,d,c,b⟩,by simp[intOf];omega⟩
  ·have q:i=2:=by omega
   have k:E9 (2*i)=E9 4:=by rw[q]
   rw[k]
   clear k
   go_wp2
   exact BR ⟨rfl,b⟩
set_option linter.all false
set_option maxHeartbeats 20000000 in
theorem qF:(∀(a1 a2 b1 b2 z1 z2 c1 c2 U9:Nat)(n1 n2 zn cn V9:Nat)(v9:Bool)(w:World)(hl1:KW w 95 #[.agg #[.float .f64 a1,.float .f64 a2],.agg #[.float .f64 b1,.float .f64 b2],.float .f64 z1] (.float .f64 U9))(t1:(FloatKind.f64.format.order U9 c2 == some Ordering.lt || FloatKind.f64.format.order U9 c2 == some Ordering.eq)=true)(hn:∀W:World,Calls prog 49 #[.agg #[.float .f64 a1,.float .f64 a2]] W (RT (.agg #[.float .f64 n1,.float .f64 n2]) W))(hl2:KW w 95 #[.agg #[.float .f64 n1,.float .f64 n2],.agg #[.float .f64 b1,.float .f64 b2],.float .f64 zn] (.float .f64 V9))(t2:(FloatKind.f64.format.order V9 cn == some Ordering.lt || FloatKind.f64.format.order V9 cn == some Ordering.eq)=v9)(hz9:∀w:World,(Op.unary .neg (.float .f64 z2)).run prog w=.ok (.float .f64 zn) w)(hc9:∀w:World,(Op.unary .neg (.float .f64 c1)).run prog w=.ok (.float .f64 cn) w),Calls prog 40 #[.agg #[.float .f64 a1,.float .f64 a2],.agg #[.float .f64 b1,.float .f64 b2],.agg #[.float .f64 z1,.float .f64 z2],.agg #[.float .f64 c1,.float .f64 c2]] w (RT (.bool v9) w))∧(∀(a1 a2 b1 b2 z1 z2 c1 c2 U9:Nat)(w:World)(hl1:KW w 95 #[.agg #[.float .f64 a1,.float .f64 a2],.agg #[.float .f64 b1,.float .f64 b2],.float .f64 z1] (.float .f64 U9))(t1:(FloatKind.f64.format.order U9 c2 == some Ordering.lt || FloatKind.f64.format.order U9 c2 == some Ordering.eq)=false),Calls prog 40 #[.agg #[.float .f64 a1,.float .f64 a2],.agg #[.float .f64 b1,.float .f64 b2],.agg #[.float .f64 z1,.float .f64 z2],.agg #[.float .f64 c1,.float .f64 c2]] w (RT (.bool false) w)):=by
 refine⟨?_,?_⟩
 case' refine_1=>intro a1 a2 b1 b2 z1 z2 c1 c2 U9 n1 n2 zn cn V9 v9 w hl1 t1 hn hl2 t2 hz9 hc9;have d:=trivial
 case' refine_2=>intro a1 a2 b1 b2 z1 z2 c1 c2 U9 w hl1 t1;have b:=trivial
 all_goals (
  go_enter func40,ntmps40
  go_upto_region 1 with fail
  obtain⟨W,c,f,x,r,s,q⟩:=Et w #[.float .f64 a1,.float .f64 a2] 29 #[.float .f64 b1,.float .f64 b2] 29 #[.float .f64 z1,.float .f64 z2] 29 #[.float .f64 c1,.float .f64 c2] 29
  rw[<-c];clear c
  refine Fq.ej (by kernel_rfl) (by kernel_rfl) (fun ι _ G hG hall=>?_)
  have g:∀n,(G n).cell? ⟨w.heap.size,0,none⟩=some (.float .f64 a1):=fun n=>Fq.ft (hG n) ((x.cell 0).trans rfl)
  have o:∀n,(G n).cell? ⟨w.heap.size,1,none⟩=some (.float .f64 a2):=fun n=>Fq.ft (hG n) ((x.cell 1).trans rfl)
  have k:∀n,(G n).cell? ⟨w.heap.size+1,0,none⟩=some (.float .f64 b1):=fun n=>Fq.ft (hG n) ((r.cell 0).trans rfl)
  have i:∀n,(G n).cell? ⟨w.heap.size+1,1,none⟩=some (.float .f64 b2):=fun n=>Fq.ft (hG n) ((r.cell 1).trans rfl)
  have l:∀n,(G n).cell? ⟨w.heap.size+2,0,none⟩=some (.float .f64 z1):=fun n=>Fq.ft (hG n) ((s.cell 0).trans rfl)
  have m:∀n,(G n).cell? ⟨w.heap.size+2,1,none⟩=some (.float .f64 z2):=fun n=>Fq.ft (hG n) ((s.cell 1).trans rfl)
  have p:∀n,(G n).cell? ⟨w.heap.size+3,0,none⟩=some (.float .f64 c1):=fun n=>Fq.ft (hG n) ((q.cell 0).trans rfl)
  have j:∀n,(G n).cell? ⟨w.heap.size+3,1,none⟩=some (.float .f64 c2):=fun n=>Fq.ft (hG n) ((q.cell 1).trans rfl)
  first
  |(have a:=d;clear a;repeat(go_big_quiet_step (first|(go_at_call_of 95 (Value.agg #[.float .f64 n1,.float .f64 n2]);exact(hl2 _ (Kp.trans f (hG _))).mono (fun e w' h=>⟨h.1,hall _ (Fq.iC (hG _) h.2)⟩))|(go_at_call_of 95 (Value.agg #[.float .f64 a1,.float .f64 a2]);exact(hl1 _ (Kp.trans f (hG _))).mono (fun e w' h=>⟨h.1,hall _ (Fq.iC (hG _) h.2)⟩))|(go_at_call 49;exact(hn _).mono (fun e w' h=>⟨h.1,hall _ (Fq.iC (hG _) h.2)⟩)))))
  |(have a:=b;clear a;repeat(go_big_quiet_step (first|(go_at_call_of 95 (Value.agg #[.float .f64 a1,.float .f64 a2]);exact(hl1 _ (Kp.trans f (hG _))).mono (fun e w' h=>⟨h.1,hall _ (Fq.iC (hG _) h.2)⟩)))))
  refine wpQuiet_nil ?_
  rintro _ ⟨t,rfl⟩
  have u:Kp W (G t):=hG t
  clear g o k i l m p j hall hG
  go_wp2
  first
  |(have a:=d;clear a;exact BR ⟨rfl,(Kp.trans f u)⟩)
  |(have a:=b;clear a;exact BR ⟨rfl,(Kp.trans f u)⟩))
theorem tD (v9:Nat)(w:World):Calls prog 41 #[.float .f64 v9] w (RT (.agg #[.float .f64 v9,.float .f64 v9]) w):=by
 go_enter func41,ntmps41
 go_wp2
 exact BR (v:=.agg #[.float .f64 v9,.float .f64 v9]) ⟨rfl,(by repeat(with_reducible(first|exact Kp.refl _|apply Kp.alloc)))⟩
set_option linter.all false

theorem C0 (x:Int)(h:dl x):En (pw x)=pw (-x):=by
 have a:=dv x h
 unfold En pw Fq.wD
 rcases bw x 0 with c|c|c
 ·rw[af c,ae (show ¬-x<0 by omega),dP]
  simp;repeat' split
  all_goals omega
 ·subst c;rfl
 ·rw[ae (show ¬x<0 by omega),af (show -x<0 by omega),dP]
  simp;repeat' split
  all_goals omega
theorem ru (L H:Int)(h:VdZ L H):VdZ (-H) (-L):=by unfold VdZ at *;omega
theorem tO (x:Int)(h:dl x)(w:World):Calls prog 107 #[.float .f64 (pw x)] w (RE (.float .f64 (pw (-x))) w):=by
 have g:=zT (decide (x<0)) x.natAbs (dv x h) w
 have e:=C0 x h
 unfold pw at e|-
 rw[e]at g
 exact g
theorem Bo (a b:Nat)(L H:Int)(hx:Rd a b L H)(w:World):Calls prog 49 #[.agg #[.float .f64 a,.float .f64 b]] w (RT (.agg #[.float .f64 (pw (-H)),.float .f64 (pw (-L))]) w) :=
 Dc a b _ _ _ _ hx.call (tO L hx.vd.lo) (tO H hx.vd.hi) w
theorem iM (w:World):Calls prog 89 #[] w (RT (.agg #[.float .f64 9218868437227405312,.float .f64 18442240474082181120]) w):=by
 refine(Fq.iN w).mono ?_
 exact fun e w' h=>⟨h.1,by (rw[h.2];exact(Kp.refl _).alloc _)⟩
def PzR (R:Nat)(z:Int):Prop:=∃n m,m<=9218868437227405312∧R=Fq.wD n m∧Fq.gU n m=z
theorem PzR.pw {z:Int}(h:dl z):PzR (pw z) z:=⟨_,_,dv z h,rfl,dY z⟩
theorem Bj {R S:Nat}{x y:Int}(h1:PzR R x)(h2:PzR S y):(FloatKind.f64.format.order R S == some Ordering.lt || FloatKind.f64.format.order R S == some Ordering.eq)=decide (x<=y):=by
 obtain⟨n,m,b,rfl,rfl⟩:=h1
 obtain⟨c,d,a,rfl,rfl⟩:=h2
 rw[Fq.Ir n c m d (by omega) (by omega)]
 exact decide_eq_decide.2 ⟨fun h=>h.2.2,fun h=>⟨b,a,h⟩⟩
theorem tB {R S:Nat}{x y:Int}(h1:PzR R x)(h2:PzR S y):(FloatKind.f64.format.order R S == some Ordering.eq)=decide (x=y):=by
 obtain⟨n,m,b,rfl,rfl⟩:=h1
 obtain⟨c,d,a,rfl,rfl⟩:=h2
 rw[Fq.GV n c m d (by omega) (by omega)]
 exact decide_eq_decide.2 ⟨fun h=>h.2.2,fun h=>⟨b,a,h⟩⟩
theorem oO {R S:Nat}{x y:Int}(h1:PzR R x)(h2:PzR S y):∃Q,PzR Q (min x y)∧∀(ts:Array TypeId)(t:TypeId)(w:World),(Builtin.min_ ts t #[.float .f64 R,.float .f64 S]).run prog w=.ok (.float .f64 Q) w:=by
 have f:=h1
 have h:=h2
 obtain⟨n,m,i,rfl,rfl⟩:=h1
 obtain⟨b,c,d,rfl,rfl⟩:=h2
 have a:=Fq.CY n b m c i d
 rcases bw (Fq.gU n m) (Fq.gU b c)with g|g|g
 ·rw[Fq.lk g]at a
  refine⟨Fq.wD n m, ?_,fun ts t w=>?_⟩
  rotate_left
  ·generalize Fq.wD n m=X at a|-
   generalize Fq.wD b c=Y at a|-
   simp[Builtin.min_,Builtin.min2,a]
  ·rw[show min (Fq.gU n m) (Fq.gU b c)=Fq.gU n m by omega];exact f
 ·rw[Fq.mX g]at a
  refine⟨if (FloatKind.f64.decode (Fq.wD n m)).neg then Fq.wD n m else Fq.wD b c, ?_,fun ts t w=>?_⟩
  ·rw[show min (Fq.gU n m) (Fq.gU b c)=Fq.gU n m by omega]
   split
   ·exact f
   ·rw[g];exact h
  ·generalize Fq.wD n m=X at a|-
   generalize Fq.wD b c=Y at a|-
   simp[Builtin.min_,Builtin.min2,a]
 ·rw[Fq.lp g]at a
  refine⟨Fq.wD b c, ?_,fun ts t w=>?_⟩
  rotate_left
  ·generalize Fq.wD n m=X at a|-
   generalize Fq.wD b c=Y at a|-
   simp[Builtin.min_,Builtin.min2,a]
  ·rw[show min (Fq.gU n m) (Fq.gU b c)=Fq.gU b c by omega];exact h
theorem xv (v:Int)(hv:dl v):∃R,PzR R (-v)∧∀w:World,(Op.unary .neg (.float .f64 (pw v))).run prog w=.ok (.float .f64 R) w:=by
 refine⟨Fq.wD (!(decide (v<0))) v.natAbs,⟨_,_,dv v hv,rfl, ?_⟩,fun w=>Bn (decide (v<0)) v.natAbs (by have:=dv v hv;omega) w⟩
 unfold Fq.gU
 by_cases c:v<0
 ·simp[c];omega
 ·simp[c];omega
def FC (v Lb Hb Lc Hc:Int):Prop:=Hv 1 v Lb<=Hc∧Hv 1 (-v) (-Hb)<=-Lc
instance (v Lb Hb Lc Hc:Int):Decidable (FC v Lb Hb Lc Hc):=by unfold FC;infer_instance
set_option linter.all false
theorem wo (a b L H:Nat)(hx:KC 38 #[.agg #[.float .f64 a,.float .f64 b]] (.agg #[.float .f64 L,.float .f64 H]))(E1:Bool)(t1:(FloatKind.f64.format.order L H == some Ordering.eq)=E1)(w:World):Calls prog 96 #[.agg #[.float .f64 a,.float .f64 b]] w (RT (.bool E1) w):=by
 cases E1
 all_goals (
  go_enter func96,ntmps96
  go_wp2_with (first|(go_at_call 38;refine(hx _).mono ?_;rintro e f ⟨rfl,c⟩;have h:Kp w f:=Kp.trans ((Kp.refl w).alloc _) c;have d:=Fq.H2.keep (Fq.H2.new w (.float .f64 a) (.float .f64 b) 29) c;obtain⟨x0,i,j,g⟩:=id d))
  exact BR (v:=.bool _) ⟨rfl,(by repeat(with_reducible(first|assumption|(refine Kp.setCell ?_ (by (simp<;>omega)) _))))⟩)
theorem pS (a b:Nat)(L H:Int)(hx:Rd a b L H)(w:World):Calls prog 96 #[.agg #[.float .f64 a,.float .f64 b]] w (RT (.bool (decide (L=H))) w):=by
 have h:=wo a b _ _ hx.call _ rfl w
 rw[xi L H hx.vd.lo hx.vd.hi]at h
 exact h
end Go.Proofs.YtmpjcknaelgnoaaGreatDoor
