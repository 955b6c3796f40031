import Derived.Test.YtmpjcknaelgnoaaGreatDoorKRVm
set_option maxHeartbeats 4000000
set_option maxRecDepth 20000
namespace Go.Proofs.YtmpjcknaelgnoaaGreatDoor
open Go.RowKit Tryz
set_option linter.all false
theorem Dl (x1 x2:Nat)(ub vb tb:Nat)(p:Option Addr)(n c:Nat)(hn:n<=1024)(pl ph yl yh ol oh:Nat->Nat)(kd:Nat->Bool)(hs:Nat->Bool)(w:World)
  (hl:n=0∨∃g off,p=some ⟨g,off,none⟩∧g<w.heap.size∧∀j,j<n->w.cell? ⟨g,off+j*2,none⟩=some (.float .f64 (pl j))∧w.cell? ⟨g,off+j*2+1,none⟩=some (.float .f64 (ph j)))
  (h0:ol 0=9218868437227405312∧oh 0=18442240474082181120)(hE:∀W:World,Calls prog 89 #[] W (RT (.agg #[.float .f64 9218868437227405312,.float .f64 18442240474082181120]) W))
  (hI:∀j,j<n->∀W:World,Calls prog 70 #[.agg #[.float .f64 x1,.float .f64 x2],.agg #[.float .f64 (pl j),.float .f64 (ph j)]] W (RT (.agg #[.float .f64 (yl j),.float .f64 (yh j)]) W))
  (hS:∀j,j<n->∀W:World,Calls prog 96 #[.agg #[.float .f64 (yl j),.float .f64 (yh j)]] W (RT (.bool (kd j)) W))
  (hH:∀j,j<n->kd j=true->KW w 63 #[.float .f64 (yl j),.pointer (some ⟨ub,0,none⟩),.pointer (some ⟨vb,0,none⟩),.pointer (some ⟨tb,0,none⟩)] (.bool (hs j)))
  (hU:∀j,j<n->((kd j=false∨hs j=true)∧∀W:World,Calls prog 88 #[.agg #[.float .f64 (ol j),.float .f64 (oh j)],.agg #[.float .f64 (yl j),.float .f64 (yh j)]] W (RT (.agg #[.float .f64 (ol (j+1)),.float .f64 (oh (j+1))]) W))∨(kd j=true∧hs j=false∧ol (j+1)=ol j∧oh (j+1)=oh j)) :
  Calls prog 42 #[.agg #[.float .f64 x1,.float .f64 x2],.func (.func 63) #[] #[.pointer (some ⟨ub,0,none⟩),.pointer (some ⟨vb,0,none⟩),.pointer (some ⟨tb,0,none⟩)],.slice p n c] w (RT (.agg #[.float .f64 (ol n),.float .f64 (oh n)]) w):=by
 have HN:Hid (n=n):=rfl
 go_enter func42,ntmps42
 go_upto_region 3 with(first|(go_at_call 89;refine(hE _).mono ?_;rintro e I ⟨rfl,D⟩))
 obtain⟨W,h⟩:=aA (I.alloc (.cells #[.float .f64 9218868437227405312,.float .f64 18442240474082181120] 29))
 have b:Kp w W:=by subst h;exact(Kp.trans (((Kp.refl w).alloc _).alloc _) D).alloc _
 have d:BK W w.heap.size #[.float .f64 x1,.float .f64 x2] 29:=by subst h;exact(((BK.new w #[.float .f64 x1,.float .f64 x2] 29).kp ((Kp.refl _).alloc _)).kp D).kp ((Kp.refl _).alloc _)
 have f:BK W (w.heap.size+1) #[.float .f64 0,.float .f64 0] 29:=by subst h;exact((BK.newAt (w:=w.alloc (.cells #[.float .f64 x1,.float .f64 x2] 29)) (by simp) _ _).kp D).kp ((Kp.refl _).alloc _)
 have a:BK W I.heap.size #[.float .f64 (ol 0),.float .f64 (oh 0)] 29:=by subst h;rw[h0.1,h0.2];exact BK.new _ _ _
 have S:w.heap.size+1<I.heap.size:=by have:=Below.size D;simp at this;omega
 rw[<-h];clear h
 generalize I.heap.size=ob at a S|-
 clear D h0
 go_wp2
 go_loopw [14] (fun s14 wr=>∃i:Nat,s14=.int .i64 (i:Int)∧i<=n∧BK wr ob #[.float .f64 (ol i),.float .f64 (oh i)] 29∧BK wr w.heap.size #[.float .f64 x1,.float .f64 x2] 29∧BK wr (w.heap.size+1) #[.float .f64 0,.float .f64 0] 29∧Kp w wr) (fun s14 _=>n-(intOf s14).toNat)
 case atStart=>exact⟨0,rfl,aW _,a,d,f,b⟩
 case round =>
  clear a d f b
  obtain⟨i,rfl,hi,a,d,f,b⟩:=hrel
  by_cases G:i<n
  ·have aa:(0:Int)<=(i:Int):=by omega
   have ad:(i:Int)<(n:Int):=by omega
   rcases hl with hl|⟨g,off,rfl,hg,hl⟩
   ·omega
   obtain⟨L,M⟩:=hl i G
   replace L:=ac b L
   replace M:=ac b M
   have K:=hI i G
   have t:=hS i G
   have q:=hH i G
   have O:=hU i G
   go_upto_region 5 with fail
   obtain⟨T,h⟩:=aA (wr.alloc (.cells #[.float .f64 (pl i),.float .f64 (ph i)] 29))
   have kp:Kp wr T:=by subst h;exact(Kp.refl _).alloc _
   have N:BK T wr.heap.size #[.float .f64 (pl i),.float .f64 (ph i)] 29:=by subst h;exact BK.new _ _ _
   replace a:=a.kp kp;replace d:=d.kp kp;replace f:=f.kp kp;replace b:=Kp.trans b kp
   rw[<-h];clear h
   generalize wr.heap.size=pb at N|-
   clear kp L M
   obtain⟨x0,V,x1,ab⟩:=d.c2;obtain⟨q0,an,q1,Z⟩:=N.c2;skip
   go_upto_region 6 with(first|(go_at_call 70;refine(K _).mono ?_;rintro e J ⟨rfl,H⟩))
   obtain⟨U,h⟩:=aA (J.alloc (.cells #[.float .f64 (yl i),.float .f64 (yh i)] 29))
   have E:Kp J U:=by subst h;exact(Kp.refl _).alloc _
   have k:BK U J.heap.size #[.float .f64 (yl i),.float .f64 (yh i)] 29:=by subst h;exact BK.new _ _ _
   replace a:=(a.kp H).kp E;replace d:=(d.kp H).kp E;replace f:=(f.kp H).kp E;replace b:=Kp.trans (Kp.trans b H) E
   rw[<-h];clear h
   generalize J.heap.size=yb at k|-
   clear N H E
   obtain⟨A,s,B,r⟩:=k.c2;obtain⟨y,m,z,o⟩:=a.c2;skip
   rcases O with⟨hk|hk,hu⟩|⟨hk,hk2,P,R⟩
   ·rw[hk]at t
    clear q hk
    go_upto_region 8 with(first|(go_at_call 88;refine(hu _).mono ?_;rintro e C ⟨rfl,u⟩;replace a:=a.kp u;replace d:=d.kp u;replace f:=f.kp u;replace k:=k.kp u;replace b:=Kp.trans b u;obtain⟨A,s,B,r⟩:=k.c2;obtain⟨y,m,z,o⟩:=a.c2;skip)|(go_at_call 96;refine(t _).mono ?_;rintro e Q ⟨rfl,l⟩;replace a:=a.kp l;replace d:=d.kp l;replace f:=f.kp l;replace k:=k.kp l;replace b:=Kp.trans b l;obtain⟨A,s,B,r⟩:=k.c2;obtain⟨y,m,z,o⟩:=a.c2;skip))
    replace b:=(b.setCell (p:=⟨ob,0,none⟩) (show w.heap.size<=ob by omega) (.float .f64 (ol (i+1)))).setCell (p:=⟨ob,1,none⟩) (show w.heap.size<=ob by omega) (.float .f64 (oh (i+1)))
    replace d:=(d.far ⟨ob,0,none⟩ (.float .f64 (ol (i+1))) (by simp;omega)).far ⟨ob,1,none⟩ (.float .f64 (oh (i+1))) (by simp;omega)
    replace f:=(f.far ⟨ob,0,none⟩ (.float .f64 (ol (i+1))) (by simp;omega)).far ⟨ob,1,none⟩ (.float .f64 (oh (i+1))) (by simp;omega)
    replace a:BK ((C.setCell ⟨ob,0,none⟩ (.float .f64 (ol (i+1)))).setCell ⟨ob,1,none⟩ (.float .f64 (oh (i+1)))) ob #[.float .f64 (ol (i+1)),.float .f64 (oh (i+1))] 29:=(a.put 0 (.float .f64 (ol (i+1)))).put 1 (.float .f64 (oh (i+1)))
    generalize (C.setCell ⟨ob,0,none⟩ (.float .f64 (ol (i+1)))).setCell ⟨ob,1,none⟩ (.float .f64 (oh (i+1)))=W5 at b d f a|-
    go_wp2
    exact⟨⟨i+1,by go_num,by omega,a,d,f,b⟩,by simp[intOf];omega⟩
   ·rcases hkd:kd i with _|_
    ·rw[hkd]at t
     clear q
     go_upto_region 8 with(first|(go_at_call 88;refine(hu _).mono ?_;rintro e C ⟨rfl,u⟩;replace a:=a.kp u;replace d:=d.kp u;replace f:=f.kp u;replace k:=k.kp u;replace b:=Kp.trans b u;obtain⟨A,s,B,r⟩:=k.c2;obtain⟨y,m,z,o⟩:=a.c2;skip)|(go_at_call 96;refine(t _).mono ?_;rintro e Q ⟨rfl,l⟩;replace a:=a.kp l;replace d:=d.kp l;replace f:=f.kp l;replace k:=k.kp l;replace b:=Kp.trans b l;obtain⟨A,s,B,r⟩:=k.c2;obtain⟨y,m,z,o⟩:=a.c2;skip))
     replace b:=(b.setCell (p:=⟨ob,0,none⟩) (show w.heap.size<=ob by omega) (.float .f64 (ol (i+1)))).setCell (p:=⟨ob,1,none⟩) (show w.heap.size<=ob by omega) (.float .f64 (oh (i+1)))
     replace d:=(d.far ⟨ob,0,none⟩ (.float .f64 (ol (i+1))) (by simp;omega)).far ⟨ob,1,none⟩ (.float .f64 (oh (i+1))) (by simp;omega)
     replace f:=(f.far ⟨ob,0,none⟩ (.float .f64 (ol (i+1))) (by simp;omega)).far ⟨ob,1,none⟩ (.float .f64 (oh (i+1))) (by simp;omega)
     replace a:BK ((C.setCell ⟨ob,0,none⟩ (.float .f64 (ol (i+1)))).setCell ⟨ob,1,none⟩ (.float .f64 (oh (i+1)))) ob #[.float .f64 (ol (i+1)),.float .f64 (oh (i+1))] 29:=(a.put 0 (.float .f64 (ol (i+1)))).put 1 (.float .f64 (oh (i+1)))
     generalize (C.setCell ⟨ob,0,none⟩ (.float .f64 (ol (i+1)))).setCell ⟨ob,1,none⟩ (.float .f64 (oh (i+1)))=W5 at b d f a|-
     go_wp2
     exact⟨⟨i+1,by go_num,by omega,a,d,f,b⟩,by simp[intOf];omega⟩
    ·rw[hkd]at t
     rw[hk]at q
     replace q:=q hkd
     go_upto_region 8 with(first|(go_at_call 88;refine(hu _).mono ?_;rintro e C ⟨rfl,u⟩;replace a:=a.kp u;replace d:=d.kp u;replace f:=f.kp u;replace k:=k.kp u;replace b:=Kp.trans b u;obtain⟨A,s,B,r⟩:=k.c2;obtain⟨y,m,z,o⟩:=a.c2;skip)|(go_at_call 63;refine(q _ b).mono ?_;rintro e Y ⟨rfl,x⟩;replace a:=a.kp x;replace d:=d.kp x;replace f:=f.kp x;replace k:=k.kp x;replace b:=Kp.trans b x;obtain⟨A,s,B,r⟩:=k.c2;obtain⟨y,m,z,o⟩:=a.c2;skip)|(go_at_call 96;refine(t _).mono ?_;rintro e Q ⟨rfl,l⟩;replace a:=a.kp l;replace d:=d.kp l;replace f:=f.kp l;replace k:=k.kp l;replace b:=Kp.trans b l;obtain⟨A,s,B,r⟩:=k.c2;obtain⟨y,m,z,o⟩:=a.c2;skip))
     replace b:=(b.setCell (p:=⟨ob,0,none⟩) (show w.heap.size<=ob by omega) (.float .f64 (ol (i+1)))).setCell (p:=⟨ob,1,none⟩) (show w.heap.size<=ob by omega) (.float .f64 (oh (i+1)))
     replace d:=(d.far ⟨ob,0,none⟩ (.float .f64 (ol (i+1))) (by simp;omega)).far ⟨ob,1,none⟩ (.float .f64 (oh (i+1))) (by simp;omega)
     replace f:=(f.far ⟨ob,0,none⟩ (.float .f64 (ol (i+1))) (by simp;omega)).far ⟨ob,1,none⟩ (.float .f64 (oh (i+1))) (by simp;omega)
     replace a:BK ((C.setCell ⟨ob,0,none⟩ (.float .f64 (ol (i+1)))).setCell ⟨ob,1,none⟩ (.float .f64 (oh (i+1)))) ob #[.float .f64 (ol (i+1)),.float .f64 (oh (i+1))] 29:=(a.put 0 (.float .f64 (ol (i+1)))).put 1 (.float .f64 (oh (i+1)))
     generalize (C.setCell ⟨ob,0,none⟩ (.float .f64 (ol (i+1)))).setCell ⟨ob,1,none⟩ (.float .f64 (oh (i+1)))=W5 at b d f a|-
     go_wp2
     exact⟨⟨i+1,by go_num,by omega,a,d,f,b⟩,by simp[intOf];omega⟩
   ·rw[hk]at t
    rw[hk2]at q
    replace q:=q hk
    go_wp2_with (first|(go_at_call 63;refine(q _ b).mono ?_;rintro e Y ⟨rfl,x⟩;replace a:=a.kp x;replace d:=d.kp x;replace f:=f.kp x;replace k:=k.kp x;replace b:=Kp.trans b x;obtain⟨A,s,B,r⟩:=k.c2;obtain⟨y,m,z,o⟩:=a.c2;skip)|(go_at_call 96;refine(t _).mono ?_;rintro e Q ⟨rfl,l⟩;replace a:=a.kp l;replace d:=d.kp l;replace f:=f.kp l;replace k:=k.kp l;replace b:=Kp.trans b l;obtain⟨A,s,B,r⟩:=k.c2;obtain⟨y,m,z,o⟩:=a.c2;skip))
    exact⟨⟨i+1,by go_num,by omega,by rw[P,R];exact a,d,f,b⟩,by simp[intOf];omega⟩
  ·have F:i=n:=by omega
   have P:ol i=ol n:=by rw[F]
   have R:oh i=oh n:=by rw[F]
   rw[P,R]at a
   obtain⟨y,m,z,o⟩:=a.c2;obtain⟨r0,X,r1,ar⟩:=f.c2;skip
   clear hl hI hS hH hU
   go_wp2
   exact BR (v:=.agg #[.float .f64 (ol n),.float .f64 (oh n)]) ⟨rfl,((b.setCell (by (simp<;>omega)) _).setCell (by (simp<;>omega)) _)⟩ (by simp[results,results42,go_sem,r0,r1])
theorem BE (v9 b1 b2 z1 z2 c1 c2 ub vb tb:Nat)(V9:Bool)(W:World)(hB:BK W ub #[.float .f64 b1,.float .f64 b2] 29)(hZ:BK W vb #[.float .f64 z1,.float .f64 z2] 29)(hC:BK W tb #[.float .f64 c1,.float .f64 c2] 29)(hm:∀W':World,Kp W W'->Calls prog 40 #[.agg #[.float .f64 v9,.float .f64 v9],.agg #[.float .f64 b1,.float .f64 b2],.agg #[.float .f64 z1,.float .f64 z2],.agg #[.float .f64 c1,.float .f64 c2]] W' (RT (.bool V9) W')):Calls prog 63 #[.float .f64 v9,.pointer (some ⟨ub,0,none⟩),.pointer (some ⟨vb,0,none⟩),.pointer (some ⟨tb,0,none⟩)] W (RT (.bool V9) W):=by
 go_enter func63,ntmps63
 go_wp2
 refine Fq.ej (by kernel_rfl) (by kernel_rfl) (fun ι _ G hG hall=>?_)
 have d:∀n,(G n).cell? ⟨ub,0,none⟩=some (.float .f64 b1):=fun n=>Fq.ft (hG n) ((hB.cell 0).trans rfl)
 have c:∀n,(G n).cell? ⟨ub,1,none⟩=some (.float .f64 b2):=fun n=>Fq.ft (hG n) ((hB.cell 1).trans rfl)
 have b:∀n,(G n).cell? ⟨vb,0,none⟩=some (.float .f64 z1):=fun n=>Fq.ft (hG n) ((hZ.cell 0).trans rfl)
 have f:∀n,(G n).cell? ⟨vb,1,none⟩=some (.float .f64 z2):=fun n=>Fq.ft (hG n) ((hZ.cell 1).trans rfl)
 have a:∀n,(G n).cell? ⟨tb,0,none⟩=some (.float .f64 c1):=fun n=>Fq.ft (hG n) ((hC.cell 0).trans rfl)
 have g:∀n,(G n).cell? ⟨tb,1,none⟩=some (.float .f64 c2):=fun n=>Fq.ft (hG n) ((hC.cell 1).trans rfl)
 repeat(go_big_quiet_step (first|(go_at_call 41;exact(tD v9 _).mono (fun e w' h=>⟨h.1,hall _ (Fq.iC (hG _) h.2)⟩))|(go_at_call 40;exact(hm _ (hG _)).mono (fun e w' h=>⟨h.1,hall _ (Fq.iC (hG _) h.2)⟩))))
 refine wpQuiet_nil ?_
 rintro _ ⟨i,rfl⟩
 have j:Kp W (G i):=hG i
 clear d c b f a g hall hG
 go_wp2
 exact BR ⟨rfl,j⟩
set_option linter.all false
theorem xw (b1 b2 c1 c2 x1 x2 Q1 Q2:Nat)(w:World)(hf:KW w 23 #[.agg #[.float .f64 b1,.float .f64 b2],.agg #[.float .f64 0,.float .f64 0],.agg #[.float .f64 c1,.float .f64 c2],.agg #[.float .f64 x1,.float .f64 x2]] (.agg #[.float .f64 Q1,.float .f64 Q2])):Calls prog 17 #[.agg #[.float .f64 b1,.float .f64 b2],.agg #[.float .f64 c1,.float .f64 c2],.agg #[.float .f64 x1,.float .f64 x2]] w (RT (.agg #[.float .f64 Q1,.float .f64 Q2]) w):=by
 go_enter func17,ntmps17
 go_upto_region 1 with fail
 obtain⟨W,j,H,F,G,I,L⟩:=Et w #[.float .f64 b1,.float .f64 b2] 29 #[.float .f64 c1,.float .f64 c2] 29 #[.float .f64 x1,.float .f64 x2] 29 #[.float .f64 0,.float .f64 0] 29
 rw[<-j];clear j
 have h:W.cell? ⟨w.heap.size,0,none⟩=some (.float .f64 b1):=(F.cell 0).trans rfl
 have y:W.drew.cell? ⟨w.heap.size,0,none⟩=some (.float .f64 b1):=h
 have c:W.cell? ⟨w.heap.size,1,none⟩=some (.float .f64 b2):=(F.cell 1).trans rfl
 have r:W.drew.cell? ⟨w.heap.size,1,none⟩=some (.float .f64 b2):=c
 have i:W.cell? ⟨w.heap.size+1,0,none⟩=some (.float .f64 c1):=(G.cell 0).trans rfl
 have A:W.drew.cell? ⟨w.heap.size+1,0,none⟩=some (.float .f64 c1):=i
 have f:W.cell? ⟨w.heap.size+1,1,none⟩=some (.float .f64 c2):=(G.cell 1).trans rfl
 have x:W.drew.cell? ⟨w.heap.size+1,1,none⟩=some (.float .f64 c2):=f
 have d:W.cell? ⟨w.heap.size+2,0,none⟩=some (.float .f64 x1):=(I.cell 0).trans rfl
 have D:W.drew.cell? ⟨w.heap.size+2,0,none⟩=some (.float .f64 x1):=d
 have g:W.cell? ⟨w.heap.size+2,1,none⟩=some (.float .f64 x2):=(I.cell 1).trans rfl
 have t:W.drew.cell? ⟨w.heap.size+2,1,none⟩=some (.float .f64 x2):=g
 go_region_held3 (fun w'=>w'.cell? ⟨w.heap.size,0,none⟩=some (.float .f64 b1)∧w'.cell? ⟨w.heap.size,1,none⟩=some (.float .f64 b2)∧w'.cell? ⟨w.heap.size+1,0,none⟩=some (.float .f64 c1)∧w'.cell? ⟨w.heap.size+1,1,none⟩=some (.float .f64 c2)∧w'.cell? ⟨w.heap.size+2,0,none⟩=some (.float .f64 x1)∧w'.cell? ⟨w.heap.size+2,1,none⟩=some (.float .f64 x2)) (first|(with_reducible exact⟨y,r,A,x,D,t⟩)|(with_reducible exact⟨s,E,B,C,u,q⟩)|(with_reducible exact⟨n,l,m,p,o,k⟩)|(exact⟨((CF _ _ _ _ (by (simp<;>omega))).trans ((CF _ _ _ _ (by (simp<;>omega))).trans n)),((CF _ _ _ _ (by (simp<;>omega))).trans ((CF _ _ _ _ (by (simp<;>omega))).trans l)),((CF _ _ _ _ (by (simp<;>omega))).trans ((CF _ _ _ _ (by (simp<;>omega))).trans m)),((CF _ _ _ _ (by (simp<;>omega))).trans ((CF _ _ _ _ (by (simp<;>omega))).trans p)),((CF _ _ _ _ (by (simp<;>omega))).trans ((CF _ _ _ _ (by (simp<;>omega))).trans o)),((CF _ _ _ _ (by (simp<;>omega))).trans ((CF _ _ _ _ (by (simp<;>omega))).trans k))⟩)) (first|(go_at_call 23;refine(hf _ (Kp.trans H b)).mono ?_;rintro e P ⟨rfl,N⟩;have a:Kp W P:=Kp.trans b N;have z:=L.kp a;obtain⟨M,O,Q,K⟩:=z.c2;skip;have n:=ac a h;have l:=ac a c;have m:=ac a i;have p:=ac a f;have o:=ac a d;have k:=ac a g)|(go_at_call 41;refine(tD 0 _).mono ?_;rintro e R ⟨rfl,J⟩;have b:Kp W R:=Kp.trans (Kp.drew (Kp.refl _)) J;have s:=ac b h;have E:=ac b c;have B:=ac b i;have C:=ac b f;have u:=ac b d;have q:=ac b g))
 go_wp2
 exact BR (v:=.agg #[.float .f64 Q1,.float .f64 Q2]) ⟨rfl,(((Kp.trans H a).setCell (by (simp<;>omega)) _).setCell (by (simp<;>omega)) _)⟩ (by simp[results,results17,go_sem,M,Q])
theorem yo (b1 b2 z1 z2 c1 c2 x1 x2 LB HB LZ HZ LC HC O1 O2 T1 T2 Q1 Q2:Nat)(w:World)
  (hb9:∀W:World,Calls prog 38 #[.agg #[.float .f64 b1,.float .f64 b2]] W (RT (.agg #[.float .f64 LB,.float .f64 HB]) W))(hz9:∀W:World,Calls prog 38 #[.agg #[.float .f64 z1,.float .f64 z2]] W (RT (.agg #[.float .f64 LZ,.float .f64 HZ]) W))(hc9:∀W:World,Calls prog 38 #[.agg #[.float .f64 c1,.float .f64 c2]] W (RT (.agg #[.float .f64 LC,.float .f64 HC]) W))
  (hfac:KW w 58 #[.agg #[.float .f64 LB,.float .f64 HB],.agg #[.float .f64 LZ,.float .f64 HZ],.agg #[.float .f64 LC,.float .f64 HC]] (.tuple #[.agg #[.float .f64 O1,.float .f64 O2],.agg #[.float .f64 T1,.float .f64 T2]]))
  (hlf:∀(W:World)(g:Nat),Kp w W->BK W w.heap.size #[.float .f64 LB,.float .f64 HB] 29->BK W (w.heap.size+1) #[.float .f64 LZ,.float .f64 HZ] 29->BK W (w.heap.size+2) #[.float .f64 LC,.float .f64 HC] 29->BK W g #[.float .f64 O1,.float .f64 O2,.float .f64 T1,.float .f64 T2] 29->Calls prog 42 #[.agg #[.float .f64 x1,.float .f64 x2],.func (.func 63) #[] #[.pointer (some ⟨w.heap.size,0,none⟩),.pointer (some ⟨w.heap.size+1,0,none⟩),.pointer (some ⟨w.heap.size+2,0,none⟩)],.slice (some ⟨g,0,none⟩) 2 2] W (RT (.agg #[.float .f64 Q1,.float .f64 Q2]) W)) :
  Calls prog 23 #[.agg #[.float .f64 b1,.float .f64 b2],.agg #[.float .f64 z1,.float .f64 z2],.agg #[.float .f64 c1,.float .f64 c2],.agg #[.float .f64 x1,.float .f64 x2]] w (RT (.agg #[.float .f64 Q1,.float .f64 Q2]) w):=by
 have ci:∀(fn:Fn)(first cap:Array Value)(w:World),(Instr.makeFunc fn first cap).run prog w=.ok (.func fn first cap) w:=fun _ _ _ _=>rfl
 go_enter func23,ntmps23
 go_upto_region 1 with fail
 obtain⟨W,a,z,k,m,l,B,A⟩:=G8 w #[.float .f64 b1,.float .f64 b2] 29 #[.float .f64 z1,.float .f64 z2] 29 #[.float .f64 c1,.float .f64 c2] 29 #[.float .f64 x1,.float .f64 x2] 29 #[.float .f64 0,.float .f64 0] 29
 rw[<-a];clear a
 go_cut [] (fun wx=>BK wx w.heap.size #[.float .f64 LB,.float .f64 HB] 29∧BK wx (w.heap.size+1) #[.float .f64 LZ,.float .f64 HZ] 29∧BK wx (w.heap.size+2) #[.float .f64 LC,.float .f64 HC] 29∧BK wx (w.heap.size+3) #[.float .f64 x1,.float .f64 x2] 29∧BK wx (w.heap.size+4) #[.float .f64 0,.float .f64 0] 29∧Kp w wx)
 case first =>
  obtain⟨x,c,r,i⟩:=k.c2;obtain⟨y,h,u,f⟩:=m.c2;obtain⟨s,b,q,d⟩:=l.c2;skip
  have ce:W.drew.cell? ⟨w.heap.size,0,none⟩=some (.float .f64 b1):=x;have ch:W.drew.cell? ⟨w.heap.size,1,none⟩=some (.float .f64 b2):=r;have bB:W.drew.cell? ⟨w.heap.size+1,0,none⟩=some (.float .f64 z1):=y;have b4:W.drew.cell? ⟨w.heap.size+1,1,none⟩=some (.float .f64 z2):=u;have ca:W.drew.cell? ⟨w.heap.size+2,0,none⟩=some (.float .f64 c1):=s;have cc:W.drew.cell? ⟨w.heap.size+2,1,none⟩=some (.float .f64 c2):=q
  go_region_with (first|(go_at_call_of 38 (Value.agg #[.float .f64 b1,.float .f64 b2]);refine(hb9 _).mono ?_;rintro e wb ⟨rfl,gb⟩;(have kb:Kp W wb:=Kp.trans (Kp.drew (Kp.refl _)) gb;have M:=k.kp kb;obtain⟨bx,aw,bt,T⟩:=M.c2;have a6:=m.kp kb;obtain⟨br,S,ba,L⟩:=a6.c2;have Z:=l.kp kb;obtain⟨bf,Y,bc,a4⟩:=Z.c2;skip))|(go_at_call_of 38 (Value.agg #[.float .f64 z1,.float .f64 z2]);refine(hz9 _).mono ?_;rintro e wz ⟨rfl,gz⟩;(have G:=Kp.trans kb gz;have R:=k.kp G;obtain⟨c,I,i,an⟩:=R.c2;have X:=m.kp G;obtain⟨h,aa,f,N⟩:=X.c2;have au:=l.kp G;obtain⟨b,ar,d,Q⟩:=au.c2;skip))|(go_at_call_of 38 (Value.agg #[.float .f64 c1,.float .f64 c2]);refine(hc9 _).mono ?_;rintro e wc ⟨rfl,gc⟩;(have n:=Kp.trans G gc;have ad:=k.kp n;obtain⟨bq,ab,bn,V⟩:=ad.c2;have a3:=m.kp n;obtain⟨bb,a5,a9,aj⟩:=a3.c2;have a2:=l.kp n;obtain⟨a7,J,bu,O⟩:=a2.c2;skip)))
  all_goals (
   go_wp2_with fail
   go_meet
   (exact⟨(((((((((((((k.kp n)).put 0 (.float .f64 LB))).put 1 (.float .f64 HB))).far ⟨w.heap.size+1,0,none⟩ (.float .f64 LZ) (by (simp<;>omega)))).far ⟨w.heap.size+1,1,none⟩ (.float .f64 HZ) (by (simp<;>omega)))).far ⟨w.heap.size+2,0,none⟩ (.float .f64 LC) (by (simp<;>omega)))).far ⟨w.heap.size+2,1,none⟩ (.float .f64 HC) (by (simp<;>omega))),(((((((((((((m.kp n)).far ⟨w.heap.size,0,none⟩ (.float .f64 LB) (by (simp<;>omega)))).far ⟨w.heap.size,1,none⟩ (.float .f64 HB) (by (simp<;>omega)))).put 0 (.float .f64 LZ))).put 1 (.float .f64 HZ))).far ⟨w.heap.size+2,0,none⟩ (.float .f64 LC) (by (simp<;>omega)))).far ⟨w.heap.size+2,1,none⟩ (.float .f64 HC) (by (simp<;>omega))),(((((((((((((l.kp n)).far ⟨w.heap.size,0,none⟩ (.float .f64 LB) (by (simp<;>omega)))).far ⟨w.heap.size,1,none⟩ (.float .f64 HB) (by (simp<;>omega)))).far ⟨w.heap.size+1,0,none⟩ (.float .f64 LZ) (by (simp<;>omega)))).far ⟨w.heap.size+1,1,none⟩ (.float .f64 HZ) (by (simp<;>omega)))).put 0 (.float .f64 LC))).put 1 (.float .f64 HC)),(((((((((((((B.kp n)).far ⟨w.heap.size,0,none⟩ (.float .f64 LB) (by (simp<;>omega)))).far ⟨w.heap.size,1,none⟩ (.float .f64 HB) (by (simp<;>omega)))).far ⟨w.heap.size+1,0,none⟩ (.float .f64 LZ) (by (simp<;>omega)))).far ⟨w.heap.size+1,1,none⟩ (.float .f64 HZ) (by (simp<;>omega)))).far ⟨w.heap.size+2,0,none⟩ (.float .f64 LC) (by (simp<;>omega)))).far ⟨w.heap.size+2,1,none⟩ (.float .f64 HC) (by (simp<;>omega))),(((((((((((((A.kp n)).far ⟨w.heap.size,0,none⟩ (.float .f64 LB) (by (simp<;>omega)))).far ⟨w.heap.size,1,none⟩ (.float .f64 HB) (by (simp<;>omega)))).far ⟨w.heap.size+1,0,none⟩ (.float .f64 LZ) (by (simp<;>omega)))).far ⟨w.heap.size+1,1,none⟩ (.float .f64 HZ) (by (simp<;>omega)))).far ⟨w.heap.size+2,0,none⟩ (.float .f64 LC) (by (simp<;>omega)))).far ⟨w.heap.size+2,1,none⟩ (.float .f64 HC) (by (simp<;>omega))),(((((((((((((Kp.trans z n)).setCell (p:=⟨w.heap.size,0,none⟩) (by (simp<;>omega)) (.float .f64 LB))).setCell (p:=⟨w.heap.size,1,none⟩) (by (simp<;>omega)) (.float .f64 HB))).setCell (p:=⟨w.heap.size+1,0,none⟩) (by (simp<;>omega)) (.float .f64 LZ))).setCell (p:=⟨w.heap.size+1,1,none⟩) (by (simp<;>omega)) (.float .f64 HZ))).setCell (p:=⟨w.heap.size+2,0,none⟩) (by (simp<;>omega)) (.float .f64 LC))).setCell (p:=⟨w.heap.size+2,1,none⟩) (by (simp<;>omega)) (.float .f64 HC))⟩))
 case rest =>
 obtain⟨k,m,l,B,A,z⟩:=hcut
 generalize wc=W at k m l B A z|-
 obtain⟨x,c,r,i⟩:=k.c2;obtain⟨y,h,u,f⟩:=m.c2;obtain⟨s,b,q,d⟩:=l.c2;skip
 have cm:w.heap.size+4<W.heap.size:=by have:=A.lt;omega
 go_upto_region 4 with(first|(go_at_call 58;refine(hfac _ z).mono ?_;rintro e t ⟨rfl,o⟩))
 have F:w.heap.size+4<t.heap.size:=by have:=o.size;omega
 obtain⟨j,a⟩:=aA ((t.alloc (.cells #[.float .f64 O1,.float .f64 O2] 29)).alloc (.cells #[.float .f64 T1,.float .f64 T2] 29))
 have H:BK j (w.heap.size) #[.float .f64 LB,.float .f64 HB] 29:=by subst a;exact(((k.kp o)).kp ((Kp.refl _).alloc _)).kp ((Kp.refl _).alloc _)
 have K:BK j (w.heap.size+1) #[.float .f64 LZ,.float .f64 HZ] 29:=by subst a;exact(((m.kp o)).kp ((Kp.refl _).alloc _)).kp ((Kp.refl _).alloc _)
 have a1:BK j (w.heap.size+2) #[.float .f64 LC,.float .f64 HC] 29:=by subst a;exact(((l.kp o)).kp ((Kp.refl _).alloc _)).kp ((Kp.refl _).alloc _)
 have P:BK j (w.heap.size+3) #[.float .f64 x1,.float .f64 x2] 29:=by subst a;exact(((B.kp o)).kp ((Kp.refl _).alloc _)).kp ((Kp.refl _).alloc _)
 have a0:BK j (w.heap.size+4) #[.float .f64 0,.float .f64 0] 29:=by subst a;exact(((A.kp o)).kp ((Kp.refl _).alloc _)).kp ((Kp.refl _).alloc _)
 have C:BK j t.heap.size #[.float .f64 O1,.float .f64 O2] 29:=by subst a;exact(BK.new t #[.float .f64 O1,.float .f64 O2] 29).kp ((Kp.refl _).alloc _)
 have D:BK j (t.heap.size+1) #[.float .f64 T1,.float .f64 T2] 29:=by subst a;exact BK.newAt (w:=t.alloc (.cells #[.float .f64 O1,.float .f64 O2] 29)) (by simp) #[.float .f64 T1,.float .f64 T2] 29
 have E:Kp w j:=by subst a;exact((Kp.trans z o).alloc _).alloc _
 clear x c r i y h u f s b q d k m l B A z o
 rw[<-a];clear a
 generalize t.heap.size=eb at C D F|-
 obtain⟨b5,bo,cj,bm⟩:=P.c2;obtain⟨b3,bv,cg,bp⟩:=C.c2;obtain⟨bX,bA,cd,a8⟩:=D.c2;skip
 go_wp2_with (first|(go_at_call 42;refine(hlf _ j.heap.size (Kp.trans E ((Kp.refl _).alloc _)) (H.kp ((Kp.refl _).alloc _)) (K.kp ((Kp.refl _).alloc _)) (a1.kp ((Kp.refl _).alloc _)) (BK.new _ _ _)).mono ?_;rintro e w8 ⟨rfl,g8⟩;have k8:Kp j w8:=Kp.trans ((Kp.refl _).alloc _) g8;have U:=a0.kp k8;obtain⟨r0,bH,r1,ck⟩:=U.c2;skip))
 exact BR (v:=.agg #[.float .f64 Q1,.float .f64 Q2]) ⟨rfl,(((Kp.trans E k8).setCell (by (simp<;>omega)) _).setCell (by (simp<;>omega)) _)⟩ (by simp[results,results23,go_sem,r0,r1])
set_option linter.all false
theorem xY (X:Nat)(V:Bool)(t:(FloatKind.f64.format.order X 9218868437227405311 == some Ordering.gt)=V)(w:World):Calls prog 109 #[.float .f64 X,.int .i64 1] w (RE (.bool V) w):=by
 go_enter func109,ntmps109
 go_wp2
 exact BR ⟨rfl,rfl⟩
theorem EU (d9:Int)(p9 q9 b9 L9 M9:Nat)(w:World)(h1:KW w 139 #[.int .i64 (-1),.float .f64 p9,.float .f64 q9] (.float .f64 L9))(h2:KW w 139 #[.int .i64 1,.float .f64 p9,.float .f64 q9] (.float .f64 M9))(hi:SC 109 #[.float .f64 b9,.int .i64 1] (.bool true)):Calls prog 157 #[.int .i64 d9,.float .f64 p9,.float .f64 q9,.float .f64 b9] w (RT (.float .f64 0) w):=by
 go_enter func157,ntmps157
 go_wp2_with (first|(go_at_call 109;refine(hi _).mono ?_;rintro e h ⟨rfl,a⟩;obtain rfl:=a.symm;clear a)|(have c:=b;clear c;go_at_call 139;refine(h2 _ b).mono ?_;rintro e d ⟨rfl,f⟩;have g:Kp w d:=Kp.trans b f)|(go_at_call 139;refine(h1 _ (Kp.refl _)).mono ?_;rintro e i ⟨rfl,b⟩))
 exact BR ⟨rfl,g⟩
theorem EV (d9:Int)(p9 q9 b9 L9 M9:Nat)(w:World)(Z9:Nat)(h1:KW w 139 #[.int .i64 (-1),.float .f64 p9,.float .f64 q9] (.float .f64 L9))(h2:KW w 139 #[.int .i64 1,.float .f64 p9,.float .f64 q9] (.float .f64 M9))(hi:SC 109 #[.float .f64 b9,.int .i64 1] (.bool false))(t1:(FloatKind.f64.format.order L9 M9 == some Ordering.eq)=true)(hd:KW w 195 #[.int .i64 d9,.float .f64 L9,.float .f64 b9] (.float .f64 Z9)):Calls prog 157 #[.int .i64 d9,.float .f64 p9,.float .f64 q9,.float .f64 b9] w (RT (.float .f64 Z9) w):=by
 go_enter func157,ntmps157
 go_wp2_with (first|(go_at_call 195;refine(hd _ c).mono ?_;rintro e k ⟨rfl,h⟩)|(go_at_call 109;refine(hi _).mono ?_;rintro e i ⟨rfl,a⟩;obtain rfl:=a.symm;clear a)|(have d:=b;clear d;go_at_call 139;refine(h2 _ b).mono ?_;rintro e f ⟨rfl,g⟩;have c:Kp w f:=Kp.trans b g)|(go_at_call 139;refine(h1 _ (Kp.refl _)).mono ?_;rintro e j ⟨rfl,b⟩))
 exact BR ⟨rfl,(Kp.trans c h)⟩
end Go.Proofs.YtmpjcknaelgnoaaGreatDoor
