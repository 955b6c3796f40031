import Derived.Test.YtmpjcknaelgnoaaGreatDoorKRMm
set_option maxHeartbeats 4000000
set_option maxRecDepth 20000
namespace Go.Proofs.YtmpjcknaelgnoaaGreatDoor
open Go.RowKit Tryz
set_option linter.all false
theorem EA (i j:Int) s p l c q k d s2 p2 l2 c2 q2 k2 d2 (w:World):Calls prog 113 #[.agg #[.bool true,.int .i64 i,.bool s,.slice p l c,.slice q k d,.int .i64 j,.bool s2,.slice p2 l2 c2,.slice q2 k2 d2]] w fun e w'=>∃(s5:Bool)(p5:Option Addr)(l5 c5:Nat)(q5:Option Addr)(k5 d5:Nat)(s6:Bool)(p6:Option Addr)(l6 c6:Nat)(q6:Option Addr)(k6 d6:Nat),e=.returned (.agg #[.bool true,.int .i64 0,.bool s5,.slice p5 l5 c5,.slice q5 k5 d5,.int .i64 0,.bool s6,.slice p6 l6 c6,.slice q6 k6 d6])∧Kp w w':=by
 go_enter func113,ntmps113
 go_wp2_with (first|(go_at_call 103;refine(xr _).mono ?_;rintro e F ⟨s5,p5,l5,c5,q5,k5,d5,s6,p6,l6,c6,q6,k6,d6,rfl,a⟩;obtain⟨u,r,h,f,m,A,t,y,B,n,D,b,x,o,C,g,z,E⟩:=Ej a (w.heap.size+1) (.bool false) (.int .i64 0) (.bool false) (.slice none 0 0) (.slice none 0 0) (.int .i64 0) (.bool false) (.slice none 0 0) (.slice none 0 0) (by simp[go_sem])))
 exact BR (v:=.agg #[.bool true,.int .i64 0,.bool s5,.slice p5 l5 c5,.slice q5 k5 d5,.int .i64 0,.bool s6,.slice p6 l6 c6,.slice q6 k6 d6]) ⟨s5,p5,l5,c5,q5,k5,d5,s6,p6,l6,c6,q6,k6,d6,rfl,yR ((Kp.trans (((Kp.refl w).alloc _).alloc _) a)) (by omega)⟩ (by simp[results,results113,go_sem,u,h,m,t,B,D,x,C,z])
theorem GC (i j S:Int) s p l c q k d s2 p2 l2 c2 q2 k2 d2 (t:S<=0)(w:World)(hs:KW w 90 #[.agg #[.int .i64 j,.bool s2,.slice p2 l2 c2,.slice q2 k2 d2]] (.int .i64 S)):Calls prog 113 #[.agg #[.bool false,.int .i64 i,.bool s,.slice p l c,.slice q k d,.int .i64 j,.bool s2,.slice p2 l2 c2,.slice q2 k2 d2]] w fun e w'=>∃(s5:Bool)(p5:Option Addr)(l5 c5:Nat)(q5:Option Addr)(k5 d5:Nat)(s6:Bool)(p6:Option Addr)(l6 c6:Nat)(q6:Option Addr)(k6 d6:Nat),e=.returned (.agg #[.bool true,.int .i64 0,.bool s5,.slice p5 l5 c5,.slice q5 k5 d5,.int .i64 0,.bool s6,.slice p6 l6 c6,.slice q6 k6 d6])∧Kp w w':=by
 go_enter func113,ntmps113
 go_wp2_with (first|(go_at_call 90;refine(hs _ ?q0).mono ?_;(case q0=>exact((Kp.refl w).alloc _).alloc _);rintro e O ⟨rfl,a⟩;have C:Kp w O:=Kp.trans (((Kp.refl w).alloc _).alloc _) a;have a0:=ac a (b:=w.heap.size) (o:=0) (v:=.bool false) (by simp[go_sem]);have a1:=ac a (b:=w.heap.size) (o:=1) (v:=.int .i64 i) (by simp[go_sem]);have a2:=ac a (b:=w.heap.size) (o:=2) (v:=.bool s) (by simp[go_sem]);have a3:=ac a (b:=w.heap.size) (o:=3) (v:=.slice p l c) (by simp[go_sem]);have a4:=ac a (b:=w.heap.size) (o:=4) (v:=.slice q k d) (by simp[go_sem]);have a5:=ac a (b:=w.heap.size) (o:=5) (v:=.int .i64 j) (by simp[go_sem]);have a6:=ac a (b:=w.heap.size) (o:=6) (v:=.bool s2) (by simp[go_sem]);have a7:=ac a (b:=w.heap.size) (o:=7) (v:=.slice p2 l2 c2) (by simp[go_sem]);have a8:=ac a (b:=w.heap.size) (o:=8) (v:=.slice q2 k2 d2) (by simp[go_sem]);obtain⟨G,m,T,g,F,n,U,x,r4,u,r5,f,X,r,r7,h,K,y⟩:=Ej a (w.heap.size+1) (.bool false) (.int .i64 0) (.bool false) (.slice none 0 0) (.slice none 0 0) (.int .i64 0) (.bool false) (.slice none 0 0) (.slice none 0 0) (by simp[go_sem]))|(go_at_call 103;refine(xr _).mono ?_;rintro e w1 ⟨s5,p5,l5,c5,q5,k5,d5,s6,p6,l6,c6,q6,k6,d6,rfl,z⟩;obtain⟨L,Y,V,W,B,H,E,Z,R4,P,M,A,D,N,I,R,Q,J⟩:=BQ z ⟨G,m,T,g,F,n,U,x,r4,u,r5,f,X,r,r7,h,K,y⟩))
 exact BR (v:=.agg #[.bool true,.int .i64 0,.bool s5,.slice p5 l5 c5,.slice q5 k5 d5,.int .i64 0,.bool s6,.slice p6 l6 c6,.slice q6 k6 d6]) ⟨s5,p5,l5,c5,q5,k5,d5,s6,p6,l6,c6,q6,k6,d6,rfl,yR ((Kp.trans C z)) (by omega)⟩ (by simp[results,results113,go_sem,L,V,B,E,R4,M,D,I,Q])
set_option maxHeartbeats 20000000 in
theorem A7:(∀(i j S:Int) s p l c q k d s2 p2 l2 c2 q2 k2 d2 (t:¬(S<=0))(w:World)(hs:KW w 90 #[.agg #[.int .i64 j,.bool s2,.slice p2 l2 c2,.slice q2 k2 d2]] (.int .i64 S))(hg:∀(W:World) s3 p3 l3 c3 q3 k3 d3,Kp w W->(∃B3,RP B3 W s3 p3 l3 c3 q3 k3 d3 false 0)->Calls prog 123 #[.agg #[.int .i64 i,.bool s,.slice p l c,.slice q k d],.agg #[.int .i64 0,.bool s3,.slice p3 l3 c3,.slice q3 k3 d3]] W (RT (.agg #[.int .i64 i,.bool s,.slice p l c,.slice q k d]) W)),Calls prog 113 #[.agg #[.bool false,.int .i64 i,.bool s,.slice p l c,.slice q k d,.int .i64 j,.bool s2,.slice p2 l2 c2,.slice q2 k2 d2]] w (RT (.agg #[.bool false,.int .i64 i,.bool s,.slice p l c,.slice q k d,.int .i64 j,.bool s2,.slice p2 l2 c2,.slice q2 k2 d2]) w))∧(∀(i j S:Int) s p l c q k d s2 p2 l2 c2 q2 k2 d2 (t:¬(S<=0))(w:World)(hs:KW w 90 #[.agg #[.int .i64 j,.bool s2,.slice p2 l2 c2,.slice q2 k2 d2]] (.int .i64 S))(hg:∀(W:World) s3 p3 l3 c3 q3 k3 d3,Kp w W->(∃B3,RP B3 W s3 p3 l3 c3 q3 k3 d3 false 0)->Calls prog 123 #[.agg #[.int .i64 i,.bool s,.slice p l c,.slice q k d],.agg #[.int .i64 0,.bool s3,.slice p3 l3 c3,.slice q3 k3 d3]] W (RT (.agg #[.int .i64 0,.bool s3,.slice p3 l3 c3,.slice q3 k3 d3]) W)),Calls prog 113 #[.agg #[.bool false,.int .i64 i,.bool s,.slice p l c,.slice q k d,.int .i64 j,.bool s2,.slice p2 l2 c2,.slice q2 k2 d2]] w fun e w'=>∃s3 p3 l3 c3 q3 k3 d3,e=.returned (.agg #[.bool false,.int .i64 0,.bool s3,.slice p3 l3 c3,.slice q3 k3 d3,.int .i64 j,.bool s2,.slice p2 l2 c2,.slice q2 k2 d2])∧RP w.heap.size w' s3 p3 l3 c3 q3 k3 d3 false 0∧Kp w w'):=by
 refine⟨?_,?_⟩
 case' refine_1=>intro i j S s p l c q k d s2 p2 l2 c2 q2 k2 d2 t w hs hg;have bc:=trivial
 case' refine_2=>intro i j S s p l c q k d s2 p2 l2 c2 q2 k2 d2 t w hs hg;have aw:=trivial
 all_goals (
  go_enter func113,ntmps113
  go_upto_region 3 with(first|(go_at_call 90;refine(hs _ ?q0).mono ?_;(case q0=>exact((Kp.refl w).alloc _).alloc _);rintro e wv ⟨rfl,g⟩;have kv:Kp w wv:=Kp.trans (((Kp.refl w).alloc _).alloc _) g;have a0:=ac g (b:=w.heap.size) (o:=0) (v:=.bool false) (by simp[go_sem]);have a1:=ac g (b:=w.heap.size) (o:=1) (v:=.int .i64 i) (by simp[go_sem]);have a2:=ac g (b:=w.heap.size) (o:=2) (v:=.bool s) (by simp[go_sem]);have a3:=ac g (b:=w.heap.size) (o:=3) (v:=.slice p l c) (by simp[go_sem]);have R:=ac g (b:=w.heap.size) (o:=4) (v:=.slice q k d) (by simp[go_sem]);have a5:=ac g (b:=w.heap.size) (o:=5) (v:=.int .i64 j) (by simp[go_sem]);have a6:=ac g (b:=w.heap.size) (o:=6) (v:=.bool s2) (by simp[go_sem]);have a7:=ac g (b:=w.heap.size) (o:=7) (v:=.slice p2 l2 c2) (by simp[go_sem]);have a8:=ac g (b:=w.heap.size) (o:=8) (v:=.slice q2 k2 d2) (by simp[go_sem]);obtain⟨r0,aA,r1,ar,r2,bb,r3,aa,r4,Z,r5,M,r6,Y,r7,au,r8,bB⟩:=Ej g (w.heap.size+1) (.bool false) (.int .i64 0) (.bool false) (.slice none 0 0) (.slice none 0 0) (.int .i64 0) (.bool false) (.slice none 0 0) (.slice none 0 0) (by simp[go_sem])))
  have kw:Kp w wv:=kv
  clear kv g
  generalize wv=W at *
  have u:W.cell? ⟨w.heap.size,1,none⟩=some (.int .i64 i):=a1
  have bq:W.drew.cell? ⟨w.heap.size,1,none⟩=some (.int .i64 i):=a1
  have C:W.cell? ⟨w.heap.size,2,none⟩=some (.bool s):=a2
  have X:W.drew.cell? ⟨w.heap.size,2,none⟩=some (.bool s):=a2
  have r:W.cell? ⟨w.heap.size,3,none⟩=some (.slice p l c):=a3
  have bn:W.drew.cell? ⟨w.heap.size,3,none⟩=some (.slice p l c):=a3
  have F:W.cell? ⟨w.heap.size,4,none⟩=some (.slice q k d):=R
  have bl:W.drew.cell? ⟨w.heap.size,4,none⟩=some (.slice q k d):=R
  have K:W.cell? ⟨w.heap.size,5,none⟩=some (.int .i64 j):=a5
  have T:W.drew.cell? ⟨w.heap.size,5,none⟩=some (.int .i64 j):=a5
  have z:W.cell? ⟨w.heap.size,6,none⟩=some (.bool s2):=a6
  have ad:W.drew.cell? ⟨w.heap.size,6,none⟩=some (.bool s2):=a6
  have D:W.cell? ⟨w.heap.size,7,none⟩=some (.slice p2 l2 c2):=a7
  have O:W.drew.cell? ⟨w.heap.size,7,none⟩=some (.slice p2 l2 c2):=a7
  have B:W.cell? ⟨w.heap.size,8,none⟩=some (.slice q2 k2 d2):=a8
  have aj:W.drew.cell? ⟨w.heap.size,8,none⟩=some (.slice q2 k2 d2):=a8
  clear a0 a1 a2 a3 R a5 a6 a7 a8
  have a:w.heap.size+1<W.heap.size:=be r0
  have f:w.heap.size+1≠w.heap.size:=by omega
  go_region_held3 (fun w'=>w'.cell? ⟨w.heap.size,1,none⟩=some (.int .i64 i)∧w'.cell? ⟨w.heap.size,2,none⟩=some (.bool s)∧w'.cell? ⟨w.heap.size,3,none⟩=some (.slice p l c)∧w'.cell? ⟨w.heap.size,4,none⟩=some (.slice q k d)∧w'.cell? ⟨w.heap.size,5,none⟩=some (.int .i64 j)∧w'.cell? ⟨w.heap.size,6,none⟩=some (.bool s2)∧w'.cell? ⟨w.heap.size,7,none⟩=some (.slice p2 l2 c2)∧w'.cell? ⟨w.heap.size,8,none⟩=some (.slice q2 k2 d2)) (first|(with_reducible exact⟨bq,X,bn,bl,T,ad,O,aj⟩)|(with_reducible exact⟨Q,an,U,P,bf,a9,N,ab⟩)|(with_reducible exact⟨E,H,J,G,I,A,L,n⟩)|(exact⟨(jB f E),(jB f H),(jB f J),(jB f G),(jB f I),(jB f A),(jB f L),(jB f n)⟩)) (first|(go_at_call 74;refine(qW _).mono ?_;rintro e wl ⟨s3,p3,l3,c3,q3,k3,d3,rfl,y,gl⟩;have m:Kp W wl:=Kp.trans (Kp.drew (Kp.refl _)) gl;have Q:=ac m u;have an:=ac m C;have U:=ac m r;have P:=ac m F;have bf:=ac m K;have a9:=ac m z;have N:=ac m D;have ab:=ac m B)|(go_at_call 123;refine(hg _ s3 p3 l3 c3 q3 k3 d3 (kw.trans m) ⟨_,y⟩).mono ?_;rintro e wh ⟨rfl,gh⟩;have h:Kp W wh:=Kp.trans m gh;have E:=ac h u;have H:=ac h C;have J:=ac h r;have G:=ac h F;have I:=ac h K;have A:=ac h z;have L:=ac h D;have n:=ac h B;obtain⟨R0,ck,R1,ci,R2,cb,R3,cl,R4,cu,R5,ca,R6,ct,R7,ce,R8,cr⟩:=BQ h ⟨r0,aA,r1,ar,r2,bb,r3,aa,r4,Z,r5,M,r6,Y,r7,au,r8,bB⟩))
  go_wp2
  have V:w.heap.size<=W.heap.size:=by omega
  first
  |(have z0:=bc;clear z0;exact BR (v:=.agg #[.bool false,.int .i64 i,.bool s,.slice p l c,.slice q k d,.int .i64 j,.bool s2,.slice p2 l2 c2,.slice q2 k2 d2]) ⟨rfl,yR ((Kp.trans kw h)) (by omega)⟩ (by simp[results,results113,go_sem,R0,R1,R2,R3,R4,R5,R6,R7,R8]))
  |(have z0:=aw;clear z0;exact BR (v:=.agg #[.bool false,.int .i64 0,.bool s3,.slice p3 l3 c3,.slice q3 k3 d3,.int .i64 j,.bool s2,.slice p2 l2 c2,.slice q2 k2 d2]) ⟨s3,p3,l3,c3,q3,k3,d3,rfl,RP.mono ((((((((((((y.kp gh).mono (base':=W.heap.size) (ao _))).set (x:=⟨w.heap.size+1,0,none⟩) a (.bool false)).set (x:=⟨w.heap.size+1,1,none⟩) a (.int .i64 0)).set (x:=⟨w.heap.size+1,2,none⟩) a (.bool s3)).set (x:=⟨w.heap.size+1,3,none⟩) a (.slice p3 l3 c3)).set (x:=⟨w.heap.size+1,4,none⟩) a (.slice q3 k3 d3)).set (x:=⟨w.heap.size+1,5,none⟩) a (.int .i64 j)).set (x:=⟨w.heap.size+1,6,none⟩) a (.bool s2)).set (x:=⟨w.heap.size+1,7,none⟩) a (.slice p2 l2 c2)).set (x:=⟨w.heap.size+1,8,none⟩) a (.slice q2 k2 d2)) V,yR ((Kp.trans kw h)) (by omega)⟩ (by simp[results,results113,go_sem,R0,R1,R2,R3,R4,R5,R6,R7,R8])))
theorem xX:Iv false 0=0:=by unfold Iv;rw[Fq.gj];rfl
theorem RP.x01 {base:Nat}{w:World}{s:Bool}{p:Option Addr}{l c:Nat}{q:Option Addr}{k d:Nat}(h:RP base w s p l c q k d false 0):XP base w s p l c q k d 0 1 1500 :=
 (h.xp 1074 rfl).as 0 1 1500 (by decide) (by rw[xX,bV,bV]) (ao _)
theorem RP.pl {base:Nat}{w:World}{s:Bool}{p:Option Addr}{l c:Nat}{q:Option Addr}{k d:Nat}(K:Nat)(hK:K=1074)(L:Int)(h:RP base w s p l c q k d (fN (decide (L<0)) L.natAbs) (fM L.natAbs)):XP base w s p l c q k d (Vz L) (2^K) 1500:=h.xp K hK
theorem A6 (K:Nat)(hK:K=1074)(L H:Int)(hd:VdZ L H)(hH:H<=0) s p l c q k d s2 p2 l2 c2 q2 k2 d2 (W:World)(a2:RP 0 W s2 p2 l2 c2 q2 k2 d2 (fN (decide (H<0)) H.natAbs) (fM H.natAbs)):Calls prog 113 #[.agg #[.bool false,.int .i64 (iz L),.bool s,.slice p l c,.slice q k d,.int .i64 (iz H),.bool s2,.slice p2 l2 c2,.slice q2 k2 d2]] W fun e w'=>∃(s5:Bool)(p5:Option Addr)(l5 c5:Nat)(q5:Option Addr)(k5 d5:Nat)(s6:Bool)(p6:Option Addr)(l6 c6:Nat)(q6:Option Addr)(k6 d6:Nat),e=.returned (.agg #[.bool true,.int .i64 0,.bool s5,.slice p5 l5 c5,.slice q5 k5 d5,.int .i64 0,.bool s6,.slice p6 l6 c6,.slice q6 k6 d6])∧Kp W w' :=
 GC (iz L) (iz H) (jW (iz H) (Vz H)) s p l c q k d s2 p2 l2 c2 q2 k2 d2 (by have:=iT H hd.hi;rcases(by omega:H<0∨H=0)with g|g;rw[this.2.2 g];decide;rw[this.1 g];decide) W (fun(W':World) (y:Kp W W')=>pY (iz H) (Vz H) (2^K) 1500 (by decide) s2 p2 l2 c2 q2 k2 d2 W' ((a2.kp y).pl K hK H))
theorem sS (K:Nat)(hK:K=1074)(L H:Int)(hd:VdZ L H)(nL:L≠9218868437227405312)(hH:0<H) s p l c q k d s2 p2 l2 c2 q2 k2 d2 (W:World)(a1:RP 0 W s p l c q k d (fN (decide (L<0)) L.natAbs) (fM L.natAbs))(a2:RP 0 W s2 p2 l2 c2 q2 k2 d2 (fN (decide (H<0)) H.natAbs) (fM H.natAbs)):Calls prog 113 #[.agg #[.bool false,.int .i64 (iz L),.bool s,.slice p l c,.slice q k d,.int .i64 (iz H),.bool s2,.slice p2 l2 c2,.slice q2 k2 d2]] W fun e w'=>∃(sg:Bool)(pg:Option Addr)(lg cg:Nat)(qg:Option Addr)(kg dg:Nat)(sh:Bool)(ph:Option Addr)(lh ch:Nat)(qh:Option Addr)(kh dh:Nat),e=.returned (.agg #[.bool false,.int .i64 (iz (max L 0)),.bool sg,.slice pg lg cg,.slice qg kg dg,.int .i64 (iz H),.bool sh,.slice ph lh ch,.slice qh kh dh])∧(XP 0 w' sg pg lg cg qg kg dg (Vz (max L 0)) (2^K) 1500∧XP 0 w' sh ph lh ch qh kh dh (Vz H) (2^K) 1500)∧Kp W w':=by
 have x:=fun(W':World) (y:Kp W W')=>pY (iz H) (Vz H) (2^K) 1500 (by decide) s2 p2 l2 c2 q2 k2 d2 W' ((a2.kp y).pl K hK H)
 have z:¬(jW (iz H) (Vz H)<=0):=by rw[(iT H hd.hi).2.1 hH];decide
 have u:=hd
 unfold VdZ at u
 have n:=fun(W:World) (h:RP 0 W s p l c q k d (fN (decide (L<0)) L.natAbs) (fM L.natAbs))=>h.pl K hK L
 by_cases B:L<0
 ·rw[show max L 0=0 by omega,(lW 0 (by omega)).1,(lW 0 (by omega)).2,dI]
  refine(A7.2 (iz L) (iz H) _ s p l c q k d s2 p2 l2 c2 q2 k2 d2 z W x (fun W' a m j c3 b i f y o=>?_)).mono ?_
  ·obtain⟨t,o⟩:=o
   refine kZ (iz L) 0 1 s p l c q k d a m j c3 b i f (by decide) W' (fun W2 y2=>?_)
   by_cases E:L = -9218868437227405312
   ·rw[E,Ah.1]
    exact mV 0 (-1) a m j c3 b i f s p l c q k d (by decide) (by decide) W2
   ·rw[(lW L (by omega)).1]
    refine yt 1 a m j c3 b i f s p l c q k d W2 (fun W3 y3=>?_)
    have r:=AX t 0 0 (Vz L) 1 (2^K) 1500 1500 (by decide) (by decide) a m j c3 b i f s p l c q k d W3 ((o.kp (y2.trans y3)).x01) (n W3 (a1.kp (y.trans (y2.trans y3))))
    rw[bV,show(Vz L*((1:Nat):Int))=Vz L from by omega,eK 0 (Vz L) (by rw[(lW L (by omega)).2];exact lE L B)]at r
    exact r
  ·rintro e w' ⟨a,m,j,c3,b,i,f,rfl,D,g⟩
   exact⟨a,m,j,c3,b,i,f,s2,p2,l2,c2,q2,k2,d2,rfl,⟨((D.mono (aW _)).x01).as 0 (2^K) 1500 (dL (ah K)) (by rw[bV,bV]) (ao _),(a2.kp g).pl K hK H⟩,g⟩
 ·rw[show max L 0=L by omega]
  refine(A7.1 (iz L) (iz H) _ s p l c q k d s2 p2 l2 c2 q2 k2 d2 z W x (fun W' a m j c3 b i f y o=>?_)).mono ?_
  ·obtain⟨t,o⟩:=o
   have A:=(lW L (by omega)).2
   have C:0<=Vz L:=by rw[A];exact gw L (by omega)
   refine k9 (iz L) 0 (eh 0 (Vz L)) s p l c q k d a m j c3 b i f (by have:=(AH 0 (Vz L)).2 C;omega) W' (fun W2 y2=>?_)
   rw[(lW L (by omega)).1]
   refine yt _ a m j c3 b i f s p l c q k d W2 (fun W3 y3=>?_)
   have r:=AX t 0 0 (Vz L) 1 (2^K) 1500 1500 (by decide) (by decide) a m j c3 b i f s p l c q k d W3 ((o.kp (y2.trans y3)).x01) (n W3 (a1.kp (y.trans (y2.trans y3))))
   rw[bV,show(Vz L*((1:Nat):Int))=Vz L from by omega]at r
   exact r
  ·rintro e w' ⟨rfl,g⟩
   exact⟨s,p,l,c,q,k,d,s2,p2,l2,c2,q2,k2,d2,rfl,⟨n w' (a1.kp g),(a2.kp g).pl K hK H⟩,g⟩

def Hq9 (w:World)(b:Nat)(v0 v1 v2 v3 v4 v5 v6 v7 v8 v9 v10 v11 v12:Value):Prop:=w.cell? ⟨b,0,none⟩=some v0∧w.cell? ⟨b,1,none⟩=some v1∧w.cell? ⟨b,2,none⟩=some v2∧w.cell? ⟨b,3,none⟩=some v3∧w.cell? ⟨b,4,none⟩=some v4∧w.cell? ⟨b,5,none⟩=some v5∧w.cell? ⟨b,6,none⟩=some v6∧w.cell? ⟨b,7,none⟩=some v7∧w.cell? ⟨b,8,none⟩=some v8∧w.cell? ⟨b,9,none⟩=some v9∧w.cell? ⟨b,10,none⟩=some v10∧w.cell? ⟨b,11,none⟩=some v11∧w.cell? ⟨b,12,none⟩=some v12∧w.frozen? ⟨b,0,none⟩=false∧w.frozen? ⟨b,1,none⟩=false∧w.frozen? ⟨b,2,none⟩=false∧w.frozen? ⟨b,3,none⟩=false∧w.frozen? ⟨b,4,none⟩=false∧w.frozen? ⟨b,5,none⟩=false∧w.frozen? ⟨b,6,none⟩=false∧w.frozen? ⟨b,7,none⟩=false∧w.frozen? ⟨b,8,none⟩=false∧w.frozen? ⟨b,9,none⟩=false∧w.frozen? ⟨b,10,none⟩=false∧w.frozen? ⟨b,11,none⟩=false∧w.frozen? ⟨b,12,none⟩=false∧BK w b #[v0,v1,v2,v3,v4,v5,v6,v7,v8,v9,v10,v11,v12] 61
theorem Hq9.bk {w:World}{b:Nat}{v0 v1 v2 v3 v4 v5 v6 v7 v8 v9 v10 v11 v12:Value}(h:Hq9 w b v0 v1 v2 v3 v4 v5 v6 v7 v8 v9 v10 v11 v12):BK w b #[v0,v1,v2,v3,v4,v5,v6,v7,v8,v9,v10,v11,v12] 61:=h.2.2.2.2.2.2.2.2.2.2.2.2.2.2.2.2.2.2.2.2.2.2.2.2.2.2
theorem Hq9.of {w:World}{b:Nat}{v0 v1 v2 v3 v4 v5 v6 v7 v8 v9 v10 v11 v12:Value}(h:BK w b #[v0,v1,v2,v3,v4,v5,v6,v7,v8,v9,v10,v11,v12] 61):Hq9 w b v0 v1 v2 v3 v4 v5 v6 v7 v8 v9 v10 v11 v12:=by
 obtain⟨k,s,z,n,x,m,B,q,o,r,l,A,D,C,j,u,y,p,E,t,a,i,f,c,g,d⟩:=h.c13
 exact⟨k,z,x,B,o,l,D,j,y,E,a,f,g,s,n,m,q,r,A,C,u,p,t,i,c,d,h⟩
theorem Hq9.keep {W w:World}{b:Nat}{v0 v1 v2 v3 v4 v5 v6 v7 v8 v9 v10 v11 v12:Value}(h:Hq9 W b v0 v1 v2 v3 v4 v5 v6 v7 v8 v9 v10 v11 v12)(g:Kp W w):Hq9 w b v0 v1 v2 v3 v4 v5 v6 v7 v8 v9 v10 v11 v12:=Hq9.of (h.bk.kp g)
theorem Hq9.new (w:World)(v0 v1 v2 v3 v4 v5 v6 v7 v8 v9 v10 v11 v12:Value)(t:TypeId)(ht:t=61:=by rfl):Hq9 (w.alloc (.cells #[v0,v1,v2,v3,v4,v5,v6,v7,v8,v9,v10,v11,v12] t)) w.heap.size v0 v1 v2 v3 v4 v5 v6 v7 v8 v9 v10 v11 v12:=by subst ht;exact Hq9.of (BK.new _ _ _)
theorem Hq9.newD (w:World)(v0 v1 v2 v3 v4 v5 v6 v7 v8 v9 v10 v11 v12:Value)(t:TypeId)(ht:t=61:=by rfl):Hq9 ((w.alloc (.cells #[v0,v1,v2,v3,v4,v5,v6,v7,v8,v9,v10,v11,v12] t)).drew) w.heap.size v0 v1 v2 v3 v4 v5 v6 v7 v8 v9 v10 v11 v12:=(Hq9.new w v0 v1 v2 v3 v4 v5 v6 v7 v8 v9 v10 v11 v12 t ht).keep ((Kp.refl _).drew)
theorem Hq9.put {w:World}{b:Nat}{v0 v1 v2 v3 v4 v5 v6 v7 v8 v9 v10 v11 v12:Value}(h:Hq9 w b v0 v1 v2 v3 v4 v5 v6 v7 v8 v9 v10 v11 v12)(u0 u1 u2 u3 u4 u5 u6 u7 u8 u9 u10 u11 u12:Value):Hq9 (((((((((((((w.setCell ⟨b,0,none⟩ u0).setCell ⟨b,1,none⟩ u1).setCell ⟨b,2,none⟩ u2).setCell ⟨b,3,none⟩ u3).setCell ⟨b,4,none⟩ u4).setCell ⟨b,5,none⟩ u5).setCell ⟨b,6,none⟩ u6).setCell ⟨b,7,none⟩ u7).setCell ⟨b,8,none⟩ u8).setCell ⟨b,9,none⟩ u9).setCell ⟨b,10,none⟩ u10).setCell ⟨b,11,none⟩ u11).setCell ⟨b,12,none⟩ u12) b u0 u1 u2 u3 u4 u5 u6 u7 u8 u9 u10 u11 u12:=by
 have a:=(((((((((((((h.bk.put 0 u0).put 1 u1).put 2 u2).put 3 u3).put 4 u4).put 5 u5).put 6 u6).put 7 u7).put 8 u8).put 9 u9).put 10 u10).put 11 u11).put 12 u12)
 simp only[ax,aO,aL]at a
 exact Hq9.of a
theorem XP.set13 {base:Nat}{w:World}{s:Bool}{p:Option Addr}{l c:Nat}{q:Option Addr}{k d:Nat}{V9:Int}{C9 N9:Nat}(h:XP base w s p l c q k d V9 C9 N9){b:Nat}{D:Array Value}(hb:BK w b D 61)(u0 u1 u2 u3 u4 u5 u6 u7 u8 u9 u10 u11 u12:Value):XP base (((((((((((((w.setCell ⟨b,0,none⟩ u0).setCell ⟨b,1,none⟩ u1).setCell ⟨b,2,none⟩ u2).setCell ⟨b,3,none⟩ u3).setCell ⟨b,4,none⟩ u4).setCell ⟨b,5,none⟩ u5).setCell ⟨b,6,none⟩ u6).setCell ⟨b,7,none⟩ u7).setCell ⟨b,8,none⟩ u8).setCell ⟨b,9,none⟩ u9).setCell ⟨b,10,none⟩ u10).setCell ⟨b,11,none⟩ u11).setCell ⟨b,12,none⟩ u12) s p l c q k d V9 C9 N9:=(((((((((((((h.setB hb (by decide) 0 u0).setB (hb.put 0 u0) (by decide) 1 u1).setB ((hb.put 0 u0).put 1 u1) (by decide) 2 u2).setB (((hb.put 0 u0).put 1 u1).put 2 u2) (by decide) 3 u3).setB ((((hb.put 0 u0).put 1 u1).put 2 u2).put 3 u3) (by decide) 4 u4).setB (((((hb.put 0 u0).put 1 u1).put 2 u2).put 3 u3).put 4 u4) (by decide) 5 u5).setB ((((((hb.put 0 u0).put 1 u1).put 2 u2).put 3 u3).put 4 u4).put 5 u5) (by decide) 6 u6).setB (((((((hb.put 0 u0).put 1 u1).put 2 u2).put 3 u3).put 4 u4).put 5 u5).put 6 u6) (by decide) 7 u7).setB ((((((((hb.put 0 u0).put 1 u1).put 2 u2).put 3 u3).put 4 u4).put 5 u5).put 6 u6).put 7 u7) (by decide) 8 u8).setB (((((((((hb.put 0 u0).put 1 u1).put 2 u2).put 3 u3).put 4 u4).put 5 u5).put 6 u6).put 7 u7).put 8 u8) (by decide) 9 u9).setB ((((((((((hb.put 0 u0).put 1 u1).put 2 u2).put 3 u3).put 4 u4).put 5 u5).put 6 u6).put 7 u7).put 8 u8).put 9 u9) (by decide) 10 u10).setB (((((((((((hb.put 0 u0).put 1 u1).put 2 u2).put 3 u3).put 4 u4).put 5 u5).put 6 u6).put 7 u7).put 8 u8).put 9 u9).put 10 u10) (by decide) 11 u11).setB ((((((((((((hb.put 0 u0).put 1 u1).put 2 u2).put 3 u3).put 4 u4).put 5 u5).put 6 u6).put 7 u7).put 8 u8).put 9 u9).put 10 u10).put 11 u11) (by decide) 12 u12)
end Go.Proofs.YtmpjcknaelgnoaaGreatDoor
