import Derived.Test.YtmpjcknaelgnoaaGreatDoorKZC
set_option maxHeartbeats 2000000
set_option maxRecDepth 20000
namespace Go.Proofs.YtmpjcknaelgnoaaGreatDoor
open Go.RowKit Tryz
set_option linter.all false
theorem ES (c1 c2 z1 z2 b1 b2:Nat)(w:World)(hie:∀W:World,Calls prog 87 #[.agg #[.float .f64 b1,.float .f64 b2]] W (RT (.bool true) W)):Calls prog 117 #[.agg #[.float .f64 c1,.float .f64 c2],.agg #[.float .f64 z1,.float .f64 z2],.agg #[.float .f64 b1,.float .f64 b2]] w (RT (.agg #[.float .f64 b1,.float .f64 b2]) w):=by
 go_enter func117,ntmps117
 go_upto_region 1 with fail
 obtain⟨W,a,h,f,g,c,i⟩:=Et w #[.float .f64 c1,.float .f64 c2] 29 #[.float .f64 z1,.float .f64 z2] 29 #[.float .f64 b1,.float .f64 b2] 29 #[.float .f64 0,.float .f64 0] 29
 rw[<-a];clear a
 obtain⟨y,o,A,l⟩:=c.c2;skip
 go_wp2_with (first|(go_at_call 87;refine(hie _).mono ?_;rintro e E ⟨rfl,b⟩;replace f:=f.kp b;replace g:=g.kp b;replace c:=c.kp b;replace i:=i.kp b;replace h:=Kp.trans h b;obtain⟨x,k,C,q⟩:=f.c2;obtain⟨B,p,D,m⟩:=g.c2;obtain⟨u,n,z,s⟩:=c.c2;obtain⟨j,r,d,t⟩:=i.c2;skip))
 exact BR (v:=.agg #[.float .f64 b1,.float .f64 b2]) ⟨rfl,((h.setCell (by (simp<;>omega)) _).setCell (by (simp<;>omega)) _)⟩ (by simp[results,results117,go_sem,j,d])
def AU (b1 b2:Nat):Prop:=∀W:World,Calls prog 87 #[.agg #[.float .f64 b1,.float .f64 b2]] W (RT (.bool false) W)
set_option maxHeartbeats 20000000 in
theorem md:(∀(c1 c2 z1 z2 b1 b2 R1 R2:Nat)(w:World)(hie:AU b1 b2)(t1:(FloatKind.f64.format.order c1 z2 == some Ordering.gt || FloatKind.f64.format.order c1 z2 == some Ordering.eq)=false)(t2:(FloatKind.f64.format.order c2 z1 == some Ordering.lt || FloatKind.f64.format.order c2 z1 == some Ordering.eq)=false)(hq1:KW w 157 #[.int .i64 (-1),.float .f64 c1,.float .f64 z2,.float .f64 b1] (.float .f64 R1))(hq2:KW w 157 #[.int .i64 1,.float .f64 c2,.float .f64 z1,.float .f64 b1] (.float .f64 R2)),Calls prog 117 #[.agg #[.float .f64 c1,.float .f64 c2],.agg #[.float .f64 z1,.float .f64 z2],.agg #[.float .f64 b1,.float .f64 b2]] w (RT (.agg #[.float .f64 R1,.float .f64 R2]) w))∧(∀(c1 c2 z1 z2 b1 b2 R1 R2:Nat)(w:World)(hie:AU b1 b2)(t1:(FloatKind.f64.format.order c1 z2 == some Ordering.gt || FloatKind.f64.format.order c1 z2 == some Ordering.eq)=false)(t2:(FloatKind.f64.format.order c2 z1 == some Ordering.lt || FloatKind.f64.format.order c2 z1 == some Ordering.eq)=true)(hq1:KW w 157 #[.int .i64 (-1),.float .f64 c1,.float .f64 z2,.float .f64 b1] (.float .f64 R1))(hq2:KW w 157 #[.int .i64 1,.float .f64 c2,.float .f64 z1,.float .f64 b2] (.float .f64 R2)),Calls prog 117 #[.agg #[.float .f64 c1,.float .f64 c2],.agg #[.float .f64 z1,.float .f64 z2],.agg #[.float .f64 b1,.float .f64 b2]] w (RT (.agg #[.float .f64 R1,.float .f64 R2]) w))∧(∀(c1 c2 z1 z2 b1 b2 R1 R2:Nat)(w:World)(hie:AU b1 b2)(t1:(FloatKind.f64.format.order c1 z2 == some Ordering.gt || FloatKind.f64.format.order c1 z2 == some Ordering.eq)=true)(t2:(FloatKind.f64.format.order c2 z1 == some Ordering.lt || FloatKind.f64.format.order c2 z1 == some Ordering.eq)=false)(hq1:KW w 157 #[.int .i64 (-1),.float .f64 c1,.float .f64 z2,.float .f64 b2] (.float .f64 R1))(hq2:KW w 157 #[.int .i64 1,.float .f64 c2,.float .f64 z1,.float .f64 b1] (.float .f64 R2)),Calls prog 117 #[.agg #[.float .f64 c1,.float .f64 c2],.agg #[.float .f64 z1,.float .f64 z2],.agg #[.float .f64 b1,.float .f64 b2]] w (RT (.agg #[.float .f64 R1,.float .f64 R2]) w))∧(∀(c1 c2 z1 z2 b1 b2 R1 R2:Nat)(w:World)(hie:AU b1 b2)(t1:(FloatKind.f64.format.order c1 z2 == some Ordering.gt || FloatKind.f64.format.order c1 z2 == some Ordering.eq)=true)(t2:(FloatKind.f64.format.order c2 z1 == some Ordering.lt || FloatKind.f64.format.order c2 z1 == some Ordering.eq)=true)(hq1:KW w 157 #[.int .i64 (-1),.float .f64 c1,.float .f64 z2,.float .f64 b2] (.float .f64 R1))(hq2:KW w 157 #[.int .i64 1,.float .f64 c2,.float .f64 z1,.float .f64 b2] (.float .f64 R2)),Calls prog 117 #[.agg #[.float .f64 c1,.float .f64 c2],.agg #[.float .f64 z1,.float .f64 z2],.agg #[.float .f64 b1,.float .f64 b2]] w (RT (.agg #[.float .f64 R1,.float .f64 R2]) w)):=by
 refine⟨?_,?_,?_,?_⟩
 case' refine_1=>intro c1 c2 z1 z2 b1 b2 R1 R2 w hie t1 t2 hq1 hq2;have bA:=trivial
 case' refine_2=>intro c1 c2 z1 z2 b1 b2 R1 R2 w hie t1 t2 hq1 hq2;have bq:=trivial
 case' refine_3=>intro c1 c2 z1 z2 b1 b2 R1 R2 w hie t1 t2 hq1 hq2;have bp:=trivial
 case' refine_4=>intro c1 c2 z1 z2 b1 b2 R1 R2 w hie t1 t2 hq1 hq2;have bv:=trivial
 all_goals (
  go_enter func117,ntmps117
  go_upto_region 1 with fail
  obtain⟨W,B,b,k,l,c,o⟩:=Et w #[.float .f64 c1,.float .f64 c2] 29 #[.float .f64 z1,.float .f64 z2] 29 #[.float .f64 b1,.float .f64 b2] 29 #[.float .f64 0,.float .f64 0] 29
  rw[<-B];clear B
  obtain⟨a2,z,Q,K⟩:=c.c2;skip
  go_upto_region 3 with(first|(go_at_call 87;refine(hie _).mono ?_;rintro e w1 ⟨rfl,p⟩;replace k:=k.kp p;replace l:=l.kp p;replace c:=c.kp p;replace o:=o.kp p;replace b:=Kp.trans b p;obtain⟨aj,J,au,O⟩:=k.c2;obtain⟨N,t,E,C⟩:=l.c2;obtain⟨H,L,M,A⟩:=c.c2;obtain⟨U,u,T,F⟩:=o.c2;skip))
  refine Fq.ej (by kernel_rfl) (by kernel_rfl) (fun ι _ G hG hall=>?_)
  have a5:∀n,(G n).cell? ⟨w.heap.size+2,0,none⟩=some (.float .f64 b1):=fun n=>Fq.ft (hG n) H
  have a3:∀n,(G n).cell? ⟨w.heap.size+2,1,none⟩=some (.float .f64 b2):=fun n=>Fq.ft (hG n) M
  repeat(go_big_quiet_step (first|fail))
  refine wpQuiet_nil ?_
  rintro _ ⟨nq,rfl⟩
  have q:Kp w1 (G nq):=hG nq
  clear a5 a3 hall hG
  replace k:=k.kp q;replace l:=l.kp q;replace c:=c.kp q;replace o:=o.kp q;replace b:=Kp.trans b q
  clear q aj J au O N t E C H L M A U u T F a2 z Q K p
  generalize G nq=W2 at k l c o b|-
  obtain⟨V,ba,a6,a9⟩:=k.c2;obtain⟨aA,bl,R,bc⟩:=l.c2;obtain⟨Y,bb,a0,bf⟩:=c.c2;skip
  go_upto_region 8 with fail
  have i:W2.cell? ⟨w.heap.size,0,none⟩=some (.float .f64 c1):=V
  have an:W2.drew.cell? ⟨w.heap.size,0,none⟩=some (.float .f64 c1):=i
  have f:W2.cell? ⟨w.heap.size,1,none⟩=some (.float .f64 c2):=a6
  have aa:W2.drew.cell? ⟨w.heap.size,1,none⟩=some (.float .f64 c2):=f
  have j:W2.cell? ⟨w.heap.size+1,0,none⟩=some (.float .f64 z1):=aA
  have S:W2.drew.cell? ⟨w.heap.size+1,0,none⟩=some (.float .f64 z1):=j
  have m:W2.cell? ⟨w.heap.size+1,1,none⟩=some (.float .f64 z2):=R
  have ar:W2.drew.cell? ⟨w.heap.size+1,1,none⟩=some (.float .f64 z2):=m
  have g:W2.cell? ⟨w.heap.size+2,0,none⟩=some (.float .f64 b1):=Y
  have a7:W2.drew.cell? ⟨w.heap.size+2,0,none⟩=some (.float .f64 b1):=g
  have h:W2.cell? ⟨w.heap.size+2,1,none⟩=some (.float .f64 b2):=a0
  have ab:W2.drew.cell? ⟨w.heap.size+2,1,none⟩=some (.float .f64 b2):=h
  go_region_held3 (fun w'=>w'.cell? ⟨w.heap.size,0,none⟩=some (.float .f64 c1)∧w'.cell? ⟨w.heap.size,1,none⟩=some (.float .f64 c2)∧w'.cell? ⟨w.heap.size+1,0,none⟩=some (.float .f64 z1)∧w'.cell? ⟨w.heap.size+1,1,none⟩=some (.float .f64 z2)∧w'.cell? ⟨w.heap.size+2,0,none⟩=some (.float .f64 b1)∧w'.cell? ⟨w.heap.size+2,1,none⟩=some (.float .f64 b2)) (first|(with_reducible exact⟨an,aa,S,ar,a7,ab⟩)|(with_reducible exact⟨P,a8,a1,a4,X,Z⟩)|(with_reducible exact⟨x,s,D,I,y,r⟩)|(exact⟨((CF _ _ _ _ (by simp<;>omega)).trans ((CF _ _ _ _ (by simp<;>omega)).trans x)),((CF _ _ _ _ (by simp<;>omega)).trans ((CF _ _ _ _ (by simp<;>omega)).trans s)),((CF _ _ _ _ (by simp<;>omega)).trans ((CF _ _ _ _ (by simp<;>omega)).trans D)),((CF _ _ _ _ (by simp<;>omega)).trans ((CF _ _ _ _ (by simp<;>omega)).trans I)),((CF _ _ _ _ (by simp<;>omega)).trans ((CF _ _ _ _ (by simp<;>omega)).trans y)),((CF _ _ _ _ (by simp<;>omega)).trans ((CF _ _ _ _ (by simp<;>omega)).trans r))⟩)) (first|(have z9:=a;clear z9;go_at_call 157;refine(hq2 _ (Kp.trans b a)).mono ?_;rintro e w6 ⟨rfl,g6⟩;have d:Kp W2 w6:=Kp.trans a g6;have aw:=o.kp d;obtain⟨q0,N,q1,E⟩:=aw.c2;skip;have x:=ac d i;have s:=ac d f;have D:=ac d j;have I:=ac d m;have y:=ac d g;have r:=ac d h)|(go_at_call 157;refine(hq1 _ (Kp.trans b (Kp.drew (Kp.refl _)))).mono ?_;rintro e w5 ⟨rfl,g5⟩;have a:Kp W2 w5:=Kp.trans (Kp.drew (Kp.refl _)) g5;have P:=ac a i;have a8:=ac a f;have a1:=ac a j;have a4:=ac a m;have X:=ac a g;have Z:=ac a h))
  go_wp2
  exact BR (v:=.agg #[.float .f64 R1,.float .f64 R2]) ⟨rfl,(((Kp.trans b d).setCell (by (simp<;>omega)) _).setCell (by (simp<;>omega)) _)⟩ (by simp[results,results117,go_sem,q0,q1]))
def AV :Prop:=∀W:World,Calls prog 89 #[] W (RT (.agg #[.float .f64 9218868437227405312,.float .f64 18442240474082181120]) W)
set_option maxHeartbeats 20000000 in
theorem jV:(∀(x1 x2:Nat)(w:World)(hE:AV )(t1:(FloatKind.f64.format.order x1 0 == some Ordering.lt)=false)(t2:(FloatKind.f64.format.order x2 0 == some Ordering.gt)=false),Calls prog 53 #[.agg #[.float .f64 x1,.float .f64 x2]] w (RT (.tuple #[.agg #[.float .f64 9218868437227405312,.float .f64 18442240474082181120],.agg #[.float .f64 9218868437227405312,.float .f64 18442240474082181120]]) w))∧(∀(x1 x2 A1:Nat)(w:World)(hE:AV )(t1:(FloatKind.f64.format.order x1 0 == some Ordering.lt)=false)(t2:(FloatKind.f64.format.order x2 0 == some Ordering.gt)=true)(hmax:∀(ts:Array TypeId)(t:TypeId)(w:World),(Builtin.max_ ts t #[.float .f64 x1,.float .f64 0]).run prog w=.ok (.float .f64 A1) w),Calls prog 53 #[.agg #[.float .f64 x1,.float .f64 x2]] w (RT (.tuple #[.agg #[.float .f64 9218868437227405312,.float .f64 18442240474082181120],.agg #[.float .f64 A1,.float .f64 x2]]) w))∧(∀(x1 x2 A2:Nat)(w:World)(hE:AV )(t1:(FloatKind.f64.format.order x1 0 == some Ordering.lt)=true)(t2:(FloatKind.f64.format.order x2 0 == some Ordering.gt)=false)(hmin:∀(ts:Array TypeId)(t:TypeId)(w:World),(Builtin.min_ ts t #[.float .f64 x2,.float .f64 0]).run prog w=.ok (.float .f64 A2) w),Calls prog 53 #[.agg #[.float .f64 x1,.float .f64 x2]] w (RT (.tuple #[.agg #[.float .f64 x1,.float .f64 A2],.agg #[.float .f64 9218868437227405312,.float .f64 18442240474082181120]]) w))∧(∀(x1 x2 A2 A1:Nat)(w:World)(hE:AV )(t1:(FloatKind.f64.format.order x1 0 == some Ordering.lt)=true)(t2:(FloatKind.f64.format.order x2 0 == some Ordering.gt)=true)(hmin:∀(ts:Array TypeId)(t:TypeId)(w:World),(Builtin.min_ ts t #[.float .f64 x2,.float .f64 0]).run prog w=.ok (.float .f64 A2) w)(hmax:∀(ts:Array TypeId)(t:TypeId)(w:World),(Builtin.max_ ts t #[.float .f64 x1,.float .f64 0]).run prog w=.ok (.float .f64 A1) w),Calls prog 53 #[.agg #[.float .f64 x1,.float .f64 x2]] w (RT (.tuple #[.agg #[.float .f64 x1,.float .f64 A2],.agg #[.float .f64 A1,.float .f64 x2]]) w)):=by
 refine⟨?_,?_,?_,?_⟩
 case' refine_1=>intro x1 x2 w hE t1 t2;have E:=trivial
 case' refine_2=>intro x1 x2 A1 w hE t1 t2 hmax;have A:=trivial
 case' refine_3=>intro x1 x2 A2 w hE t1 t2 hmin;have z:=trivial
 case' refine_4=>intro x1 x2 A2 A1 w hE t1 t2 hmin hmax;have C:=trivial
 all_goals (
  go_enter func53,ntmps53
  go_upto_region 1 with fail
  obtain⟨W,a,V,X,R,T⟩:=Ek w #[.float .f64 x1,.float .f64 x2] 29 #[.float .f64 0,.float .f64 0] 29 #[.float .f64 0,.float .f64 0] 29
  rw[<-a];clear a
  obtain⟨M,u,I,s⟩:=R.c2;obtain⟨J,x,N,y⟩:=T.c2;skip
  go_upto_region 2 with(first|(have Y:=H;clear Y;go_at_call 89;refine(hE _).mono ?_;rintro e Z ⟨rfl,P⟩;have O:=(X.kp H).kp P;have D:=(R.kp H).kp P;have B:=(T.kp H).kp P;obtain⟨M,u,I,s⟩:=D.c2;obtain⟨J,x,N,y⟩:=B.c2;skip)|(go_at_call 89;refine(hE _).mono ?_;rintro e w1 ⟨rfl,H⟩))
  obtain⟨r,a⟩:=aA ((((Z.setCell ⟨w.heap.size+1,0,none⟩ (.float .f64 9218868437227405312)).setCell ⟨w.heap.size+1,1,none⟩ (.float .f64 18442240474082181120)).setCell ⟨w.heap.size+2,0,none⟩ (.float .f64 9218868437227405312)).setCell ⟨w.heap.size+2,1,none⟩ (.float .f64 18442240474082181120))
  have U:BK r w.heap.size #[.float .f64 x1,.float .f64 x2] 29:=by subst a;exact((((((((O).far ⟨w.heap.size+1,0,none⟩ (.float .f64 9218868437227405312) (by simp<;>omega))).far ⟨w.heap.size+1,1,none⟩ (.float .f64 18442240474082181120) (by simp<;>omega))).far ⟨w.heap.size+2,0,none⟩ (.float .f64 9218868437227405312) (by simp<;>omega))).far ⟨w.heap.size+2,1,none⟩ (.float .f64 18442240474082181120) (by simp<;>omega))
  have G:BK r (w.heap.size+1) #[.float .f64 9218868437227405312,.float .f64 18442240474082181120] 29:=by subst a;exact((((((((D).put 0 (.float .f64 9218868437227405312))).put 1 (.float .f64 18442240474082181120))).far ⟨w.heap.size+2,0,none⟩ (.float .f64 9218868437227405312) (by simp<;>omega))).far ⟨w.heap.size+2,1,none⟩ (.float .f64 18442240474082181120) (by simp<;>omega))
  have F:BK r (w.heap.size+2) #[.float .f64 9218868437227405312,.float .f64 18442240474082181120] 29:=by subst a;exact((((((((B).far ⟨w.heap.size+1,0,none⟩ (.float .f64 9218868437227405312) (by simp<;>omega))).far ⟨w.heap.size+1,1,none⟩ (.float .f64 18442240474082181120) (by simp<;>omega))).put 0 (.float .f64 9218868437227405312))).put 1 (.float .f64 18442240474082181120))
  have n:Kp w r:=by subst a;exact(((((((((Kp.trans (Kp.trans V H) P)).setCell (p:=⟨w.heap.size+1,0,none⟩) (by simp<;>omega) (.float .f64 9218868437227405312))).setCell (p:=⟨w.heap.size+1,1,none⟩) (by simp<;>omega) (.float .f64 18442240474082181120))).setCell (p:=⟨w.heap.size+2,0,none⟩) (by simp<;>omega) (.float .f64 9218868437227405312))).setCell (p:=⟨w.heap.size+2,1,none⟩) (by simp<;>omega) (.float .f64 18442240474082181120))
  clear O D B X R T V H P M u I s J x N y
  rw[<-a];clear a
  obtain⟨S,K,Q,L⟩:=U.c2;obtain⟨k,d,l,g⟩:=G.c2;obtain⟨j,f,i,c⟩:=F.c2;skip
  go_upto_region 6 with fail
  first
  |(
    have b:=E;clear b
    have o:BK r (w.heap.size+1) #[.float .f64 9218868437227405312,.float .f64 18442240474082181120] 29:=G
    have q:BK r (w.heap.size+2) #[.float .f64 9218868437227405312,.float .f64 18442240474082181120] 29:=F
    have h:Kp w r:=n)
  |(
    have b:=A;clear b
    obtain⟨m,a⟩:=aA ((r.setCell ⟨w.heap.size+2,0,none⟩ (.float .f64 A1)).setCell ⟨w.heap.size+2,1,none⟩ (.float .f64 x2))
    have o:BK m (w.heap.size+1) #[.float .f64 9218868437227405312,.float .f64 18442240474082181120] 29:=by subst a;exact((((G).far ⟨w.heap.size+2,0,none⟩ (.float .f64 A1) (by simp<;>omega))).far ⟨w.heap.size+2,1,none⟩ (.float .f64 x2) (by simp<;>omega))
    have q:BK m (w.heap.size+2) #[.float .f64 A1,.float .f64 x2] 29:=by subst a;exact((((F).put 0 (.float .f64 A1))).put 1 (.float .f64 x2))
    have h:Kp w m:=by subst a;exact((((n).setCell (p:=⟨w.heap.size+2,0,none⟩) (by simp<;>omega) (.float .f64 A1))).setCell (p:=⟨w.heap.size+2,1,none⟩) (by simp<;>omega) (.float .f64 x2)))
  |(
    have b:=z;clear b
    obtain⟨m,a⟩:=aA ((r.setCell ⟨w.heap.size+1,0,none⟩ (.float .f64 x1)).setCell ⟨w.heap.size+1,1,none⟩ (.float .f64 A2))
    have o:BK m (w.heap.size+1) #[.float .f64 x1,.float .f64 A2] 29:=by subst a;exact((((G).put 0 (.float .f64 x1))).put 1 (.float .f64 A2))
    have q:BK m (w.heap.size+2) #[.float .f64 9218868437227405312,.float .f64 18442240474082181120] 29:=by subst a;exact((((F).far ⟨w.heap.size+1,0,none⟩ (.float .f64 x1) (by simp<;>omega))).far ⟨w.heap.size+1,1,none⟩ (.float .f64 A2) (by simp<;>omega))
    have h:Kp w m:=by subst a;exact((((n).setCell (p:=⟨w.heap.size+1,0,none⟩) (by simp<;>omega) (.float .f64 x1))).setCell (p:=⟨w.heap.size+1,1,none⟩) (by simp<;>omega) (.float .f64 A2)))
  |(
    have b:=C;clear b
    obtain⟨m,a⟩:=aA ((((r.setCell ⟨w.heap.size+1,0,none⟩ (.float .f64 x1)).setCell ⟨w.heap.size+1,1,none⟩ (.float .f64 A2)).setCell ⟨w.heap.size+2,0,none⟩ (.float .f64 A1)).setCell ⟨w.heap.size+2,1,none⟩ (.float .f64 x2))
    have o:BK m (w.heap.size+1) #[.float .f64 x1,.float .f64 A2] 29:=by subst a;exact((((((((G).put 0 (.float .f64 x1))).put 1 (.float .f64 A2))).far ⟨w.heap.size+2,0,none⟩ (.float .f64 A1) (by simp<;>omega))).far ⟨w.heap.size+2,1,none⟩ (.float .f64 x2) (by simp<;>omega))
    have q:BK m (w.heap.size+2) #[.float .f64 A1,.float .f64 x2] 29:=by subst a;exact((((((((F).far ⟨w.heap.size+1,0,none⟩ (.float .f64 x1) (by simp<;>omega))).far ⟨w.heap.size+1,1,none⟩ (.float .f64 A2) (by simp<;>omega))).put 0 (.float .f64 A1))).put 1 (.float .f64 x2))
    have h:Kp w m:=by subst a;exact((((((((n).setCell (p:=⟨w.heap.size+1,0,none⟩) (by simp<;>omega) (.float .f64 x1))).setCell (p:=⟨w.heap.size+1,1,none⟩) (by simp<;>omega) (.float .f64 A2))).setCell (p:=⟨w.heap.size+2,0,none⟩) (by simp<;>omega) (.float .f64 A1))).setCell (p:=⟨w.heap.size+2,1,none⟩) (by simp<;>omega) (.float .f64 x2)))
  clear S K Q L k d l g j f i c U G F n
  first
  |(have b:=E;clear b;generalize r=m at o q h|-)
  |((first|(have b:=A;clear b)|(have b:=z;clear b)|(have b:=C;clear b));rw[<-a];clear a)
  obtain⟨k,d,l,g⟩:=o.c2;obtain⟨j,f,i,c⟩:=q.c2;skip
  go_region
  all_goals (
   go_wp2
   first
   |(have b:=E;clear b;exact BR (v:=.tuple #[.agg #[.float .f64 9218868437227405312,.float .f64 18442240474082181120],.agg #[.float .f64 9218868437227405312,.float .f64 18442240474082181120]]) ⟨rfl,by exact(((((((((Kp.trans h (Kp.drew (Kp.refl _)))).setCell (p:=⟨w.heap.size+1,0,none⟩) (by simp<;>omega) (.float .f64 9218868437227405312))).setCell (p:=⟨w.heap.size+1,1,none⟩) (by simp<;>omega) (.float .f64 18442240474082181120))).setCell (p:=⟨w.heap.size+2,0,none⟩) (by simp<;>omega) (.float .f64 9218868437227405312))).setCell (p:=⟨w.heap.size+2,1,none⟩) (by simp<;>omega) (.float .f64 18442240474082181120))⟩ (by simp[results,results53,go_sem,k,l,j,i,d,g,f,c]))
   |(have b:=A;clear b;exact BR (v:=.tuple #[.agg #[.float .f64 9218868437227405312,.float .f64 18442240474082181120],.agg #[.float .f64 A1,.float .f64 x2]]) ⟨rfl,by exact(((((((((Kp.trans h (Kp.drew (Kp.refl _)))).setCell (p:=⟨w.heap.size+1,0,none⟩) (by simp<;>omega) (.float .f64 9218868437227405312))).setCell (p:=⟨w.heap.size+1,1,none⟩) (by simp<;>omega) (.float .f64 18442240474082181120))).setCell (p:=⟨w.heap.size+2,0,none⟩) (by simp<;>omega) (.float .f64 A1))).setCell (p:=⟨w.heap.size+2,1,none⟩) (by simp<;>omega) (.float .f64 x2))⟩ (by simp[results,results53,go_sem,k,l,j,i,d,g,f,c]))
   |(have b:=z;clear b;exact BR (v:=.tuple #[.agg #[.float .f64 x1,.float .f64 A2],.agg #[.float .f64 9218868437227405312,.float .f64 18442240474082181120]]) ⟨rfl,by exact(((((((((Kp.trans h (Kp.drew (Kp.refl _)))).setCell (p:=⟨w.heap.size+1,0,none⟩) (by simp<;>omega) (.float .f64 x1))).setCell (p:=⟨w.heap.size+1,1,none⟩) (by simp<;>omega) (.float .f64 A2))).setCell (p:=⟨w.heap.size+2,0,none⟩) (by simp<;>omega) (.float .f64 9218868437227405312))).setCell (p:=⟨w.heap.size+2,1,none⟩) (by simp<;>omega) (.float .f64 18442240474082181120))⟩ (by simp[results,results53,go_sem,k,l,j,i,d,g,f,c]))
   |(have b:=C;clear b;exact BR (v:=.tuple #[.agg #[.float .f64 x1,.float .f64 A2],.agg #[.float .f64 A1,.float .f64 x2]]) ⟨rfl,by exact(((((((((Kp.trans h (Kp.drew (Kp.refl _)))).setCell (p:=⟨w.heap.size+1,0,none⟩) (by simp<;>omega) (.float .f64 x1))).setCell (p:=⟨w.heap.size+1,1,none⟩) (by simp<;>omega) (.float .f64 A2))).setCell (p:=⟨w.heap.size+2,0,none⟩) (by simp<;>omega) (.float .f64 A1))).setCell (p:=⟨w.heap.size+2,1,none⟩) (by simp<;>omega) (.float .f64 x2))⟩ (by simp[results,results53,go_sem,k,l,j,i,d,g,f,c]))))
end Go.Proofs.YtmpjcknaelgnoaaGreatDoor
