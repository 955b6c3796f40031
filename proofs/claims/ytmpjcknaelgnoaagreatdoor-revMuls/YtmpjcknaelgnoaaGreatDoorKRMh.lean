import Derived.Test.YtmpjcknaelgnoaaGreatDoorKRMe
set_option maxHeartbeats 4000000
set_option maxRecDepth 20000
namespace Go.Proofs.YtmpjcknaelgnoaaGreatDoor
open Go.RowKit Tryz
set_option linter.all false
theorem BT (i j:Int) s p l c q k d s2 p2 l2 c2 q2 k2 d2 (w:World):Calls prog 59 #[.agg #[.bool true,.int .i64 i,.bool s,.slice p l c,.slice q k d,.int .i64 j,.bool s2,.slice p2 l2 c2,.slice q2 k2 d2]] w (RT (.bool false) w):=by
 go_enter func59,ntmps59
 go_upto_region 1 with fail
 obtain⟨W,a,A,D⟩:=Eu w #[.bool true,.int .i64 i,.bool s,.slice p l c,.slice q k d,.int .i64 j,.bool s2,.slice p2 l2 c2,.slice q2 k2 d2] 66
 rw[<-a];clear a
 obtain⟨u,m,z,r,G,f,E,n,B,h,y,b,C,t,F,o,x,g⟩:=D.c9;skip
 go_wp2
 exact BR ⟨rfl,A⟩
theorem BS (i j S1:Int) s p l c q k d s2 p2 l2 c2 q2 k2 d2 (w:World)(hs1:KW w 90 #[.agg #[.int .i64 i,.bool s,.slice p l c,.slice q k d]] (.int .i64 S1))(t1:¬S1<=0):Calls prog 59 #[.agg #[.bool false,.int .i64 i,.bool s,.slice p l c,.slice q k d,.int .i64 j,.bool s2,.slice p2 l2 c2,.slice q2 k2 d2]] w (RT (.bool false) w):=by
 go_enter func59,ntmps59
 go_upto_region 1 with fail
 obtain⟨W,a,C,H⟩:=Eu w #[.bool false,.int .i64 i,.bool s,.slice p l c,.slice q k d,.int .i64 j,.bool s2,.slice p2 l2 c2,.slice q2 k2 d2] 66
 rw[<-a];clear a
 obtain⟨J,t,V,F,ab,z,aa,D,Y,o,U,f,Z,G,T,E,M,g⟩:=H.c9;skip
 go_wp2_with (first|(go_at_call_of 90 (Value.agg #[.int .i64 i,.bool s,.slice p l c,.slice q k d]);refine(hs1 _ C).mono ?_;rintro e w1 ⟨rfl,h⟩;have b:=H.kp h;obtain⟨L,x,O,m,P,I,X,A,S,B,N,r,Q,u,R,n,K,y⟩:=b.c9;skip))
 exact BR ⟨rfl,(Kp.trans C h)⟩
theorem BU (i j S1 S2:Int) s p l c q k d s2 p2 l2 c2 q2 k2 d2 (v9:Bool)(w:World)(hs1:KW w 90 #[.agg #[.int .i64 i,.bool s,.slice p l c,.slice q k d]] (.int .i64 S1))(t1:S1<=0)(hs2:KW w 90 #[.agg #[.int .i64 j,.bool s2,.slice p2 l2 c2,.slice q2 k2 d2]] (.int .i64 S2))(t2:v9=decide (0<=S2)):Calls prog 59 #[.agg #[.bool false,.int .i64 i,.bool s,.slice p l c,.slice q k d,.int .i64 j,.bool s2,.slice p2 l2 c2,.slice q2 k2 d2]] w (RT (.bool v9) w):=by
 subst t2
 go_enter func59,ntmps59
 go_upto_region 1 with fail
 obtain⟨W,a,g,H⟩:=Eu w #[.bool false,.int .i64 i,.bool s,.slice p l c,.slice q k d,.int .i64 j,.bool s2,.slice p2 l2 c2,.slice q2 k2 d2] 66
 rw[<-a];clear a
 obtain⟨J,u,X,F,aj,A,ad,D,Z,r,V,h,aa,G,U,E,M,m⟩:=H.c9;skip
 go_wp2_with (first|(have z9:=b;clear z9;go_at_call_of 90 (Value.agg #[.int .i64 j,.bool s2,.slice p2 l2 c2,.slice q2 k2 d2]);refine(hs2 _ (Kp.trans g b)).mono ?_;rintro e w2 ⟨rfl,T⟩)|(go_at_call_of 90 (Value.agg #[.int .i64 i,.bool s,.slice p l c,.slice q k d]);refine(hs1 _ g).mono ?_;rintro e w1 ⟨rfl,b⟩;have f:=H.kp b;obtain⟨L,y,O,n,P,I,Y,B,S,C,N,t,Q,x,R,o,K,z⟩:=f.c9;skip))
 exact BR ⟨rfl,(Kp.trans (Kp.trans g b) T)⟩
def Iz (em:Bool)(i V:Int)(C:Nat)(j V2:Int)(C2 N:Nat)(W:World)(v:Value):Prop:=(em=true∧rk true v)∨(em=false∧∃(s:Bool)(p:Option Addr)(l c:Nat)(q:Option Addr)(k d:Nat)(s2:Bool)(p2:Option Addr)(l2 c2:Nat)(q2:Option Addr)(k2 d2:Nat),v=.agg #[.bool false,.int .i64 i,.bool s,.slice p l c,.slice q k d,.int .i64 j,.bool s2,.slice p2 l2 c2,.slice q2 k2 d2]∧XP 0 W s p l c q k d V C N∧XP 0 W s2 p2 l2 c2 q2 k2 d2 V2 C2 N)
theorem vH (em:Bool)(i V:Int)(C:Nat)(j V2:Int)(C2 N:Nat)(hN:N<=100000)(w:World)(v:Value)(h:Iz em i V C j V2 C2 N w v):Calls prog 59 #[v] w (RT (.bool (!em && (decide (jW i V<=0) && decide (0<=jW j V2)))) w):=by
 rcases h with⟨rfl,i9,j9,s,p,l,c,q,k,d,s2,p2,l2,c2,q2,k2,d2,rfl⟩|⟨rfl,s,p,l,c,q,k,d,s2,p2,l2,c2,q2,k2,d2,rfl,h1,h2⟩
 ·exact BT i9 j9 s p l c q k d s2 p2 l2 c2 q2 k2 d2 w
 ·have a:=fun(W:World) (g:Kp w W)=>pY i V C N hN s p l c q k d W (h1.kp g)
  have f:=fun(W:World) (g:Kp w W)=>pY j V2 C2 N hN s2 p2 l2 c2 q2 k2 d2 W (h2.kp g)
  by_cases b:jW i V<=0
  ·rw[af b]
   exact BU i j _ _ s p l c q k d s2 p2 l2 c2 q2 k2 d2 _ w a b f rfl
  ·rw[ae b]
   exact BS i j _ s p l c q k d s2 p2 l2 c2 q2 k2 d2 w a b
theorem yq (i1 i2 j1 j2:Int)(sa:Bool)(pa:Option Addr)(la ca:Nat)(qa:Option Addr)(ka da:Nat)(sb:Bool)(pb:Option Addr)(lb cb:Nat)(qb:Option Addr)(kb db:Nat)(se:Bool)(pe:Option Addr)(le ce:Nat)(qe:Option Addr)(ke de:Nat)(sf:Bool)(pf:Option Addr)(lf cf:Nat)(qf:Option Addr)(kf df:Nat)(b9:Bool)(w:World):Calls prog 50 #[.agg #[.bool true,.int .i64 i1,.bool sa,.slice pa la ca,.slice qa ka da,.int .i64 i2,.bool sb,.slice pb lb cb,.slice qb kb db],.agg #[.bool b9,.int .i64 j1,.bool se,.slice pe le ce,.slice qe ke de,.int .i64 j2,.bool sf,.slice pf lf cf,.slice qf kf df]] w (RT (.slice none 0 0) w):=by
 go_enter func50,ntmps50
 go_upto_region 1 with fail
 obtain⟨W,a,K,O,H⟩:=Gz w #[.bool true,.int .i64 i1,.bool sa,.slice pa la ca,.slice qa ka da,.int .i64 i2,.bool sb,.slice pb lb cb,.slice qb kb db] 66 #[.bool b9,.int .i64 j1,.bool se,.slice pe le ce,.slice qe ke de,.int .i64 j2,.bool sf,.slice pf lf cf,.slice qf kf df] 66
 rw[<-a];clear a
 obtain⟨u,i,J,r,Q,m,P,p,M,g,I,b,N,s,G,q,z,c⟩:=O.c9;obtain⟨y,k,B,d,C,t,L,n,F,o,A,h,D,j,E,f,x,l⟩:=H.c9;skip
 go_wp2
 exact BR ⟨rfl,K⟩
theorem DR (i1 i2 j1 j2:Int)(sa:Bool)(pa:Option Addr)(la ca:Nat)(qa:Option Addr)(ka da:Nat)(sb:Bool)(pb:Option Addr)(lb cb:Nat)(qb:Option Addr)(kb db:Nat)(se:Bool)(pe:Option Addr)(le ce:Nat)(qe:Option Addr)(ke de:Nat)(sf:Bool)(pf:Option Addr)(lf cf:Nat)(qf:Option Addr)(kf df:Nat)(w:World):Calls prog 50 #[.agg #[.bool false,.int .i64 i1,.bool sa,.slice pa la ca,.slice qa ka da,.int .i64 i2,.bool sb,.slice pb lb cb,.slice qb kb db],.agg #[.bool true,.int .i64 j1,.bool se,.slice pe le ce,.slice qe ke de,.int .i64 j2,.bool sf,.slice pf lf cf,.slice qf kf df]] w (RT (.slice none 0 0) w):=by
 go_enter func50,ntmps50
 go_upto_region 1 with fail
 obtain⟨W,a,K,O,H⟩:=Gz w #[.bool false,.int .i64 i1,.bool sa,.slice pa la ca,.slice qa ka da,.int .i64 i2,.bool sb,.slice pb lb cb,.slice qb kb db] 66 #[.bool true,.int .i64 j1,.bool se,.slice pe le ce,.slice qe ke de,.int .i64 j2,.bool sf,.slice pf lf cf,.slice qf kf df] 66
 rw[<-a];clear a
 obtain⟨u,i,J,r,Q,m,P,p,M,g,I,b,N,s,G,q,z,c⟩:=O.c9;obtain⟨y,k,B,d,C,t,L,n,F,o,A,h,D,j,E,f,x,l⟩:=H.c9;skip
 go_wp2
 exact BR ⟨rfl,K⟩
theorem FN (i1 i2 j1 j2:Int)(sa:Bool)(pa:Option Addr)(la ca:Nat)(qa:Option Addr)(ka da:Nat)(sb:Bool)(pb:Option Addr)(lb cb:Nat)(qb:Option Addr)(kb db:Nat)(se:Bool)(pe:Option Addr)(le ce:Nat)(qe:Option Addr)(ke de:Nat)(sf:Bool)(pf:Option Addr)(lf cf:Nat)(qf:Option Addr)(kf df:Nat)(P:Pc9)(PA:World->Value->Prop)(w:World)(hz1:KW w 59 #[.agg #[.bool false,.int .i64 i1,.bool sa,.slice pa la ca,.slice qa ka da,.int .i64 i2,.bool sb,.slice pb lb cb,.slice qb kb db]] (.bool true))(hz2:KW w 59 #[.agg #[.bool false,.int .i64 j1,.bool se,.slice pe le ce,.slice qe ke de,.int .i64 j2,.bool sf,.slice pf lf cf,.slice qf kf df]] (.bool true))(hal:∀W:World,Calls prog 108 #[] W fun e w'=>∃v,e=.returned v∧PA w' v∧Kp W w')(hpi:∀(W:World)(v:Value),Kp w W->PA W v->Calls prog 45 #[v] W fun e w'=>∃(n9 oa ob:Bool)(ia ib:Int)(s5:Bool)(p5:Option Addr)(l5 c5:Nat)(q5:Option Addr)(k5 d5:Nat)(s6:Bool)(p6:Option Addr)(l6 c6:Nat)(q6:Option Addr)(k6 d6:Nat),e=.returned (.agg #[.bool n9,.int .i64 ia,.bool s5,.slice p5 l5 c5,.slice q5 k5 d5,.int .i64 1,.bool oa,.int .i64 ib,.bool s6,.slice p6 l6 c6,.slice q6 k6 d6,.int .i64 1,.bool ob])∧PX9 P w' (.agg #[.bool n9,.int .i64 ia,.bool s5,.slice p5 l5 c5,.slice q5 k5 d5,.int .i64 1,.bool oa,.int .i64 ib,.bool s6,.slice p6 l6 c6,.slice q6 k6 d6,.int .i64 1,.bool ob])∧Kp W w'):Calls prog 50 #[.agg #[.bool false,.int .i64 i1,.bool sa,.slice pa la ca,.slice qa ka da,.int .i64 i2,.bool sb,.slice pb lb cb,.slice qb kb db],.agg #[.bool false,.int .i64 j1,.bool se,.slice pe le ce,.slice qe ke de,.int .i64 j2,.bool sf,.slice pf lf cf,.slice qf kf df]] w fun e w'=>∃(g:Nat)(n9 oa ob:Bool)(ia ib:Int)(s5:Bool)(p5:Option Addr)(l5 c5:Nat)(q5:Option Addr)(k5 d5:Nat)(s6:Bool)(p6:Option Addr)(l6 c6:Nat)(q6:Option Addr)(k6 d6:Nat),e=.returned (.slice (some ⟨g,0,none⟩) 1 1)∧BK w' g #[.bool n9,.int .i64 ia,.bool s5,.slice p5 l5 c5,.slice q5 k5 d5,.int .i64 1,.bool oa,.int .i64 ib,.bool s6,.slice p6 l6 c6,.slice q6 k6 d6,.int .i64 1,.bool ob] 61∧PX9 P w' (.agg #[.bool n9,.int .i64 ia,.bool s5,.slice p5 l5 c5,.slice q5 k5 d5,.int .i64 1,.bool oa,.int .i64 ib,.bool s6,.slice p6 l6 c6,.slice q6 k6 d6,.int .i64 1,.bool ob])∧Kp w w':=by
 go_enter func50,ntmps50
 go_upto_region 1 with fail
 obtain⟨W,c,h,N,F⟩:=Gz w #[.bool false,.int .i64 i1,.bool sa,.slice pa la ca,.slice qa ka da,.int .i64 i2,.bool sb,.slice pb lb cb,.slice qb kb db] 66 #[.bool false,.int .i64 j1,.bool se,.slice pe le ce,.slice qe ke de,.int .i64 j2,.bool sf,.slice pf lf cf,.slice qf kf df] 66
 rw[<-c];clear c
 obtain⟨bb,ab,bH,a3,cd,ar,b9,a2,cH,t,bE,m,b0,a4,cv,L,bf,o⟩:=N.c9;obtain⟨cj,C,cn,Y,cp,a9,cE,au,cr,aA,ck,x,bp,z,bq,r,ch,G⟩:=F.c9;skip
 go_wp2_with (first|(have l:=i;clear l;go_at_call 45;refine(hpi _ _ (Kp.trans (Kp.trans (Kp.trans h a) f) i) p3).mono ?_;rintro e w4 ⟨n9,oa,ob,ia,ib,s5,p5,l5,c5,q5,k5,d5,s6,p6,l6,c6,q6,k6,d6,rfl,p4,g4⟩)|(go_at_call 108;refine(hal _).mono ?_;rintro e w3 ⟨v3,rfl,p3,i⟩)|(have l:=a;clear l;go_at_call_of 59 (Value.agg #[.bool false,.int .i64 j1,.bool se,.slice pe le ce,.slice qe ke de,.int .i64 j2,.bool sf,.slice pf lf cf,.slice qf kf df]);refine(hz2 _ (Kp.trans h a)).mono ?_;rintro e w2 ⟨rfl,f⟩;have k:=b.kp f;have j:=d.kp f;obtain⟨b1,a6,bA,D,cl,a7,bv,I,br,aw,cV,y,cc,B,b4,T,cz,J⟩:=k.c9;obtain⟨bu,q,bB,Q,cg,p,ct,aa,cN,U,cy,R,cU,O,bR,ba,cY,u⟩:=j.c9;skip)|(go_at_call_of 59 (Value.agg #[.bool false,.int .i64 i1,.bool sa,.slice pa la ca,.slice qa ka da,.int .i64 i2,.bool sb,.slice pb lb cb,.slice qb kb db]);refine(hz1 _ h).mono ?_;rintro e w1 ⟨rfl,a⟩;have b:=F.kp a;have d:=N.kp a;obtain⟨cs,n,cu,E,co,V,bl,s,b2,M,cL,K,cD,Z,bn,S,ci,A⟩:=b.c9;obtain⟨b3,a1,cR,aj,cq,a0,bm,a5,bx,ad,bt,an,bX,a8,bc,H,bo,X⟩:=d.c9;skip))
 exact BR ⟨w4.heap.size,n9,oa,ob,ia,ib,s5,p5,l5,c5,q5,k5,d5,s6,p6,l6,c6,q6,k6,d6,rfl,BK.new _ _ _,p4.kp ((Kp.refl _).alloc _),(Kp.trans (Kp.trans (Kp.trans (Kp.trans h a) f) i) g4).alloc _⟩
def Hz (i1 i2 j1 j2:Int) (sa:Bool) (pa:Option Addr) (la ca:Nat) (qa:Option Addr) (ka da:Nat) (sb:Bool) (pb:Option Addr) (lb cb:Nat) (qb:Option Addr) (kb db:Nat) (se:Bool) (pe:Option Addr) (le ce:Nat) (qe:Option Addr) (ke de:Nat) (sf:Bool) (pf:Option Addr) (lf cf:Nat) (qf:Option Addr) (kf df:Nat) (P:Pc9) (w:World):Prop:=∀W:World,Kp w W->Calls prog 91 #[.agg #[.bool false,.int .i64 i1,.bool sa,.slice pa la ca,.slice qa ka da,.int .i64 i2,.bool sb,.slice pb lb cb,.slice qb kb db],.agg #[.bool false,.int .i64 j1,.bool se,.slice pe le ce,.slice qe ke de,.int .i64 j2,.bool sf,.slice pf lf cf,.slice qf kf df]] W fun e w'=>∃(n9 oa ob:Bool)(ia ib:Int)(s5:Bool)(p5:Option Addr)(l5 c5:Nat)(q5:Option Addr)(k5 d5:Nat)(s6:Bool)(p6:Option Addr)(l6 c6:Nat)(q6:Option Addr)(k6 d6:Nat),e=.returned (.agg #[.bool n9,.int .i64 ia,.bool s5,.slice p5 l5 c5,.slice q5 k5 d5,.int .i64 1,.bool oa,.int .i64 ib,.bool s6,.slice p6 l6 c6,.slice q6 k6 d6,.int .i64 1,.bool ob])∧PX9 P w' (.agg #[.bool n9,.int .i64 ia,.bool s5,.slice p5 l5 c5,.slice q5 k5 d5,.int .i64 1,.bool oa,.int .i64 ib,.bool s6,.slice p6 l6 c6,.slice q6 k6 d6,.int .i64 1,.bool ob])∧Kp W w'
def Hy (i1 i2:Int) (sa:Bool) (pa:Option Addr) (la ca:Nat) (qa:Option Addr) (ka da:Nat) (sb:Bool) (pb:Option Addr) (lb cb:Nat) (qb:Option Addr) (kb db:Nat) (Q0:Pc9) (PM:World->Value->Prop) (w:World):Prop:=∀(W:World)(v:Value),Kp w W->PM W v->Calls prog 91 #[.agg #[.bool false,.int .i64 i1,.bool sa,.slice pa la ca,.slice qa ka da,.int .i64 i2,.bool sb,.slice pb lb cb,.slice qb kb db],v] W fun e w'=>∃(h9 oc od:Bool)(ic id:Int)(sg:Bool)(pg:Option Addr)(lg cg:Nat)(qg:Option Addr)(kg dg:Nat)(sh:Bool)(ph:Option Addr)(lh ch:Nat)(qh:Option Addr)(kh dh:Nat),e=.returned (.agg #[.bool h9,.int .i64 ic,.bool sg,.slice pg lg cg,.slice qg kg dg,.int .i64 1,.bool oc,.int .i64 id,.bool sh,.slice ph lh ch,.slice qh kh dh,.int .i64 1,.bool od])∧PX9 Q0 w' (.agg #[.bool h9,.int .i64 ic,.bool sg,.slice pg lg cg,.slice qg kg dg,.int .i64 1,.bool oc,.int .i64 id,.bool sh,.slice ph lh ch,.slice qh kh dh,.int .i64 1,.bool od])∧Kp W w'
def Hx (Q Q0:Pc9) (w:World):Prop:=∀(W:World)(h9 oc od:Bool)(ic id:Int)(sg:Bool)(pg:Option Addr)(lg cg:Nat)(qg:Option Addr)(kg dg:Nat)(sh:Bool)(ph:Option Addr)(lh ch:Nat)(qh:Option Addr)(kh dh:Nat),Kp w W->PX9 Q0 W (.agg #[.bool h9,.int .i64 ic,.bool sg,.slice pg lg cg,.slice qg kg dg,.int .i64 1,.bool oc,.int .i64 id,.bool sh,.slice ph lh ch,.slice qh kh dh,.int .i64 1,.bool od])->Calls prog 56 #[.agg #[.bool h9,.int .i64 ic,.bool sg,.slice pg lg cg,.slice qg kg dg,.int .i64 1,.bool oc,.int .i64 id,.bool sh,.slice ph lh ch,.slice qh kh dh,.int .i64 1,.bool od]] W fun e w'=>∃(m9 ua ub:Bool)(ja jb:Int)(s7:Bool)(p7:Option Addr)(l7 c7:Nat)(q7:Option Addr)(k7 d7:Nat)(s8:Bool)(p8:Option Addr)(l8 c8:Nat)(q8:Option Addr)(k8 d8:Nat),e=.returned (.agg #[.bool m9,.int .i64 ja,.bool s7,.slice p7 l7 c7,.slice q7 k7 d7,.int .i64 1,.bool ua,.int .i64 jb,.bool s8,.slice p8 l8 c8,.slice q8 k8 d8,.int .i64 1,.bool ub])∧PX9 Q w' (.agg #[.bool m9,.int .i64 ja,.bool s7,.slice p7 l7 c7,.slice q7 k7 d7,.int .i64 1,.bool ua,.int .i64 jb,.bool s8,.slice p8 l8 c8,.slice q8 k8 d8,.int .i64 1,.bool ub])∧Kp W w'
set_option maxHeartbeats 20000000 in
theorem t6:(∀(i1 i2 j1 j2:Int)(sa:Bool)(pa:Option Addr)(la ca:Nat)(qa:Option Addr)(ka da:Nat)(sb:Bool)(pb:Option Addr)(lb cb:Nat)(qb:Option Addr)(kb db:Nat)(se:Bool)(pe:Option Addr)(le ce:Nat)(qe:Option Addr)(ke de:Nat)(sf:Bool)(pf:Option Addr)(lf cf:Nat)(qf:Option Addr)(kf df:Nat)(P Q Q0:Pc9)(PM:World->Value->Prop)(w:World)(hz1:KW w 59 #[.agg #[.bool false,.int .i64 i1,.bool sa,.slice pa la ca,.slice qa ka da,.int .i64 i2,.bool sb,.slice pb lb cb,.slice qb kb db]] (.bool false))(hq1:Hz i1 i2 j1 j2 sa pa la ca qa ka da sb pb lb cb qb kb db se pe le ce qe ke de sf pf lf cf qf kf df P w)(hmi:∀W:World,Kp w W->Calls prog 48 #[.agg #[.bool false,.int .i64 j1,.bool se,.slice pe le ce,.slice qe ke de,.int .i64 j2,.bool sf,.slice pf lf cf,.slice qf kf df]] W fun e w'=>∃v,e=.returned v∧PM w' v∧Kp W w')(hq2:Hy i1 i2 sa pa la ca qa ka da sb pb lb cb qb kb db Q0 PM w)(hmn:Hx Q Q0 w),Calls prog 50 #[.agg #[.bool false,.int .i64 i1,.bool sa,.slice pa la ca,.slice qa ka da,.int .i64 i2,.bool sb,.slice pb lb cb,.slice qb kb db],.agg #[.bool false,.int .i64 j1,.bool se,.slice pe le ce,.slice qe ke de,.int .i64 j2,.bool sf,.slice pf lf cf,.slice qf kf df]] w fun e w'=>∃(g:Nat)(n9 oa ob:Bool)(ia ib:Int)(s5:Bool)(p5:Option Addr)(l5 c5:Nat)(q5:Option Addr)(k5 d5:Nat)(s6:Bool)(p6:Option Addr)(l6 c6:Nat)(q6:Option Addr)(k6 d6:Nat)(m9 ua ub:Bool)(ja jb:Int)(s7:Bool)(p7:Option Addr)(l7 c7:Nat)(q7:Option Addr)(k7 d7:Nat)(s8:Bool)(p8:Option Addr)(l8 c8:Nat)(q8:Option Addr)(k8 d8:Nat),e=.returned (.slice (some ⟨g,0,none⟩) 2 2)∧BK w' g #[.bool n9,.int .i64 ia,.bool s5,.slice p5 l5 c5,.slice q5 k5 d5,.int .i64 1,.bool oa,.int .i64 ib,.bool s6,.slice p6 l6 c6,.slice q6 k6 d6,.int .i64 1,.bool ob,.bool m9,.int .i64 ja,.bool s7,.slice p7 l7 c7,.slice q7 k7 d7,.int .i64 1,.bool ua,.int .i64 jb,.bool s8,.slice p8 l8 c8,.slice q8 k8 d8,.int .i64 1,.bool ub] 61∧PX9 P w' (.agg #[.bool n9,.int .i64 ia,.bool s5,.slice p5 l5 c5,.slice q5 k5 d5,.int .i64 1,.bool oa,.int .i64 ib,.bool s6,.slice p6 l6 c6,.slice q6 k6 d6,.int .i64 1,.bool ob])∧PX9 Q w' (.agg #[.bool m9,.int .i64 ja,.bool s7,.slice p7 l7 c7,.slice q7 k7 d7,.int .i64 1,.bool ua,.int .i64 jb,.bool s8,.slice p8 l8 c8,.slice q8 k8 d8,.int .i64 1,.bool ub])∧Kp w w')∧(∀(i1 i2 j1 j2:Int)(sa:Bool)(pa:Option Addr)(la ca:Nat)(qa:Option Addr)(ka da:Nat)(sb:Bool)(pb:Option Addr)(lb cb:Nat)(qb:Option Addr)(kb db:Nat)(se:Bool)(pe:Option Addr)(le ce:Nat)(qe:Option Addr)(ke de:Nat)(sf:Bool)(pf:Option Addr)(lf cf:Nat)(qf:Option Addr)(kf df:Nat)(P Q Q0:Pc9)(PM:World->Value->Prop)(w:World)(hz1:KW w 59 #[.agg #[.bool false,.int .i64 i1,.bool sa,.slice pa la ca,.slice qa ka da,.int .i64 i2,.bool sb,.slice pb lb cb,.slice qb kb db]] (.bool true))(hz2:KW w 59 #[.agg #[.bool false,.int .i64 j1,.bool se,.slice pe le ce,.slice qe ke de,.int .i64 j2,.bool sf,.slice pf lf cf,.slice qf kf df]] (.bool false))(hq1:Hz i1 i2 j1 j2 sa pa la ca qa ka da sb pb lb cb qb kb db se pe le ce qe ke de sf pf lf cf qf kf df P w)(hmi:∀W:World,Kp w W->Calls prog 48 #[.agg #[.bool false,.int .i64 j1,.bool se,.slice pe le ce,.slice qe ke de,.int .i64 j2,.bool sf,.slice pf lf cf,.slice qf kf df]] W fun e w'=>∃v,e=.returned v∧PM w' v∧Kp W w')(hq2:Hy i1 i2 sa pa la ca qa ka da sb pb lb cb qb kb db Q0 PM w)(hmn:Hx Q Q0 w),Calls prog 50 #[.agg #[.bool false,.int .i64 i1,.bool sa,.slice pa la ca,.slice qa ka da,.int .i64 i2,.bool sb,.slice pb lb cb,.slice qb kb db],.agg #[.bool false,.int .i64 j1,.bool se,.slice pe le ce,.slice qe ke de,.int .i64 j2,.bool sf,.slice pf lf cf,.slice qf kf df]] w fun e w'=>∃(g:Nat)(n9 oa ob:Bool)(ia ib:Int)(s5:Bool)(p5:Option Addr)(l5 c5:Nat)(q5:Option Addr)(k5 d5:Nat)(s6:Bool)(p6:Option Addr)(l6 c6:Nat)(q6:Option Addr)(k6 d6:Nat)(m9 ua ub:Bool)(ja jb:Int)(s7:Bool)(p7:Option Addr)(l7 c7:Nat)(q7:Option Addr)(k7 d7:Nat)(s8:Bool)(p8:Option Addr)(l8 c8:Nat)(q8:Option Addr)(k8 d8:Nat),e=.returned (.slice (some ⟨g,0,none⟩) 2 2)∧BK w' g #[.bool n9,.int .i64 ia,.bool s5,.slice p5 l5 c5,.slice q5 k5 d5,.int .i64 1,.bool oa,.int .i64 ib,.bool s6,.slice p6 l6 c6,.slice q6 k6 d6,.int .i64 1,.bool ob,.bool m9,.int .i64 ja,.bool s7,.slice p7 l7 c7,.slice q7 k7 d7,.int .i64 1,.bool ua,.int .i64 jb,.bool s8,.slice p8 l8 c8,.slice q8 k8 d8,.int .i64 1,.bool ub] 61∧PX9 P w' (.agg #[.bool n9,.int .i64 ia,.bool s5,.slice p5 l5 c5,.slice q5 k5 d5,.int .i64 1,.bool oa,.int .i64 ib,.bool s6,.slice p6 l6 c6,.slice q6 k6 d6,.int .i64 1,.bool ob])∧PX9 Q w' (.agg #[.bool m9,.int .i64 ja,.bool s7,.slice p7 l7 c7,.slice q7 k7 d7,.int .i64 1,.bool ua,.int .i64 jb,.bool s8,.slice p8 l8 c8,.slice q8 k8 d8,.int .i64 1,.bool ub])∧Kp w w'):=by
 refine⟨?_,?_⟩
 case' refine_1=>intro i1 i2 j1 j2 sa pa la ca qa ka da sb pb lb cb qb kb db se pe le ce qe ke de sf pf lf cf qf kf df P Q Q0 PM w hz1 hq1 hmi hq2 hmn;have dR:=trivial
 case' refine_2=>intro i1 i2 j1 j2 sa pa la ca qa ka da sb pb lb cb qb kb db se pe le ce qe ke de sf pf lf cf qf kf df P Q Q0 PM w hz1 hz2 hq1 hmi hq2 hmn;have eq:=trivial
 all_goals (
  go_enter func50,ntmps50
  go_upto_region 1 with fail
  obtain⟨W,b5,kw,hS,hT⟩:=Gz w #[.bool false,.int .i64 i1,.bool sa,.slice pa la ca,.slice qa ka da,.int .i64 i2,.bool sb,.slice pb lb cb,.slice qb kb db] 66 #[.bool false,.int .i64 j1,.bool se,.slice pe le ce,.slice qe ke de,.int .i64 j2,.bool sf,.slice pf lf cf,.slice qf kf df] 66
  rw[<-b5];clear b5
  obtain⟨gx,f4,hw,gh,hl,fv,hy,gf,hJ,f8,hU,f7,hx,f6,hG,gs,hb,fP⟩:=hS.c9;obtain⟨hB,fo,hn,fr,hE,fL,hI,fz,ha,fE,h0,fm,gy,fn,hu,fU,hX,ga⟩:=hT.c9;skip
  first
  |(
    have z0:=dR;clear z0
    go_upto_region 5 with(first|(go_at_call_of 59 (Value.agg #[.bool false,.int .i64 i1,.bool sa,.slice pa la ca,.slice qa ka da,.int .i64 i2,.bool sb,.slice pb lb cb,.slice qb kb db]);refine(hz1 _ kw).mono ?_;rintro e w1 ⟨rfl,F⟩;have D:=hT.kp F;have E:=hS.kp F;obtain⟨cL,bn,e9,a3,cH,b2,d2,br,ek,T,ez,S,d0,aa,eN,b1,e1,L⟩:=D.c9;obtain⟨cy,au,eA,N,dN,bf,cp,cl,eb,b3,eP,b9,dp,bm,d1,O,d4,ba⟩:=E.c9;skip))
    have G:Kp w w1:=(Kp.trans kw F)
    have b:=E
    have a:=D
    generalize w1=V at G b a|-)
  |(
    have z0:=eq;clear z0
    go_upto_region 5 with(first|(have H:=F;clear H;go_at_call_of 59 (Value.agg #[.bool false,.int .i64 j1,.bool se,.slice pe le ce,.slice qe ke de,.int .i64 j2,.bool sf,.slice pf lf cf,.slice qf kf df]);refine(hz2 _ (Kp.trans kw F)).mono ?_;rintro e w2 ⟨rfl,g2⟩;have cj:=D.kp g2;have bH:=E.kp g2;obtain⟨hg,gk,hc,f9,hC,gl,g3,f2,gz,f5,hs,fY,hk,f1,hh,gb,hq,gr⟩:=cj.c9;obtain⟨g0,fT,hd,gu,hW,gn,hF,fs,hK,gd,hp,gv,hL,fq,hV,f3,ht,gq⟩:=bH.c9;skip)|(go_at_call_of 59 (Value.agg #[.bool false,.int .i64 i1,.bool sa,.slice pa la ca,.slice qa ka da,.int .i64 i2,.bool sb,.slice pb lb cb,.slice qb kb db]);refine(hz1 _ kw).mono ?_;rintro e w1 ⟨rfl,F⟩;have D:=hT.kp F;have E:=hS.kp F;obtain⟨cL,bn,e9,a3,cH,b2,d2,br,ek,T,ez,S,d0,aa,eN,b1,e1,L⟩:=D.c9;obtain⟨cy,au,eA,N,dN,bf,cp,cl,eb,b3,eP,b9,dp,bm,d1,O,d4,ba⟩:=E.c9;skip))
    have G:Kp w w2:=(Kp.trans (Kp.trans kw F) g2)
    have b:=bH
    have a:=cj
    generalize w2=V at G b a|-)
  have r:V.cell? ⟨w.heap.size,0,none⟩=some (.bool false):=(b.cell 0).trans rfl
  have c0:V.drew.cell? ⟨w.heap.size,0,none⟩=some (.bool false):=r
  have B:V.cell? ⟨w.heap.size,1,none⟩=some (.int .i64 i1):=(b.cell 1).trans rfl
  have cU:V.drew.cell? ⟨w.heap.size,1,none⟩=some (.int .i64 i1):=B
  have x:V.cell? ⟨w.heap.size,2,none⟩=some (.bool sa):=(b.cell 2).trans rfl
  have dm:V.drew.cell? ⟨w.heap.size,2,none⟩=some (.bool sa):=x
  have t:V.cell? ⟨w.heap.size,3,none⟩=some (.slice pa la ca):=(b.cell 3).trans rfl
  have fb:V.drew.cell? ⟨w.heap.size,3,none⟩=some (.slice pa la ca):=t
  have C:V.cell? ⟨w.heap.size,4,none⟩=some (.slice qa ka da):=(b.cell 4).trans rfl
  have fa:V.drew.cell? ⟨w.heap.size,4,none⟩=some (.slice qa ka da):=C
  have z:V.cell? ⟨w.heap.size,5,none⟩=some (.int .i64 i2):=(b.cell 5).trans rfl
  have ct:V.drew.cell? ⟨w.heap.size,5,none⟩=some (.int .i64 i2):=z
  have A:V.cell? ⟨w.heap.size,6,none⟩=some (.bool sb):=(b.cell 6).trans rfl
  have cD:V.drew.cell? ⟨w.heap.size,6,none⟩=some (.bool sb):=A
  have s:V.cell? ⟨w.heap.size,7,none⟩=some (.slice pb lb cb):=(b.cell 7).trans rfl
  have co:V.drew.cell? ⟨w.heap.size,7,none⟩=some (.slice pb lb cb):=s
  have u:V.cell? ⟨w.heap.size,8,none⟩=some (.slice qb kb db):=(b.cell 8).trans rfl
  have dt:V.drew.cell? ⟨w.heap.size,8,none⟩=some (.slice qb kb db):=u
  have y:V.cell? ⟨w.heap.size+1,0,none⟩=some (.bool false):=(a.cell 0).trans rfl
  have cr:V.drew.cell? ⟨w.heap.size+1,0,none⟩=some (.bool false):=y
  have o:V.cell? ⟨w.heap.size+1,1,none⟩=some (.int .i64 j1):=(a.cell 1).trans rfl
  have ar:V.drew.cell? ⟨w.heap.size+1,1,none⟩=some (.int .i64 j1):=o
  have h:V.cell? ⟨w.heap.size+1,2,none⟩=some (.bool se):=(a.cell 2).trans rfl
  have a8:V.drew.cell? ⟨w.heap.size+1,2,none⟩=some (.bool se):=h
  have m:V.cell? ⟨w.heap.size+1,3,none⟩=some (.slice pe le ce):=(a.cell 3).trans rfl
  have R:V.drew.cell? ⟨w.heap.size+1,3,none⟩=some (.slice pe le ce):=m
  have k:V.cell? ⟨w.heap.size+1,4,none⟩=some (.slice qe ke de):=(a.cell 4).trans rfl
  have bu:V.drew.cell? ⟨w.heap.size+1,4,none⟩=some (.slice qe ke de):=k
  have n:V.cell? ⟨w.heap.size+1,5,none⟩=some (.int .i64 j2):=(a.cell 5).trans rfl
  have bv:V.drew.cell? ⟨w.heap.size+1,5,none⟩=some (.int .i64 j2):=n
  have j:V.cell? ⟨w.heap.size+1,6,none⟩=some (.bool sf):=(a.cell 6).trans rfl
  have bE:V.drew.cell? ⟨w.heap.size+1,6,none⟩=some (.bool sf):=j
  have i:V.cell? ⟨w.heap.size+1,7,none⟩=some (.slice pf lf cf):=(a.cell 7).trans rfl
  have a1:V.drew.cell? ⟨w.heap.size+1,7,none⟩=some (.slice pf lf cf):=i
  have l:V.cell? ⟨w.heap.size+1,8,none⟩=some (.slice qf kf df):=(a.cell 8).trans rfl
  have an:V.drew.cell? ⟨w.heap.size+1,8,none⟩=some (.slice qf kf df):=l
  go_region_held3 (fun w'=>w'.cell? ⟨w.heap.size,0,none⟩=some (.bool false)∧w'.cell? ⟨w.heap.size,1,none⟩=some (.int .i64 i1)∧w'.cell? ⟨w.heap.size,2,none⟩=some (.bool sa)∧w'.cell? ⟨w.heap.size,3,none⟩=some (.slice pa la ca)∧w'.cell? ⟨w.heap.size,4,none⟩=some (.slice qa ka da)∧w'.cell? ⟨w.heap.size,5,none⟩=some (.int .i64 i2)∧w'.cell? ⟨w.heap.size,6,none⟩=some (.bool sb)∧w'.cell? ⟨w.heap.size,7,none⟩=some (.slice pb lb cb)∧w'.cell? ⟨w.heap.size,8,none⟩=some (.slice qb kb db)∧w'.cell? ⟨w.heap.size+1,0,none⟩=some (.bool false)∧w'.cell? ⟨w.heap.size+1,1,none⟩=some (.int .i64 j1)∧w'.cell? ⟨w.heap.size+1,2,none⟩=some (.bool se)∧w'.cell? ⟨w.heap.size+1,3,none⟩=some (.slice pe le ce)∧w'.cell? ⟨w.heap.size+1,4,none⟩=some (.slice qe ke de)∧w'.cell? ⟨w.heap.size+1,5,none⟩=some (.int .i64 j2)∧w'.cell? ⟨w.heap.size+1,6,none⟩=some (.bool sf)∧w'.cell? ⟨w.heap.size+1,7,none⟩=some (.slice pf lf cf)∧w'.cell? ⟨w.heap.size+1,8,none⟩=some (.slice qf kf df)) (first|(with_reducible exact⟨c0,cU,dm,fb,fa,ct,cD,co,dt,cr,ar,a8,R,bu,bv,bE,a1,an⟩)|(with_reducible exact⟨pC,nW,ev,e7,eD,cE,e8,d9,e3,dd,X,K,cc,U,b4,I,bx,a6⟩)|(with_reducible exact⟨eY,dc,d3,cs,e4,ea,ew,eV,ey,ff,bo,M,a5,bL,bq,bl,bX,a7⟩)|(with_reducible exact⟨em,cV,cu,e6,ec,cz,en,cq,et,dV,Z,cn,a0,aw,cm,ad,bb,ab⟩)|(with_reducible exact⟨dr,c1,ep,cY,eU,ef,dq,eL,fh,dx,b0,a9,Y,bc,ck,bA,bp,J⟩)|(with_reducible exact⟨e5,es,cR,ds,fe,eX,cx,dn,cv,dk,aA,a2,bB,cd,bt,a4,aj,bR⟩)) (first|(have H:=f;clear H;go_at_call 56;refine(hmn _ h9 oc od ic id sg pg lg cg qg kg dg sh ph lh ch qh kh dh (Kp.trans G f) y3).mono ?_;rintro e wD ⟨m9,ua,ub,ja,jb,s7,p7,l7,c7,q7,k7,d7,s8,p8,l8,c8,q8,k8,d8,rfl,y4,gD⟩;have p:Kp V wD:=Kp.trans f gD;have dr:=ac p r;have c1:=ac p B;have ep:=ac p x;have cY:=ac p t;have eU:=ac p C;have ef:=ac p z;have dq:=ac p A;have eL:=ac p s;have fh:=ac p u;have dx:=ac p y;have b0:=ac p o;have a9:=ac p h;have Y:=ac p m;have bc:=ac p k;have ck:=ac p n;have bA:=ac p j;have bp:=ac p i;have J:=ac p l;have q:Kp V (wD.alloc (.cells #[.bool n9,.int .i64 ia,.bool s5,.slice p5 l5 c5,.slice q5 k5 d5,.int .i64 1,.bool oa,.int .i64 ib,.bool s6,.slice p6 l6 c6,.slice q6 k6 d6,.int .i64 1,.bool ob,.bool m9,.int .i64 ja,.bool s7,.slice p7 l7 c7,.slice q7 k7 d7,.int .i64 1,.bool ua,.int .i64 jb,.bool s8,.slice p8 l8 c8,.slice q8 k8 d8,.int .i64 1,.bool ub] 61)):=p.alloc _;have e5:=ac q r;have es:=ac q B;have cR:=ac q x;have ds:=ac q t;have fe:=ac q C;have eX:=ac q z;have cx:=ac q A;have dn:=ac q s;have cv:=ac q u;have dk:=ac q y;have aA:=ac q o;have a2:=ac q h;have bB:=ac q m;have cd:=ac q k;have bt:=ac q n;have a4:=ac q j;have aj:=ac q i;have bR:=ac q l)|(have H:=c;clear H;go_at_call 91;refine(hq2 _ _ (Kp.trans G c) y2).mono ?_;rintro e wC ⟨h9,oc,od,ic,id,sg,pg,lg,cg,qg,kg,dg,sh,ph,lh,ch,qh,kh,dh,rfl,y3,gC⟩;have f:Kp V wC:=Kp.trans c gC;have em:=ac f r;have cV:=ac f B;have cu:=ac f x;have e6:=ac f t;have ec:=ac f C;have cz:=ac f z;have en:=ac f A;have cq:=ac f s;have et:=ac f u;have dV:=ac f y;have Z:=ac f o;have cn:=ac f h;have a0:=ac f m;have aw:=ac f k;have cm:=ac f n;have ad:=ac f j;have bb:=ac f i;have ab:=ac f l)|(have H:=d;clear H;go_at_call 48;refine(hmi _ (Kp.trans G d)).mono ?_;rintro e wB ⟨v5,rfl,y2,gB⟩;have c:Kp V wB:=Kp.trans d gB;have eY:=ac c r;have dc:=ac c B;have d3:=ac c x;have cs:=ac c t;have e4:=ac c C;have ea:=ac c z;have ew:=ac c A;have eV:=ac c s;have ey:=ac c u;have ff:=ac c y;have bo:=ac c o;have M:=ac c h;have a5:=ac c m;have bL:=ac c k;have bq:=ac c n;have bl:=ac c j;have bX:=ac c i;have a7:=ac c l)|(go_at_call 91;refine(hq1 _ (Kp.trans G (Kp.drew (Kp.refl _)))).mono ?_;rintro e wA ⟨n9,oa,ob,ia,ib,s5,p5,l5,c5,q5,k5,d5,s6,p6,l6,c6,q6,k6,d6,rfl,y1,gA⟩;have d:Kp V wA:=Kp.trans (Kp.drew (Kp.refl _)) gA;have pC:=ac d r;have nW:=ac d B;have ev:=ac d x;have e7:=ac d t;have eD:=ac d C;have cE:=ac d z;have e8:=ac d A;have d9:=ac d s;have e3:=ac d u;have dd:=ac d y;have X:=ac d o;have K:=ac d h;have cc:=ac d m;have U:=ac d k;have b4:=ac d n;have I:=ac d j;have bx:=ac d i;have a6:=ac d l))
  go_wp2
  exact BR ⟨wD.heap.size,n9,oa,ob,ia,ib,s5,p5,l5,c5,q5,k5,d5,s6,p6,l6,c6,q6,k6,d6,m9,ua,ub,ja,jb,s7,p7,l7,c7,q7,k7,d7,s8,p8,l8,c8,q8,k8,d8,rfl,BK.new _ _ _,(((y1.kp gB).kp gC).kp gD).kp ((Kp.refl _).alloc _),y4.kp ((Kp.refl _).alloc _),(Kp.trans G q)⟩)
end Go.Proofs.YtmpjcknaelgnoaaGreatDoor
