import Derived.Test.YtmpjcknaelgnoaaGreatDoorKRMk
set_option maxHeartbeats 4000000
set_option maxRecDepth 20000
namespace Go.Proofs.YtmpjcknaelgnoaaGreatDoor
open Go.RowKit Tryz
set_option linter.all false
theorem Da (w:World):Calls prog 101 #[] w fun e w'=>∃(s5:Bool)(p5:Option Addr)(l5 c5:Nat)(q5:Option Addr)(k5 d5:Nat)(s6:Bool)(p6:Option Addr)(l6 c6:Nat)(q6:Option Addr)(k6 d6:Nat),e=.returned (.agg #[.bool true,.int .i64 0,.bool s5,.slice p5 l5 c5,.slice q5 k5 d5,.int .i64 1,.bool false,.int .i64 0,.bool s6,.slice p6 l6 c6,.slice q6 k6 d6,.int .i64 1,.bool false])∧XP 0 w' s5 p5 l5 c5 q5 k5 d5 0 1 100000∧XP 0 w' s6 p6 l6 c6 q6 k6 d6 0 1 100000∧Kp w w':=by
 go_enter func101,ntmps101
 go_upto_region 1 with fail
 obtain⟨W,g,U,k⟩:=Eu w #[.bool false,.int .i64 0,.bool false,.slice none 0 0,.slice none 0 0,.int .i64 0,.bool false,.int .i64 0,.bool false,.slice none 0 0,.slice none 0 0,.int .i64 0,.bool false] 61
 rw[<-g];clear g
 obtain⟨q0,an,q1,ab,q2,P,q3,T,q4,Y,q5,aa,q6,ad,q7,R,q8,O,q9,S,aj,G,Q,D,au,F⟩:=k.c13;skip
 go_wp2_with (first|(have z9:=y;clear z9;go_at_call 61;refine(og false _).mono ?_;rintro e V ⟨s6,p6,l6,c6,q6,k6,d6,rfl,X,A⟩;have x:Kp W V:=Kp.trans y A;have a:=k.kp x;obtain⟨N,j,M,u,C,p,J,o,E,n,B,l,K,q,z,s,H,t,I,r,i,c,b,d,h,f⟩:=a.c13;skip)|(go_at_call 61;refine(og false _).mono ?_;rintro e Z ⟨s5,p5,l5,c5,q5,k5,d5,rfl,v1,L⟩;have m:=k.kp L;have y:Kp W Z:=L;obtain⟨N,j,M,u,C,p,J,o,E,n,B,l,K,q,z,s,H,t,I,r,i,c,b,d,h,f⟩:=m.c13;skip))
 exact BR (v:=.agg #[.bool true,.int .i64 0,.bool s5,.slice p5 l5 c5,.slice q5 k5 d5,.int .i64 1,.bool false,.int .i64 0,.bool s6,.slice p6 l6 c6,.slice q6 k6 d6,.int .i64 1,.bool false]) ⟨s5,p5,l5,c5,q5,k5,d5,s6,p6,l6,c6,q6,k6,d6,rfl,((v1.x0.kp A).s13 a (by decide)),(X.x0.s13 a (by decide)),sM ((Kp.trans U x)) (by first|omega|(simp<;>omega))⟩ (by simp[results,results101,go_sem,N,M,C,J,E,B,K,z,H,I,i,b,h])
def Gr (b9 m9:Bool) (j1 j2 m1 m2:Int) (se:Bool) (pe:Option Addr) (le ce:Nat) (qe:Option Addr) (ke de:Nat) (sf:Bool) (pf:Option Addr) (lf cf:Nat) (qf:Option Addr) (kf df:Nat) (w:World):Prop:=∀W:World,Kp w W->Calls prog 113 #[.agg #[.bool b9,.int .i64 j1,.bool se,.slice pe le ce,.slice qe ke de,.int .i64 j2,.bool sf,.slice pf lf cf,.slice qf kf df]] W fun e w'=>∃(sg:Bool)(pg:Option Addr)(lg cg:Nat)(qg:Option Addr)(kg dg:Nat)(sh:Bool)(ph:Option Addr)(lh ch:Nat)(qh:Option Addr)(kh dh:Nat),e=.returned (.agg #[.bool m9,.int .i64 m1,.bool sg,.slice pg lg cg,.slice qg kg dg,.int .i64 m2,.bool sh,.slice ph lh ch,.slice qh kh dh])∧Kp W w'
set_option maxHeartbeats 20000000 in
theorem jf:(∀(b9 m9:Bool)(i1 i2 j1 j2 m1 m2:Int)(sa:Bool)(pa:Option Addr)(la ca:Nat)(qa:Option Addr)(ka da:Nat)(sb:Bool)(pb:Option Addr)(lb cb:Nat)(qb:Option Addr)(kb db:Nat)(se:Bool)(pe:Option Addr)(le ce:Nat)(qe:Option Addr)(ke de:Nat)(sf:Bool)(pf:Option Addr)(lf cf:Nat)(qf:Option Addr)(kf df:Nat)(w:World)(hup:Gr b9 m9 j1 j2 m1 m2 se pe le ce qe ke de sf pf lf cf qf kf df w),Calls prog 91 #[.agg #[.bool true,.int .i64 i1,.bool sa,.slice pa la ca,.slice qa ka da,.int .i64 i2,.bool sb,.slice pb lb cb,.slice qb kb db],.agg #[.bool b9,.int .i64 j1,.bool se,.slice pe le ce,.slice qe ke de,.int .i64 j2,.bool sf,.slice pf lf cf,.slice qf kf df]] w fun e w'=>∃(s5:Bool)(p5:Option Addr)(l5 c5:Nat)(q5:Option Addr)(k5 d5:Nat)(s6:Bool)(p6:Option Addr)(l6 c6:Nat)(q6:Option Addr)(k6 d6:Nat),e=.returned (.agg #[.bool true,.int .i64 0,.bool s5,.slice p5 l5 c5,.slice q5 k5 d5,.int .i64 1,.bool false,.int .i64 0,.bool s6,.slice p6 l6 c6,.slice q6 k6 d6,.int .i64 1,.bool false])∧XP 0 w' s5 p5 l5 c5 q5 k5 d5 0 1 100000∧XP 0 w' s6 p6 l6 c6 q6 k6 d6 0 1 100000∧Kp w w')∧(∀(b9 m9:Bool)(i1 i2 j1 j2 m1 m2:Int)(sa:Bool)(pa:Option Addr)(la ca:Nat)(qa:Option Addr)(ka da:Nat)(sb:Bool)(pb:Option Addr)(lb cb:Nat)(qb:Option Addr)(kb db:Nat)(se:Bool)(pe:Option Addr)(le ce:Nat)(qe:Option Addr)(ke de:Nat)(sf:Bool)(pf:Option Addr)(lf cf:Nat)(qf:Option Addr)(kf df:Nat)(tm:m9=true)(w:World)(hup:Gr b9 m9 j1 j2 m1 m2 se pe le ce qe ke de sf pf lf cf qf kf df w),Calls prog 91 #[.agg #[.bool false,.int .i64 i1,.bool sa,.slice pa la ca,.slice qa ka da,.int .i64 i2,.bool sb,.slice pb lb cb,.slice qb kb db],.agg #[.bool b9,.int .i64 j1,.bool se,.slice pe le ce,.slice qe ke de,.int .i64 j2,.bool sf,.slice pf lf cf,.slice qf kf df]] w fun e w'=>∃(s5:Bool)(p5:Option Addr)(l5 c5:Nat)(q5:Option Addr)(k5 d5:Nat)(s6:Bool)(p6:Option Addr)(l6 c6:Nat)(q6:Option Addr)(k6 d6:Nat),e=.returned (.agg #[.bool true,.int .i64 0,.bool s5,.slice p5 l5 c5,.slice q5 k5 d5,.int .i64 1,.bool false,.int .i64 0,.bool s6,.slice p6 l6 c6,.slice q6 k6 d6,.int .i64 1,.bool false])∧XP 0 w' s5 p5 l5 c5 q5 k5 d5 0 1 100000∧XP 0 w' s6 p6 l6 c6 q6 k6 d6 0 1 100000∧Kp w w'):=by
 refine⟨?_,?_⟩
 case' refine_1=>intro b9 m9 i1 i2 j1 j2 m1 m2 sa pa la ca qa ka da sb pb lb cb qb kb db se pe le ce qe ke de sf pf lf cf qf kf df w hup;have d:=trivial
 case' refine_2=>intro b9 m9 i1 i2 j1 j2 m1 m2 sa pa la ca qa ka da sb pb lb cb qb kb db se pe le ce qe ke de sf pf lf cf qf kf df tm w hup;have c:=trivial
 all_goals (
  first
  |(have b:=d;clear b)
  |(have b:=c;clear b;subst tm)
  go_enter func91,ntmps91
  go_upto_region 1 with fail
  first
  |(have b:=d;clear b;obtain⟨W,a⟩:=aA (((w.alloc (.cells #[.bool true,.int .i64 i1,.bool sa,.slice pa la ca,.slice qa ka da,.int .i64 i2,.bool sb,.slice pb lb cb,.slice qb kb db] 66)).alloc (.cells #[.bool b9,.int .i64 j1,.bool se,.slice pe le ce,.slice qe ke de,.int .i64 j2,.bool sf,.slice pf lf cf,.slice qf kf df] 66)).alloc (.cells #[.bool false,.int .i64 0,.bool false,.slice none 0 0,.slice none 0 0,.int .i64 0,.bool false,.int .i64 0,.bool false,.slice none 0 0,.slice none 0 0,.int .i64 0,.bool false] 61)))
  |(have b:=c;clear b;obtain⟨W,a⟩:=aA (((w.alloc (.cells #[.bool false,.int .i64 i1,.bool sa,.slice pa la ca,.slice qa ka da,.int .i64 i2,.bool sb,.slice pb lb cb,.slice qb kb db] 66)).alloc (.cells #[.bool b9,.int .i64 j1,.bool se,.slice pe le ce,.slice qe ke de,.int .i64 j2,.bool sf,.slice pf lf cf,.slice qf kf df] 66)).alloc (.cells #[.bool false,.int .i64 0,.bool false,.slice none 0 0,.slice none 0 0,.int .i64 0,.bool false,.int .i64 0,.bool false,.slice none 0 0,.slice none 0 0,.int .i64 0,.bool false] 61)))
  have kw:Kp w W:=by subst a;exact(((Kp.refl w).alloc _).alloc _).alloc _
  first
  |(have b:=d;clear b;have L:BK W w.heap.size #[.bool true,.int .i64 i1,.bool sa,.slice pa la ca,.slice qa ka da,.int .i64 i2,.bool sb,.slice pb lb cb,.slice qb kb db] 66:=by subst a;exact((BK.new w _ _).kp ((Kp.refl _).alloc _)).kp ((Kp.refl _).alloc _))
  |(have b:=c;clear b;have L:BK W w.heap.size #[.bool false,.int .i64 i1,.bool sa,.slice pa la ca,.slice qa ka da,.int .i64 i2,.bool sb,.slice pb lb cb,.slice qb kb db] 66:=by subst a;exact((BK.new w _ _).kp ((Kp.refl _).alloc _)).kp ((Kp.refl _).alloc _))
  have hT:BK W (w.heap.size+1) #[.bool b9,.int .i64 j1,.bool se,.slice pe le ce,.slice qe ke de,.int .i64 j2,.bool sf,.slice pf lf cf,.slice qf kf df] 66:=by subst a;exact(BK.newAt (by simp) _ _).kp ((Kp.refl _).alloc _)
  have hR:BK W (w.heap.size+2) #[.bool false,.int .i64 0,.bool false,.slice none 0 0,.slice none 0 0,.int .i64 0,.bool false,.int .i64 0,.bool false,.slice none 0 0,.slice none 0 0,.int .i64 0,.bool false] 61:=by subst a;exact BK.newAt (by simp) _ _
  rw[<-a];clear a
  obtain⟨G,r,H,h,I,n,O,q,T,o,M,l,U,u,C,t,J,y⟩:=L.c9;obtain⟨S,x,Q,s,B,i,D,j,R,m,P,p,F,f,N,k,E,g⟩:=hT.c9;skip
  go_upto_region 2 with(first|(go_at_call 113;refine(hup _ kw).mono ?_;rintro e A ⟨sg,pg,lg,X,Z,kg,dg,sh,ph,lh,V,Y,kh,dh,rfl,g1⟩))
  first
  |(have b:=d;clear b;obtain⟨K,a⟩:=aA (A.alloc (.cells #[.bool m9,.int .i64 m1,.bool sg,.slice pg lg X,.slice Z kg dg,.int .i64 m2,.bool sh,.slice ph lh V,.slice Y kh dh] 66)))
  |(have b:=c;clear b;obtain⟨K,a⟩:=aA (A.alloc (.cells #[.bool true,.int .i64 m1,.bool sg,.slice pg lg X,.slice Z kg dg,.int .i64 m2,.bool sh,.slice ph lh V,.slice Y kh dh] 66)))
  have kx:Kp A K:=by subst a;exact(Kp.refl _).alloc _
  first
  |(have b:=d;clear b;have hU:BK K A.heap.size #[.bool m9,.int .i64 m1,.bool sg,.slice pg lg X,.slice Z kg dg,.int .i64 m2,.bool sh,.slice ph lh V,.slice Y kh dh] 66:=by subst a;exact BK.new _ _ _)
  |(have b:=c;clear b;have hU:BK K A.heap.size #[.bool true,.int .i64 m1,.bool sg,.slice pg lg X,.slice Z kg dg,.int .i64 m2,.bool sh,.slice ph lh V,.slice Y kh dh] 66:=by subst a;exact BK.new _ _ _)
  replace L:=(L.kp g1).kp kx
  replace hR:=(hR.kp g1).kp kx
  have a5:Kp w K:=by subst a;exact Kp.trans (Kp.trans kw g1) kx
  clear hT kx g1 G r S x H h Q s I n B i O q D j T o R m M l P p U u F f C t N k J y E g kw
  rw[<-a];clear a
  generalize A.heap.size=ub at hU|-
  obtain⟨G,r,H,h,I,n,O,q,T,o,M,l,U,u,C,t,J,y⟩:=L.c9;obtain⟨S,x,Q,s,B,i,D,j,R,m,P,p,F,f,N,k,E,g⟩:=hU.c9;skip
  go_wp2_with (first|(go_at_call 101;refine(Da _).mono ?_;rintro e wn ⟨s5,p5,l5,c5,q5,k5,d5,s6,p6,l6,c6,q6,k6,d6,rfl,h3,h4,gn⟩;have z:=hR.kp gn;obtain⟨r0,bn,r1,b3,r2,bt,r3,br,r4,bq,r5,bo,r6,bu,r7,b0,r8,b2,r9,bx,a9,bb,a3,bc,a8,bf⟩:=z.c13;skip))
  exact BR (v:=.agg #[.bool true,.int .i64 0,.bool s5,.slice p5 l5 c5,.slice q5 k5 d5,.int .i64 1,.bool false,.int .i64 0,.bool s6,.slice p6 l6 c6,.slice q6 k6 d6,.int .i64 1,.bool false]) ⟨s5,p5,l5,c5,q5,k5,d5,s6,p6,l6,c6,q6,k6,d6,rfl,(h3.s13 z (by decide)),(h4.s13 z (by decide)),sM ((Kp.trans a5 gn)) (by first|omega|(simp<;>omega))⟩ (by simp[results,results91,go_sem,r0,r1,r2,r3,r4,r5,r6,r7,r8,r9,a9,a3,a8]))
theorem oM (K:Nat)(hK:K=1074)(cL cH bL bH:Int)(hdc:VdZ cL cH)(hdb:VdZ bL bH)(s0 t0:Value)(w:World)(hs:ST9 cL cH w s0)(ht:ST9 bL bH w t0):Calls prog 91 #[s0,t0] w fun e w'=>∃(n9 oa ob:Bool)(ia ib:Int)(s5:Bool)(p5:Option Addr)(l5 c5:Nat)(q5:Option Addr)(k5 d5:Nat)(s6:Bool)(p6:Option Addr)(l6 c6:Nat)(q6:Option Addr)(k6 d6:Nat),e=.returned (.agg #[.bool n9,.int .i64 ia,.bool s5,.slice p5 l5 c5,.slice q5 k5 d5,.int .i64 1,.bool oa,.int .i64 ib,.bool s6,.slice p6 l6 c6,.slice q6 k6 d6,.int .i64 1,.bool ob])∧PX9 (iw K cL cH bL bH) w' (.agg #[.bool n9,.int .i64 ia,.bool s5,.slice p5 l5 c5,.slice q5 k5 d5,.int .i64 1,.bool oa,.int .i64 ib,.bool s6,.slice p6 l6 c6,.slice q6 k6 d6,.int .i64 1,.bool ob])∧Kp w w':=by
 rcases hs with⟨hc,hs⟩|⟨nc,hs⟩
 ·have u:(iw K cL cH bL bH).em=true:=af (Or.inl hc)
  obtain⟨i1,i2,B,N,J,H,I,G,E,C,L,D,A,F,kb,M,rfl⟩:=hs
  rcases ht with⟨O,ht⟩|⟨nb,ht⟩
  ·obtain⟨U,j2,d,i,s,f,j,n,p,c,o,b,r,l,m,a,rfl⟩:=ht
   refine(jf.1 true true i1 i2 U j2 0 0 B N J H I G E C L D A F kb M d i s f j n p c o b r l m a w (fun W k=>EA U j2 d i s f j n p c o b r l m a W)).mono ?_
   rintro e w' ⟨s5,p5,l5,c5,q5,k5,d5,s6,p6,l6,c6,q6,k6,d6,rfl,z,t,g⟩
   exact⟨true,false,false,0,0,s5,p5,l5,c5,q5,k5,d5,s6,p6,l6,c6,q6,k6,d6,rfl,Or.inl ⟨u,true,false,false,0,0,s5,p5,l5,c5,q5,k5,d5,s6,p6,l6,c6,q6,k6,d6,0,0,1,1,rfl,z,t,rfl,rfl⟩,g⟩
  ·obtain⟨d,i,s,f,j,n,p,c,o,b,r,l,m,a,rfl,Z,P⟩:=ht
   by_cases O:0<bH
   ·refine(jf.1 false false i1 i2 (iz bL) (iz bH) (iz (max bL 0)) (iz bH) B N J H I G E C L D A F kb M d i s f j n p c o b r l m a w (fun W k=>(sS K hK bL bH hdb nb O d i s f j n p c o b r l m a W (Z.kp k) (P.kp k)).mono (fun e w' ⟨sg,pg,lg,cg,qg,kg,dg,sh,ph,lh,ch,qh,kh,dh,y1,_,y3⟩=>⟨sg,pg,lg,cg,qg,kg,dg,sh,ph,lh,ch,qh,kh,dh,y1,y3⟩))).mono ?_
    rintro e w' ⟨s5,p5,l5,c5,q5,k5,d5,s6,p6,l6,c6,q6,k6,d6,rfl,z,t,g⟩
    exact⟨true,false,false,0,0,s5,p5,l5,c5,q5,k5,d5,s6,p6,l6,c6,q6,k6,d6,rfl,Or.inl ⟨u,true,false,false,0,0,s5,p5,l5,c5,q5,k5,d5,s6,p6,l6,c6,q6,k6,d6,0,0,1,1,rfl,z,t,rfl,rfl⟩,g⟩
   ·refine(jf.1 false true i1 i2 (iz bL) (iz bH) 0 0 B N J H I G E C L D A F kb M d i s f j n p c o b r l m a w (fun W k=>A6 K hK bL bH hdb (by omega) d i s f j n p c o b r l m a W (P.kp k))).mono ?_
    rintro e w' ⟨s5,p5,l5,c5,q5,k5,d5,s6,p6,l6,c6,q6,k6,d6,rfl,z,t,g⟩
    exact⟨true,false,false,0,0,s5,p5,l5,c5,q5,k5,d5,s6,p6,l6,c6,q6,k6,d6,rfl,Or.inl ⟨u,true,false,false,0,0,s5,p5,l5,c5,q5,k5,d5,s6,p6,l6,c6,q6,k6,d6,0,0,1,1,rfl,z,t,rfl,rfl⟩,g⟩
 ·obtain⟨B,N,J,H,I,G,E,C,L,D,A,F,kb,M,rfl,a1,a2⟩:=hs
  rcases ht with⟨O,ht⟩|⟨nb,ht⟩
  ·have u:(iw K cL cH bL bH).em=true:=af (Or.inr (Or.inl O))
   obtain⟨U,j2,d,i,s,f,j,n,p,c,o,b,r,l,m,a,rfl⟩:=ht
   refine(jf.2 true true (iz cL) (iz cH) U j2 0 0 B N J H I G E C L D A F kb M d i s f j n p c o b r l m a rfl w (fun W k=>EA U j2 d i s f j n p c o b r l m a W)).mono ?_
   rintro e w' ⟨s5,p5,l5,c5,q5,k5,d5,s6,p6,l6,c6,q6,k6,d6,rfl,z,t,g⟩
   exact⟨true,false,false,0,0,s5,p5,l5,c5,q5,k5,d5,s6,p6,l6,c6,q6,k6,d6,rfl,Or.inl ⟨u,true,false,false,0,0,s5,p5,l5,c5,q5,k5,d5,s6,p6,l6,c6,q6,k6,d6,0,0,1,1,rfl,z,t,rfl,rfl⟩,g⟩
  ·obtain⟨d,i,s,f,j,n,p,c,o,b,r,l,m,a,rfl,Z,P⟩:=ht
   by_cases O:0<bH
   case neg =>
    have u:(iw K cL cH bL bH).em=true:=af (Or.inr (Or.inr (by omega)))
    refine(jf.2 false true (iz cL) (iz cH) (iz bL) (iz bH) 0 0 B N J H I G E C L D A F kb M d i s f j n p c o b r l m a rfl w (fun W k=>A6 K hK bL bH hdb (by omega) d i s f j n p c o b r l m a W (P.kp k))).mono ?_
    rintro e w' ⟨s5,p5,l5,c5,q5,k5,d5,s6,p6,l6,c6,q6,k6,d6,rfl,z,t,g⟩
    exact⟨true,false,false,0,0,s5,p5,l5,c5,q5,k5,d5,s6,p6,l6,c6,q6,k6,d6,rfl,Or.inl ⟨u,true,false,false,0,0,s5,p5,l5,c5,q5,k5,d5,s6,p6,l6,c6,q6,k6,d6,0,0,1,1,rfl,z,t,rfl,rfl⟩,g⟩
   have u:(iw K cL cH bL bH).em=false:=ae (by omega)
   have X:=hdc
   have V:=hdb
   unfold VdZ at X V
   have Y:=a1.pl K hK cL
   have c2:=a2.pl K hK cH
   have T:0<=Vz (max bL 0):=by rw[(lW (max bL 0) (by omega)).2];exact gw _ (by omega)
   have g2:0<=Vz bH:=by
    by_cases q:bH=9218868437227405312
    ·rw[q,xV.2];decide
    ·rw[(lW bH (by omega)).2];exact gw _ (by omega)
   have s1:=iT cL hdc.lo
   have s2:=iT cH hdc.hi
   have R:=fun(W:World) (k:Kp w W)=>pY (iz cL) (Vz cL) (2^K) 1500 (by decide) B N J H I G E W (Y.kp k)
   have Q:=fun(W:World) (k:Kp w W)=>pY (iz cH) (Vz cH) (2^K) 1500 (by decide) C L D A F kb M W (c2.kp k)
   have kn:∀x:Int,dl x->¬0<x->¬0<jW (iz x) (Vz x):=fun x hx h=>by
    have q:=iT x hx
    rcases(by omega:x<0∨x=0)with g|g
    ·rw[q.2.2 g];decide
    ·rw[q.1 g];decide
   have km:∀x:Int,dl x->¬x<0->¬jW (iz x) (Vz x)<0:=fun x hx h=>by
    have q:=iT x hx
    rcases(by omega:0<x∨x=0)with g|g
    ·rw[q.2.1 g];decide
    ·rw[q.1 g];decide
   unfold iw qA qB at u|-
   by_cases S:0<cL
   ·rw[if_pos S,if_neg (show ¬cH<0 by omega)]at u|-
    refine(oN.2.1 false (iz cL) (iz cH) (iz bL) (iz bH) (iz (max bL 0)) (iz bH) B N J H I G E C L D A F kb M d i s f j n p c o b r l m a _ _ _ _ _ _ _ _ _ _ _ _ _ _ (fun W sg pg lg cg qg kg dg sh ph lh ch qh kh dh=>XP 0 W sg pg lg cg qg kg dg (Vz (max bL 0)) (2^K) 1500∧XP 0 W sh ph lh ch qh kh dh (Vz bH) (2^K) 1500) w (fun W W' sg pg lg cg qg kg dg sh ph lh ch qh kh dh k y=>⟨y.1.kp k,y.2.kp k⟩) (fun W k=>sS K hK bL bH hdb nb O d i s f j n p c o b r l m a W (Z.kp k) (P.kp k)) (fun W sg pg lg cg qg kg dg sh ph lh ch qh kh dh k y=>ir (iz cL) (Vz cL) (2^K) 1500 (iz (max bL 0)) (Vz (max bL 0)) (2^K) 1500 (by decide) T B N J H I G E sg pg lg cg qg kg dg W (Y.kp k) y.1) (fun W sg pg lg cg qg kg dg sh ph lh ch qh kh dh k y=>ir (iz cH) (Vz cH) (2^K) 1500 (iz (max bL 0)) (Vz (max bL 0)) (2^K) 1500 (by decide) T C L D A F kb M sg pg lg cg qg kg dg W (c2.kp k) y.1) (fun W sg pg lg cg qg kg dg sh ph lh ch qh kh dh k y=>ir (iz cL) (Vz cL) (2^K) 1500 (iz bH) (Vz bH) (2^K) 1500 (by decide) g2 B N J H I G E sh ph lh ch qh kh dh W (Y.kp k) y.2) R (by rw[s1.2.1 S];decide) Q (km cH hdc.hi (by omega))).mono ?_
    rintro e w' ⟨s5,p5,l5,c5,q5,k5,d5,s6,p6,l6,c6,q6,k6,d6,rfl,z,t,g⟩
    exact⟨false,_,_,_,_,s5,p5,l5,c5,q5,k5,d5,s6,p6,l6,c6,q6,k6,d6,rfl,Or.inr ⟨u,s5,p5,l5,c5,q5,k5,d5,s6,p6,l6,c6,q6,k6,d6,rfl,z,t⟩,g⟩
   ·by_cases t2:cH<0
    ·rw[if_neg S,if_pos t2]at u|-
     refine(oN.2.2 false (iz cL) (iz cH) (iz bL) (iz bH) (iz (max bL 0)) (iz bH) B N J H I G E C L D A F kb M d i s f j n p c o b r l m a _ _ _ _ _ _ _ _ _ _ _ _ _ _ (fun W sg pg lg cg qg kg dg sh ph lh ch qh kh dh=>XP 0 W sg pg lg cg qg kg dg (Vz (max bL 0)) (2^K) 1500∧XP 0 W sh ph lh ch qh kh dh (Vz bH) (2^K) 1500) w (fun W W' sg pg lg cg qg kg dg sh ph lh ch qh kh dh k y=>⟨y.1.kp k,y.2.kp k⟩) (fun W k=>sS K hK bL bH hdb nb O d i s f j n p c o b r l m a W (Z.kp k) (P.kp k)) (fun W sg pg lg cg qg kg dg sh ph lh ch qh kh dh k y=>ir (iz cL) (Vz cL) (2^K) 1500 (iz (max bL 0)) (Vz (max bL 0)) (2^K) 1500 (by decide) T B N J H I G E sg pg lg cg qg kg dg W (Y.kp k) y.1) (fun W sg pg lg cg qg kg dg sh ph lh ch qh kh dh k y=>ir (iz cH) (Vz cH) (2^K) 1500 (iz (max bL 0)) (Vz (max bL 0)) (2^K) 1500 (by decide) T C L D A F kb M sg pg lg cg qg kg dg W (c2.kp k) y.1) (fun W sg pg lg cg qg kg dg sh ph lh ch qh kh dh k y=>ir (iz cH) (Vz cH) (2^K) 1500 (iz bH) (Vz bH) (2^K) 1500 (by decide) g2 C L D A F kb M sh ph lh ch qh kh dh W (c2.kp k) y.2) R (kn cL hdc.lo S) Q (by rw[s2.2.2 t2];decide)).mono ?_
     rintro e w' ⟨s5,p5,l5,c5,q5,k5,d5,s6,p6,l6,c6,q6,k6,d6,rfl,z,t,g⟩
     exact⟨false,_,_,_,_,s5,p5,l5,c5,q5,k5,d5,s6,p6,l6,c6,q6,k6,d6,rfl,Or.inr ⟨u,s5,p5,l5,c5,q5,k5,d5,s6,p6,l6,c6,q6,k6,d6,rfl,z,t⟩,g⟩
    ·rw[if_neg S,if_neg t2]at u|-
     refine(oN.1 false (iz cL) (iz cH) (iz bL) (iz bH) (iz (max bL 0)) (iz bH) B N J H I G E C L D A F kb M d i s f j n p c o b r l m a _ _ _ _ _ _ _ _ _ _ (fun W sg pg lg cg qg kg dg sh ph lh ch qh kh dh=>XP 0 W sg pg lg cg qg kg dg (Vz (max bL 0)) (2^K) 1500∧XP 0 W sh ph lh ch qh kh dh (Vz bH) (2^K) 1500) w (fun W W' sg pg lg cg qg kg dg sh ph lh ch qh kh dh k y=>⟨y.1.kp k,y.2.kp k⟩) (fun W k=>sS K hK bL bH hdb nb O d i s f j n p c o b r l m a W (Z.kp k) (P.kp k)) (fun W sg pg lg cg qg kg dg sh ph lh ch qh kh dh k y=>ir (iz cL) (Vz cL) (2^K) 1500 (iz (max bL 0)) (Vz (max bL 0)) (2^K) 1500 (by decide) T B N J H I G E sg pg lg cg qg kg dg W (Y.kp k) y.1) (fun W sg pg lg cg qg kg dg sh ph lh ch qh kh dh k y=>ir (iz cH) (Vz cH) (2^K) 1500 (iz (max bL 0)) (Vz (max bL 0)) (2^K) 1500 (by decide) T C L D A F kb M sg pg lg cg qg kg dg W (c2.kp k) y.1) R (kn cL hdc.lo S) Q (km cH hdc.hi t2)).mono ?_
     rintro e w' ⟨s5,p5,l5,c5,q5,k5,d5,s6,p6,l6,c6,q6,k6,d6,rfl,z,t,g⟩
     exact⟨false,_,_,_,_,s5,p5,l5,c5,q5,k5,d5,s6,p6,l6,c6,q6,k6,d6,rfl,Or.inr ⟨u,s5,p5,l5,c5,q5,k5,d5,s6,p6,l6,c6,q6,k6,d6,rfl,z,t⟩,g⟩
set_option linter.all false
theorem Ew (V:Int)(C N:Nat)(hN:N<=100000) s p l c q k d (B1:Nat)(w:World)(h:XP B1 w s p l c q k d V C N):Calls prog 75 #[.agg #[.bool s,.slice p l c,.slice q k d]] w fun e w'=>∃s2 p2 l2 c2 q2 k2 d2,e=.returned (.agg #[.bool s2,.slice p2 l2 c2,.slice q2 k2 d2])∧XP w.heap.size w' s2 p2 l2 c2 q2 k2 d2 (-V) C N∧Kp w w':=by
 obtain⟨a,b,i,j,u⟩:=h
 have D:l=(az a).length:=by
  obtain⟨I,J,H,-,-⟩:=i.arr
  injection H
 have f:∀(s2:Bool),(a≠0->s2 = !s)->XF s2 a b (-V) C N:=by
  intro s2 E
  obtain⟨A,G,B,F,y⟩:=u
  refine⟨A,G, ?_,F,y⟩
  rw[bF,<-B,<-bF]
  congr 1
  by_cases z:a=0
  ·rw[z];unfold fC;cases s<;>cases s2<;>simp
  ·rw[E z];unfold fC;cases s<;>simp
 have t:a≠0->0<l:=fun h0=>by
  rw[D]
  rcases bS (az a).length with z|z
  ·have:=List.eq_nil_of_length_eq_zero z
   have e:=aV a
   rw[this]at e
   exact absurd e.symm h0
  ·exact z
 have i:=i.mono (aW B1)
 have j:=j.mono (aW B1)
 have x:aq a<=100000:=by have:=u.2.2.2.1;omega
 have r:aq b<=100000:=by have:=u.2.2.2.2;omega
 cases s
 ·by_cases o:0<l
  ·refine(tf p l c q k d a b w i j x r o).mono ?_
   rintro e w' ⟨p2,l2,c2,q2,k2,d2,rfl,n,m,g⟩
   exact⟨true,p2,l2,c2,q2,k2,d2,rfl,⟨a,b,n,m,f true (fun _=>rfl)⟩,g⟩
  ·refine(td p l c q k d a b w i j x r o).mono ?_
   rintro e w' ⟨p2,l2,c2,q2,k2,d2,rfl,n,m,g⟩
   exact⟨false,p2,l2,c2,q2,k2,d2,rfl,⟨a,b,n,m,f false (fun h0=>absurd (t h0) o)⟩,g⟩
 ·refine(te p l c q k d a b w i j x r).mono ?_
  rintro e w' ⟨p2,l2,c2,q2,k2,d2,rfl,n,m,g⟩
  exact⟨false,p2,l2,c2,q2,k2,d2,rfl,⟨a,b,n,m,f false (fun _=>rfl)⟩,g⟩

theorem RP.vp0 {base:Nat}{w:World}{s:Bool}{p:Option Addr}{l c:Nat}{q:Option Addr}{k d:Nat}(h:RP base w s p l c q k d false 0):VP base w s p l c q k d 0:=by
 have q:=h.vp
 rw[xX]at q
 exact q
theorem F9 (w:World):Calls prog 108 #[] w fun e w'=>∃(s5:Bool)(p5:Option Addr)(l5 c5:Nat)(q5:Option Addr)(k5 d5:Nat)(s6:Bool)(p6:Option Addr)(l6 c6:Nat)(q6:Option Addr)(k6 d6:Nat),e=.returned (.agg #[.bool false,.int .i64 (-1),.bool s5,.slice p5 l5 c5,.slice q5 k5 d5,.int .i64 1,.bool s6,.slice p6 l6 c6,.slice q6 k6 d6])∧VP 0 w' s5 p5 l5 c5 q5 k5 d5 0∧VP 0 w' s6 p6 l6 c6 q6 k6 d6 0∧Kp w w':=by
 go_enter func108,ntmps108
 go_upto_region 1 with fail
 obtain⟨W,b,G,d⟩:=Eu w #[.bool false,.int .i64 0,.bool false,.slice none 0 0,.slice none 0 0,.int .i64 0,.bool false,.slice none 0 0,.slice none 0 0] 66
 rw[<-b];clear b
 obtain⟨S,P,Y,M,Z,D,U,F,V,J,q5,L,q6,N,T,E,X,C⟩:=d.c9;skip
 go_wp2_with (first|(have Q:=f;clear Q;go_at_call 118;refine(mS _).mono ?_;rintro e H ⟨s6,p6,l6,c6,q6,k6,d6,rfl,I,r⟩;have p:Kp W H:=Kp.trans f r;have a:=d.kp p;obtain⟨B,c,A,o,t,k,y,j,u,i,s,g,z,l,q,m,x,n⟩:=a.c9;skip)|(go_at_call 118;refine(mS _).mono ?_;rintro e K ⟨s5,p5,l5,c5,q5,k5,d5,rfl,R,O⟩;have f:Kp W K:=O;have h:=d.kp f;obtain⟨B,c,A,o,t,k,y,j,u,i,s,g,z,l,q,m,x,n⟩:=h.c9;skip))
 exact BR (v:=.agg #[.bool false,.int .i64 (-1),.bool s5,.slice p5 l5 c5,.slice q5 k5 d5,.int .i64 1,.bool s6,.slice p6 l6 c6,.slice q6 k6 d6]) ⟨s5,p5,l5,c5,q5,k5,d5,s6,p6,l6,c6,q6,k6,d6,rfl,((((((((((((R.mono (aW _)).vp0).kp r).setB a (by decide) 0 _).setB (a.put 0 _) (by decide) 1 _).setB ((a.put 0 _).put 1 _) (by decide) 2 _).setB (((a.put 0 _).put 1 _).put 2 _) (by decide) 3 _).setB ((((a.put 0 _).put 1 _).put 2 _).put 3 _) (by decide) 4 _).setB (((((a.put 0 _).put 1 _).put 2 _).put 3 _).put 4 _) (by decide) 5 _).setB ((((((a.put 0 _).put 1 _).put 2 _).put 3 _).put 4 _).put 5 _) (by decide) 6 _).setB (((((((a.put 0 _).put 1 _).put 2 _).put 3 _).put 4 _).put 5 _).put 6 _) (by decide) 7 _).setB ((((((((a.put 0 _).put 1 _).put 2 _).put 3 _).put 4 _).put 5 _).put 6 _).put 7 _) (by decide) 8 _),(((((((((((I.mono (aW _)).vp0).setB a (by decide) 0 _).setB (a.put 0 _) (by decide) 1 _).setB ((a.put 0 _).put 1 _) (by decide) 2 _).setB (((a.put 0 _).put 1 _).put 2 _) (by decide) 3 _).setB ((((a.put 0 _).put 1 _).put 2 _).put 3 _) (by decide) 4 _).setB (((((a.put 0 _).put 1 _).put 2 _).put 3 _).put 4 _) (by decide) 5 _).setB ((((((a.put 0 _).put 1 _).put 2 _).put 3 _).put 4 _).put 5 _) (by decide) 6 _).setB (((((((a.put 0 _).put 1 _).put 2 _).put 3 _).put 4 _).put 5 _).put 6 _) (by decide) 7 _).setB ((((((((a.put 0 _).put 1 _).put 2 _).put 3 _).put 4 _).put 5 _).put 6 _).put 7 _) (by decide) 8 _),yR ((Kp.trans G p)) (by first|omega|(simp<;>omega))⟩ (by simp[results,results108,go_sem,B,A,t,y,u,s,z,q,x])
set_option linter.all false

def H3 (K:Nat)(cL cH bL bH:Int)(W:World)(v:Value):Prop:=((cL=9218868437227405312∨bL=9218868437227405312)∧v=.slice none 0 0)∨(¬(cL=9218868437227405312∨bL=9218868437227405312)∧(bL<=0∧0<=bH∧cL<=0∧0<=cH)∧∃(g:Nat)(n9 oa ob:Bool)(ia ib:Int)(s5:Bool)(p5:Option Addr)(l5 c5:Nat)(q5:Option Addr)(k5 d5:Nat)(s6:Bool)(p6:Option Addr)(l6 c6:Nat)(q6:Option Addr)(k6 d6:Nat),v=.slice (some ⟨g,0,none⟩) 1 1∧BK W g #[.bool n9,.int .i64 ia,.bool s5,.slice p5 l5 c5,.slice q5 k5 d5,.int .i64 1,.bool oa,.int .i64 ib,.bool s6,.slice p6 l6 c6,.slice q6 k6 d6,.int .i64 1,.bool ob] 61∧PX9 tG W (.agg #[.bool n9,.int .i64 ia,.bool s5,.slice p5 l5 c5,.slice q5 k5 d5,.int .i64 1,.bool oa,.int .i64 ib,.bool s6,.slice p6 l6 c6,.slice q6 k6 d6,.int .i64 1,.bool ob]))∨(¬(cL=9218868437227405312∨bL=9218868437227405312)∧¬(bL<=0∧0<=bH∧cL<=0∧0<=cH)∧∃(g:Nat)(n9 oa ob:Bool)(ia ib:Int)(s5:Bool)(p5:Option Addr)(l5 c5:Nat)(q5:Option Addr)(k5 d5:Nat)(s6:Bool)(p6:Option Addr)(l6 c6:Nat)(q6:Option Addr)(k6 d6:Nat)(m9 ua ub:Bool)(ja jb:Int)(s7:Bool)(p7:Option Addr)(l7 c7:Nat)(q7:Option Addr)(k7 d7:Nat)(s8:Bool)(p8:Option Addr)(l8 c8:Nat)(q8:Option Addr)(k8 d8:Nat),v=.slice (some ⟨g,0,none⟩) 2 2∧BK W g #[.bool n9,.int .i64 ia,.bool s5,.slice p5 l5 c5,.slice q5 k5 d5,.int .i64 1,.bool oa,.int .i64 ib,.bool s6,.slice p6 l6 c6,.slice q6 k6 d6,.int .i64 1,.bool ob,.bool m9,.int .i64 ja,.bool s7,.slice p7 l7 c7,.slice q7 k7 d7,.int .i64 1,.bool ua,.int .i64 jb,.bool s8,.slice p8 l8 c8,.slice q8 k8 d8,.int .i64 1,.bool ub] 61∧PX9 (iw K cL cH bL bH) W (.agg #[.bool n9,.int .i64 ia,.bool s5,.slice p5 l5 c5,.slice q5 k5 d5,.int .i64 1,.bool oa,.int .i64 ib,.bool s6,.slice p6 l6 c6,.slice q6 k6 d6,.int .i64 1,.bool ob])∧PX9 (iw K (-cH) (-cL) (-bH) (-bL)) W (.agg #[.bool m9,.int .i64 ja,.bool s7,.slice p7 l7 c7,.slice q7 k7 d7,.int .i64 1,.bool ua,.int .i64 jb,.bool s8,.slice p8 l8 c8,.slice q8 k8 d8,.int .i64 1,.bool ub]))
theorem zP (Q0:Pc9)(hi:Q0.A.i=0∨Q0.A.i = -1∨Q0.A.i=1)(hj:Q0.B.i=0∨Q0.B.i = -1∨Q0.B.i=1)(W:World)(h9 oc od:Bool)(ic id:Int)(sg:Bool)(pg:Option Addr)(lg cg:Nat)(qg:Option Addr)(kg dg:Nat)(sh:Bool)(ph:Option Addr)(lh ch:Nat)(qh:Option Addr)(kh dh:Nat)(h:PX9 Q0 W (.agg #[.bool h9,.int .i64 ic,.bool sg,.slice pg lg cg,.slice qg kg dg,.int .i64 1,.bool oc,.int .i64 id,.bool sh,.slice ph lh ch,.slice qh kh dh,.int .i64 1,.bool od])):Calls prog 56 #[.agg #[.bool h9,.int .i64 ic,.bool sg,.slice pg lg cg,.slice qg kg dg,.int .i64 1,.bool oc,.int .i64 id,.bool sh,.slice ph lh ch,.slice qh kh dh,.int .i64 1,.bool od]] W fun e w'=>∃(m9 ua ub:Bool)(ja jb:Int)(s7:Bool)(p7:Option Addr)(l7 c7:Nat)(q7:Option Addr)(k7 d7:Nat)(s8:Bool)(p8:Option Addr)(l8 c8:Nat)(q8:Option Addr)(k8 d8:Nat),e=.returned (.agg #[.bool m9,.int .i64 ja,.bool s7,.slice p7 l7 c7,.slice q7 k7 d7,.int .i64 1,.bool ua,.int .i64 jb,.bool s8,.slice p8 l8 c8,.slice q8 k8 d8,.int .i64 1,.bool ub])∧PX9 Q0.ng w' (.agg #[.bool m9,.int .i64 ja,.bool s7,.slice p7 l7 c7,.slice q7 k7 d7,.int .i64 1,.bool ua,.int .i64 jb,.bool s8,.slice p8 l8 c8,.slice q8 k8 d8,.int .i64 1,.bool ub])∧Kp W w':=by
 have G:=fun(V:Int) (C:Nat) s p l c q k d (W':World) (h:XP 0 W' s p l c q k d V C 100000)=>Ew V C 100000 (by decide) s p l c q k d 0 W' h
 rcases h with⟨he,n1,o1,o2,i1,i2,s7,p7,l7,c7,q7,k7,d7,s8,p8,l8,c8,q8,k8,d8,V7,V8,C7,C8,e1,x1,x2,rfl,rfl⟩|⟨he,s7,p7,l7,c7,q7,k7,d7,s8,p8,l8,c8,q8,k8,d8,e1,x1,x2⟩
 ·simp only[Value.agg.injEq,Array.mk.injEq,List.cons.injEq,Value.bool.injEq,Value.int.injEq,Value.slice.injEq,and_true,true_and]at e1
  obtain⟨rfl,rfl,rfl,⟨rfl,rfl,rfl⟩,⟨rfl,rfl,rfl⟩,rfl,rfl,rfl,⟨rfl,rfl,rfl⟩,⟨rfl,rfl,rfl⟩,rfl⟩:=e1
  refine(tN true oc od 0 0 V7 V8 C7 C8 (eQ _ (by decide) (by decide)) (eQ _ (by decide) (by decide)) sg pg lg cg qg kg dg sh ph lh ch qh kh dh W x1 x2 (fun W' k=>(G _ _ sg pg lg cg qg kg dg W' (x1.kp k)).mono (fun e w' ⟨j,f,m,a,n,b,r,t,u,y3⟩=>⟨j,f,m,a,n,b,r,t,u.mono (aW _),y3⟩)) (fun W' k=>(G _ _ sh ph lh ch qh kh dh W' (x2.kp k)).mono (fun e w' ⟨j,f,m,a,n,b,r,t,u,y3⟩=>⟨j,f,m,a,n,b,r,t,u.mono (aW _),y3⟩))).mono ?_
  rintro e w' ⟨j,f,m,a,n,b,r,E,F,x,c6,y,z,D,rfl,t,u,g⟩
  exact⟨true,od,oc,0,0,E,F,x,c6,y,z,D,j,f,m,a,n,b,r,rfl,Or.inl ⟨he,true,od,oc,0,0,E,F,x,c6,y,z,D,j,f,m,a,n,b,r,_,_,_,_,rfl,u,t,rfl,rfl⟩,g⟩
 ·simp only[Value.agg.injEq,Array.mk.injEq,List.cons.injEq,Value.bool.injEq,Value.int.injEq,Value.slice.injEq,and_true,true_and]at e1
  obtain⟨rfl,rfl,rfl,⟨rfl,rfl,rfl⟩,⟨rfl,rfl,rfl⟩,rfl,rfl,rfl,⟨rfl,rfl,rfl⟩,⟨rfl,rfl,rfl⟩,rfl⟩:=e1
  refine(tN false Q0.A.o Q0.B.o Q0.A.i Q0.B.i _ _ _ _ (eQ _ (by rcases hi with g|g|g<;>rw[g]<;>decide) (by rcases hi with g|g|g<;>rw[g]<;>decide)) (eQ _ (by rcases hj with g|g|g<;>rw[g]<;>decide) (by rcases hj with g|g|g<;>rw[g]<;>decide)) sg pg lg cg qg kg dg sh ph lh ch qh kh dh W x1 x2 (fun W' k=>(G _ _ sg pg lg cg qg kg dg W' (x1.kp k)).mono (fun e w' ⟨j,f,m,a,n,b,r,t,u,y3⟩=>⟨j,f,m,a,n,b,r,t,u.mono (aW _),y3⟩)) (fun W' k=>(G _ _ sh ph lh ch qh kh dh W' (x2.kp k)).mono (fun e w' ⟨j,f,m,a,n,b,r,t,u,y3⟩=>⟨j,f,m,a,n,b,r,t,u.mono (aW _),y3⟩))).mono ?_
  rintro e w' ⟨j,f,m,a,n,b,r,E,F,x,c6,y,z,D,rfl,t,u,g⟩
  exact⟨false,_,_,_,_,E,F,x,c6,y,z,D,j,f,m,a,n,b,r,rfl,Or.inr ⟨he,E,F,x,c6,y,z,D,j,f,m,a,n,b,r,rfl,u,t⟩,g⟩
theorem Ga (W:World)(v:Value)(h:∃(s5:Bool)(p5:Option Addr)(l5 c5:Nat)(q5:Option Addr)(k5 d5:Nat)(s6:Bool)(p6:Option Addr)(l6 c6:Nat)(q6:Option Addr)(k6 d6:Nat),v=.agg #[.bool false,.int .i64 (-1),.bool s5,.slice p5 l5 c5,.slice q5 k5 d5,.int .i64 1,.bool s6,.slice p6 l6 c6,.slice q6 k6 d6]∧VP 0 W s5 p5 l5 c5 q5 k5 d5 0∧VP 0 W s6 p6 l6 c6 q6 k6 d6 0):Calls prog 45 #[v] W fun e w'=>∃(n9 oa ob:Bool)(ia ib:Int)(s5:Bool)(p5:Option Addr)(l5 c5:Nat)(q5:Option Addr)(k5 d5:Nat)(s6:Bool)(p6:Option Addr)(l6 c6:Nat)(q6:Option Addr)(k6 d6:Nat),e=.returned (.agg #[.bool n9,.int .i64 ia,.bool s5,.slice p5 l5 c5,.slice q5 k5 d5,.int .i64 1,.bool oa,.int .i64 ib,.bool s6,.slice p6 l6 c6,.slice q6 k6 d6,.int .i64 1,.bool ob])∧PX9 tG w' (.agg #[.bool n9,.int .i64 ia,.bool s5,.slice p5 l5 c5,.slice q5 k5 d5,.int .i64 1,.bool oa,.int .i64 ib,.bool s6,.slice p6 l6 c6,.slice q6 k6 d6,.int .i64 1,.bool ob])∧Kp W w':=by
 obtain⟨s5,p5,l5,c5,q5,k5,d5,s6,p6,l6,c6,q6,k6,d6,rfl,t,r⟩:=h
 refine(zx (-1) 0 1 0 (Or.inr rfl) (Or.inr rfl) s5 p5 l5 c5 q5 k5 d5 s6 p6 l6 c6 q6 k6 d6 W t r).mono ?_
 rintro e w' ⟨v,rfl,⟨q,n,d,i,p,b,j,c,k,a,f,m,l,o,rfl,u,s⟩,g⟩
 exact⟨false,_,_,_,_,q,n,d,i,p,b,j,c,k,a,f,m,l,o,rfl,Or.inr ⟨rfl,q,n,d,i,p,b,j,c,k,a,f,m,l,o,rfl,u.x0,s.x0⟩,g⟩
theorem FO (K:Nat)(hK:K=1074)(cL cH bL bH:Int)(hdc:VdZ cL cH)(hdb:VdZ bL bH)(s0 t0:Value)(w:World)(hs:ST9 cL cH w s0)(ht:ST9 bL bH w t0):Calls prog 50 #[s0,t0] w fun e w'=>∃v,e=.returned v∧H3 K cL cH bL bH w' v∧Kp w w':=by
 have U:=hs
 have V:=ht
 rcases hs with⟨hc,hs⟩|⟨nc,hs⟩
 ·obtain⟨i1,i2,Y,pa,la,ca,qa,ka,da,sb,pb,lb,cb,Z,kb,db,rfl⟩:=hs
  rcases ht with⟨hb,ht⟩|⟨nb,ht⟩
  ·obtain⟨j1,j2,m,s,S,D,F,Q,x,l,R,j,y,t,N,z,rfl⟩:=ht
   refine(yq i1 i2 j1 j2 Y pa la ca qa ka da sb pb lb cb Z kb db m s S D F Q x l R j y t N z true w).mono ?_
   rintro e w' ⟨rfl,g⟩
   exact⟨_,rfl,Or.inl ⟨Or.inl hc,rfl⟩,g⟩
  ·obtain⟨m,s,S,D,F,Q,x,l,R,j,y,t,N,z,rfl,b1,b2⟩:=ht
   refine(yq i1 i2 (iz bL) (iz bH) Y pa la ca qa ka da sb pb lb cb Z kb db m s S D F Q x l R j y t N z false w).mono ?_
   rintro e w' ⟨rfl,g⟩
   exact⟨_,rfl,Or.inl ⟨Or.inl hc,rfl⟩,g⟩
 ·obtain⟨Y,pa,la,ca,qa,ka,da,sb,pb,lb,cb,Z,kb,db,rfl,a1,a2⟩:=hs
  rcases ht with⟨hb,ht⟩|⟨nb,ht⟩
  ·obtain⟨j1,j2,m,s,S,D,F,Q,x,l,R,j,y,t,N,z,rfl⟩:=ht
   refine(DR (iz cL) (iz cH) j1 j2 Y pa la ca qa ka da sb pb lb cb Z kb db m s S D F Q x l R j y t N z w).mono ?_
   rintro e w' ⟨rfl,g⟩
   exact⟨_,rfl,Or.inl ⟨Or.inr hb,rfl⟩,g⟩
  ·obtain⟨m,s,S,D,F,Q,x,l,R,j,y,t,N,z,rfl,b1,b2⟩:=ht
   have c1:¬(cL=9218868437227405312∨bL=9218868437227405312):=by omega
   have dn:=ru bL bH hdb
   have zs:∀L H:Int,dl L->dl H->(decide (jW (iz L) (Vz L)<=0) && decide (0<=jW (iz H) (Vz H)))=(decide (L<=0) && decide (0<=H)):=fun L H hL hH=>by
    have q1:=iT L hL
    have q2:=iT H hH
    have e1:(jW (iz L) (Vz L)<=0) ↔ L<=0:=by
     rcases(by omega:L<0∨L=0∨0<L)with g|g|g
     ·rw[q1.2.2 g];omega
     ·rw[q1.1 g];omega
     ·rw[q1.2.1 g];omega
    have e2:(0<=jW (iz H) (Vz H)) ↔ 0<=H:=by
     rcases(by omega:H<0∨H=0∨0<H)with g|g|g
     ·rw[q2.2.2 g];omega
     ·rw[q2.1 g];omega
     ·rw[q2.2.1 g];omega
    rw[decide_eq_decide.2 e1,decide_eq_decide.2 e2]
   have a:=fun(W:World) (k:Kp w W)=>vH false (iz cL) (Vz cL) (2^K) (iz cH) (Vz cH) (2^K) 1500 (by decide) W _ (Or.inr ⟨rfl,Y,pa,la,ca,qa,ka,da,sb,pb,lb,cb,Z,kb,db,rfl,(a1.kp k).pl K hK cL,(a2.kp k).pl K hK cH⟩)
   have b:=fun(W:World) (k:Kp w W)=>vH false (iz bL) (Vz bL) (2^K) (iz bH) (Vz bH) (2^K) 1500 (by decide) W _ (Or.inr ⟨rfl,m,s,S,D,F,Q,x,l,R,j,y,t,N,z,rfl,(b1.kp k).pl K hK bL,(b2.kp k).pl K hK bH⟩)
   rw[zs cL cH hdc.lo hdc.hi]at a
   rw[zs bL bH hdb.lo hdb.hi]at b
   have bR:=hdc
   have bE:=hdb
   unfold VdZ at bR bE
   have T:∀p q:Int,(rB K p q).i=0∨(rB K p q).i = -1∨(rB K p q).i=1∨(¬dl p):=fun p q=>by
    by_cases hp:dl p
    ·have sg:=iT p hp
     have s3:jW (iz p) (Vz p)=0∨jW (iz p) (Vz p)=1∨jW (iz p) (Vz p) = -1:=by
      rcases(by omega:p=0∨0<p∨p<0)with g|g|g
      ·exact Or.inl (sg.1 g)
      ·exact Or.inr (Or.inl (sg.2.1 g))
      ·exact Or.inr (Or.inr (sg.2.2 g))
     unfold rB jc
     split
     ·exact Or.inl rfl
     ·split
      ·exact Or.inl rfl
      ·split
       ·show jW (iz p) (Vz p)=0∨jW (iz p) (Vz p) = -1∨jW (iz p) (Vz p)=1∨_
        omega
       ·exact Or.inl rfl
    ·exact Or.inr (Or.inr (Or.inr hp))
   have hi:(iw K cL cH (-bH) (-bL)).A.i=0∨(iw K cL cH (-bH) (-bL)).A.i = -1∨(iw K cL cH (-bH) (-bL)).A.i=1:=by
    show(qA K cL (-bH) (-bL)).i=0∨(qA K cL (-bH) (-bL)).i = -1∨(qA K cL (-bH) (-bL)).i=1
    unfold qA
    split
    ·have q:=T cL (-bL);rcases q with q|q|q|q;exact Or.inl q;exact Or.inr (Or.inl q);exact Or.inr (Or.inr q);exact absurd hdc.lo q
    ·have q:=T cL (max (-bH) 0);rcases q with q|q|q|q;exact Or.inl q;exact Or.inr (Or.inl q);exact Or.inr (Or.inr q);exact absurd hdc.lo q
   have hj:(iw K cL cH (-bH) (-bL)).B.i=0∨(iw K cL cH (-bH) (-bL)).B.i = -1∨(iw K cL cH (-bH) (-bL)).B.i=1:=by
    show(qB K cH (-bH) (-bL)).i=0∨(qB K cH (-bH) (-bL)).i = -1∨(qB K cH (-bH) (-bL)).i=1
    unfold qB
    split
    ·have q:=T cH (-bL);rcases q with q|q|q|q;exact Or.inl q;exact Or.inr (Or.inl q);exact Or.inr (Or.inr q);exact absurd hdc.hi q
    ·have q:=T cH (max (-bH) 0);rcases q with q|q|q|q;exact Or.inl q;exact Or.inr (Or.inl q);exact Or.inr (Or.inr q);exact absurd hdc.hi q
   have bv:=fun(W:World) (h9 oc od:Bool) (ic id:Int) (sg:Bool) (pg:Option Addr) (lg cg:Nat) (qg:Option Addr) (kg dg:Nat) (sh:Bool) (ph:Option Addr) (lh ch:Nat) (qh:Option Addr) (kh dh:Nat) (k:Kp w W) (h:PX9 (iw K cL cH (-bH) (-bL)) W (.agg #[.bool h9,.int .i64 ic,.bool sg,.slice pg lg cg,.slice qg kg dg,.int .i64 1,.bool oc,.int .i64 id,.bool sh,.slice ph lh ch,.slice qh kh dh,.int .i64 1,.bool od]))=>zP (iw K cL cH (-bH) (-bL)) hi hj W h9 oc od ic id sg pg lg cg qg kg dg sh ph lh ch qh kh dh h
   have bA:∀(W:World)(v:Value),PX9 (iw K cL cH (-bH) (-bL)).ng W v->PX9 (iw K (-cH) (-cL) (-bH) (-bL)) W v:=fun W v h=>by
    cases he:(iw K cL cH (-bH) (-bL)).em
    ·rw[CW K cL cH (-bH) (-bL) dn hdc nc he]at h
     exact h
    ·have g:=cM he
     have b5:(iw K (-cH) (-cL) (-bH) (-bL)).em=true:=af (by omega)
     rcases h with⟨_,h⟩|⟨h0,_⟩
     ·exact Or.inl ⟨b5,h⟩
     ·exact absurd (he.symm.trans h0) (by decide)
   by_cases t1:cL<=0∧0<=cH
   ·rw[show(!false && (decide (cL<=0) && decide (0<=cH)))=true from by rw[af t1.1,af t1.2];rfl]at a
    by_cases t2:bL<=0∧0<=bH
    ·rw[show(!false && (decide (bL<=0) && decide (0<=bH)))=true from by rw[af t2.1,af t2.2];rfl]at b
     refine(FN (iz cL) (iz cH) (iz bL) (iz bH) Y pa la ca qa ka da sb pb lb cb Z kb db m s S D F Q x l R j y t N z tG (fun W v=>∃(C:Bool)(J:Option Addr)(n f:Nat)(E:Option Addr)(I G:Nat)(o:Bool)(r:Option Addr)(M c6:Nat)(O:Option Addr)(P u:Nat),v=.agg #[.bool false,.int .i64 (-1),.bool C,.slice J n f,.slice E I G,.int .i64 1,.bool o,.slice r M c6,.slice O P u]∧VP 0 W C J n f E I G 0∧VP 0 W o r M c6 O P u 0) w a b (fun W=>(F9 W).mono (fun e w' ⟨C,J,n,f,E,I,G,o,r,M,c6,O,P,u,d,c,X,y4⟩=>⟨_,d,⟨C,J,n,f,E,I,G,o,r,M,c6,O,P,u,rfl,c,X⟩,y4⟩)) (fun W v k h=>Ga W v h)).mono ?_
     rintro e w' ⟨g,n9,oa,ob,ia,ib,C,J,n,f,E,I,G,o,r,M,c6,O,P,u,rfl,d,c,gk⟩
     exact⟨_,rfl,Or.inr (Or.inl ⟨c1,by omega,g,n9,oa,ob,ia,ib,C,J,n,f,E,I,G,o,r,M,c6,O,P,u,rfl,d,c⟩),gk⟩
    ·have c2:¬(bL<=0∧0<=bH∧cL<=0∧0<=cH):=by omega
     rw[show(!false && (decide (bL<=0) && decide (0<=bH)))=false from by
      rcases(by omega:¬bL<=0∨¬0<=bH)with g|g<;>rw[ae g]<;>simp]at b
     refine(t6.2 (iz cL) (iz cH) (iz bL) (iz bH) Y pa la ca qa ka da sb pb lb cb Z kb db m s S D F Q x l R j y t N z (iw K cL cH bL bH) _ (iw K cL cH (-bH) (-bL)) (fun W v=>ST9 (-bH) (-bL) W v) w a b (fun W k=>oM K hK cL cH bL bH hdc hdb _ _ W (U.kp k) (V.kp k)) (fun W k=>pR bL bH hdb W _ (V.kp k)) (fun W v k h=>oM K hK cL cH (-bH) (-bL) hdc dn _ v W (U.kp k) h) (fun W h9 oc od ic id sg pg lg cg qg kg dg sh ph lh ch qh kh dh k h=>(bv W h9 oc od ic id sg pg lg cg qg kg dg sh ph lh ch qh kh dh k h).mono (fun e w' ⟨m9,ua,ub,ja,jb,s7,p7,l7,c7,q7,k7,d7,s8,p8,l8,c8,q8,k8,d8,d,c,X⟩=>⟨m9,ua,ub,ja,jb,s7,p7,l7,c7,q7,k7,d7,s8,p8,l8,c8,q8,k8,d8,d,bA _ _ c,X⟩))).mono ?_
     rintro e w' ⟨g,n9,oa,ob,ia,ib,C,J,n,f,E,I,G,o,r,M,c6,O,P,u,m9,ua,ub,ja,jb,s7,p7,l7,c7,q7,k7,d7,s8,p8,l8,c8,q8,k8,d8,rfl,d,c,X,gk⟩
     exact⟨_,rfl,Or.inr (Or.inr ⟨c1,c2,g,n9,oa,ob,ia,ib,C,J,n,f,E,I,G,o,r,M,c6,O,P,u,m9,ua,ub,ja,jb,s7,p7,l7,c7,q7,k7,d7,s8,p8,l8,c8,q8,k8,d8,rfl,d,c,X⟩),gk⟩
   ·have c2:¬(bL<=0∧0<=bH∧cL<=0∧0<=cH):=by omega
    rw[show(!false && (decide (cL<=0) && decide (0<=cH)))=false from by
     rcases(by omega:¬cL<=0∨¬0<=cH)with g|g<;>rw[ae g]<;>simp]at a
    refine(t6.1 (iz cL) (iz cH) (iz bL) (iz bH) Y pa la ca qa ka da sb pb lb cb Z kb db m s S D F Q x l R j y t N z (iw K cL cH bL bH) _ (iw K cL cH (-bH) (-bL)) (fun W v=>ST9 (-bH) (-bL) W v) w a (fun W k=>oM K hK cL cH bL bH hdc hdb _ _ W (U.kp k) (V.kp k)) (fun W k=>pR bL bH hdb W _ (V.kp k)) (fun W v k h=>oM K hK cL cH (-bH) (-bL) hdc dn _ v W (U.kp k) h) (fun W h9 oc od ic id sg pg lg cg qg kg dg sh ph lh ch qh kh dh k h=>(bv W h9 oc od ic id sg pg lg cg qg kg dg sh ph lh ch qh kh dh k h).mono (fun e w' ⟨m9,ua,ub,ja,jb,s7,p7,l7,c7,q7,k7,d7,s8,p8,l8,c8,q8,k8,d8,d,c,X⟩=>⟨m9,ua,ub,ja,jb,s7,p7,l7,c7,q7,k7,d7,s8,p8,l8,c8,q8,k8,d8,d,bA _ _ c,X⟩))).mono ?_
    rintro e w' ⟨g,n9,oa,ob,ia,ib,C,J,n,f,E,I,G,o,r,M,c6,O,P,u,m9,ua,ub,ja,jb,s7,p7,l7,c7,q7,k7,d7,s8,p8,l8,c8,q8,k8,d8,rfl,d,c,X,gk⟩
    exact⟨_,rfl,Or.inr (Or.inr ⟨c1,c2,g,n9,oa,ob,ia,ib,C,J,n,f,E,I,G,o,r,M,c6,O,P,u,m9,ua,ub,ja,jb,s7,p7,l7,c7,q7,k7,d7,s8,p8,l8,c8,q8,k8,d8,rfl,d,c,X⟩),gk⟩
theorem Cx (b0 b1 c0 c1 x0 x1:Value)(Z1 Z2:Int)(P1 P2 P4:World->Value->Prop)(w:World)(hk1:∀(W W':World)(v:Value),Kp W W'->P1 W v->P1 W' v)(ho1:∀W:World,Kp w W->Calls prog 47 #[.agg #[c0,c1]] W fun e w'=>∃v,e=.returned v∧P1 w' v∧Kp W w')(ho2:∀W:World,Kp w W->Calls prog 47 #[.agg #[b0,b1]] W fun e w'=>∃v,e=.returned v∧P2 w' v∧Kp W w')(hfa:∀(W:World)(u v:Value),Kp w W->P1 W u->P2 W v->Calls prog 50 #[u,v] W fun e w'=>∃v,e=.returned v∧P4 w' v∧Kp W w')(hal:∀(W:World)(v:Value),Kp w W->P4 W v->Calls prog 44 #[.agg #[x0,x1],v] W (RT (.agg #[.int .u64 Z1,.int .u64 Z2]) W)):Calls prog 18 #[.agg #[b0,b1],.agg #[c0,c1],.agg #[x0,x1]] w (RT (.agg #[.int .u64 Z1,.int .u64 Z2]) w):=by
 go_enter func18,ntmps18
 go_upto_region 1 with fail
 obtain⟨W,l,r,Y,hc,hx,hr⟩:=Et w #[b0,b1] 24 #[c0,c1] 24 #[x0,x1] 24 #[.int .u64 0,.int .u64 0] 24
 rw[<-l];clear l
 have f:W.cell? ⟨w.heap.size,0,none⟩=some b0:=(Y.cell 0).trans rfl
 have E:W.drew.cell? ⟨w.heap.size,0,none⟩=some b0:=f
 have a:W.cell? ⟨w.heap.size,1,none⟩=some b1:=(Y.cell 1).trans rfl
 have y:W.drew.cell? ⟨w.heap.size,1,none⟩=some b1:=a
 have g:W.cell? ⟨w.heap.size+1,0,none⟩=some c0:=(hc.cell 0).trans rfl
 have N:W.drew.cell? ⟨w.heap.size+1,0,none⟩=some c0:=g
 have c:W.cell? ⟨w.heap.size+1,1,none⟩=some c1:=(hc.cell 1).trans rfl
 have D:W.drew.cell? ⟨w.heap.size+1,1,none⟩=some c1:=c
 have b:W.cell? ⟨w.heap.size+2,0,none⟩=some x0:=(hx.cell 0).trans rfl
 have V:W.drew.cell? ⟨w.heap.size+2,0,none⟩=some x0:=b
 have d:W.cell? ⟨w.heap.size+2,1,none⟩=some x1:=(hx.cell 1).trans rfl
 have A:W.drew.cell? ⟨w.heap.size+2,1,none⟩=some x1:=d
 go_region_held3 (fun w'=>w'.cell? ⟨w.heap.size,0,none⟩=some b0∧w'.cell? ⟨w.heap.size,1,none⟩=some b1∧w'.cell? ⟨w.heap.size+1,0,none⟩=some c0∧w'.cell? ⟨w.heap.size+1,1,none⟩=some c1∧w'.cell? ⟨w.heap.size+2,0,none⟩=some x0∧w'.cell? ⟨w.heap.size+2,1,none⟩=some x1) (first|(with_reducible exact⟨f,a,g,c,b,d⟩)|(with_reducible exact⟨E,y,N,D,V,A⟩)|(with_reducible exact⟨z,X,R,U,B,x⟩)|(with_reducible exact⟨L,G,J,Q,M,H⟩)|(with_reducible exact⟨O,P,t,F,C,I⟩)|(with_reducible exact⟨p,m,n,q,s,o⟩)|(exact⟨((CF _ _ _ _ (by simp<;>omega)).trans ((CF _ _ _ _ (by simp<;>omega)).trans p)),((CF _ _ _ _ (by simp<;>omega)).trans ((CF _ _ _ _ (by simp<;>omega)).trans m)),((CF _ _ _ _ (by simp<;>omega)).trans ((CF _ _ _ _ (by simp<;>omega)).trans n)),((CF _ _ _ _ (by simp<;>omega)).trans ((CF _ _ _ _ (by simp<;>omega)).trans q)),((CF _ _ _ _ (by simp<;>omega)).trans ((CF _ _ _ _ (by simp<;>omega)).trans s)),((CF _ _ _ _ (by simp<;>omega)).trans ((CF _ _ _ _ (by simp<;>omega)).trans o))⟩)) (first|(have T:=p4;clear T;go_at_call 44;refine(hal _ _ (Kp.trans r k) p4).mono ?_;rintro e w6 ⟨rfl,g6⟩;have i:Kp W w6:=Kp.trans k g6;have K:=hr.kp i;obtain⟨r0,au,r1,a6⟩:=K.c2;skip;have p:=ac i f;have m:=ac i a;have n:=ac i g;have q:=ac i c;have s:=ac i b;have o:=ac i d)|(go_at_call 50;refine(hfa _ _ _ (Kp.trans r h) S p2).mono ?_;rintro e w4 ⟨v4,rfl,p4,g4⟩;have k:Kp W w4:=Kp.trans h g4;have O:=ac k f;have P:=ac k a;have t:=ac k g;have F:=ac k c;have C:=ac k b;have I:=ac k d)|(have T:=Z;clear T;go_at_call 47;refine(ho2 _ (Kp.trans r j)).mono ?_;rintro e w2 ⟨v2,rfl,p2,g2⟩;have h:Kp W w2:=Kp.trans j g2;have S:=hk1 _ _ _ g2 Z;have L:=ac h f;have G:=ac h a;have J:=ac h g;have Q:=ac h c;have M:=ac h b;have H:=ac h d)|(go_at_call 47;refine(ho1 _ (Kp.trans r (Kp.drew (Kp.refl _)))).mono ?_;rintro e w1 ⟨v1,rfl,Z,g1⟩;have j:Kp W w1:=Kp.trans (Kp.drew (Kp.refl _)) g1;have z:=ac j f;have X:=ac j a;have R:=ac j g;have U:=ac j c;have B:=ac j b;have x:=ac j d))
 go_wp2
 exact BR (v:=.agg #[.int .u64 Z1,.int .u64 Z2]) ⟨rfl,(((Kp.trans r i).setCell (by first|omega|(simp<;>omega)) _).setCell (by first|omega|(simp<;>omega)) _)⟩ (by simp[results,results18,go_sem,r0,r1])
set_option linter.all false
theorem zh (K:Nat)(hK:K=1074)(a b c d e f:Nat)(bL bH cL cH L H:Int)(rb:Rd a b bL bH)(rc:Rd c d cL cH)(rx:Rd e f L H)(w:World):Calls prog 18 #[.agg #[.int .u64 ((a:Nat):Int),.int .u64 ((b:Nat):Int)],.agg #[.int .u64 ((c:Nat):Int),.int .u64 ((d:Nat):Int)],.agg #[.int .u64 ((e:Nat):Int),.int .u64 ((f:Nat):Int)]] w (RT (.agg #[.int .u64 (pI (zK K L H cL cH bL bH)),.int .u64 (pI (zL K L H cL cH bL bH))]) w):=by
 refine Cx _ _ _ _ _ _ _ _ (ST9 cL cH) (ST9 bL bH) (H3 K cL cH bL bH) w (fun W W' v g h=>h.kp g) (fun W _=>Ba _ _ _ _ rc W) (fun W _=>Ba _ _ _ _ rb W) (fun W s t _ h1 h2=>FO K hK cL cH bL bH rc.vd rb.vd s t W h1 h2) (fun W v _ h=>?_)
 rcases h with⟨c1,rfl⟩|⟨c1,c2,g,n9,oa,ob,ia,ib,s5,p5,l5,c5,q5,k5,d5,s6,p6,l6,c6,q6,k6,d6,rfl,hb,h1⟩|⟨c1,c2,g,n9,oa,ob,ia,ib,s5,p5,l5,c5,q5,k5,d5,s6,p6,l6,c6,q6,k6,d6,m9,ua,ub,ja,jb,s7,p7,l7,c7,q7,k7,d7,s8,p8,l8,c8,q8,k8,d8,rfl,hb,h1,h2⟩
 ·have q:=GR K L H cL cH bL bH c1
  rw[q.1,q.2,lK,mJ]
  exact CJ e f L H rx W
 ·have q:=GP K L H cL cH bL bH rx.vd c1 c2
  rw[q.1,q.2]
  exact CI K hK tG e f L H rx rO W g n9 oa ob ia ib s5 p5 l5 c5 q5 k5 d5 s6 p6 l6 c6 q6 k6 d6 hb h1
 ·have q:=GQ K L H cL cH bL bH c1 c2
  rw[q.1,q.2]
  have j:=rb.vd
  have i:=rc.vd
  have l:VdZ (-bH) (-bL):=ru _ _ j
  have k:VdZ (-cH) (-cL):=ru _ _ i
  exact CH K hK (iw K cL cH bL bH) (iw K (-cH) (-cL) (-bH) (-bL)) e f L H rx (oS K cL cH bL bH j i c2) (oS K (-cH) (-cL) (-bH) (-bL) l k (by omega)) W g n9 oa ob m9 ua ub ia ib ja jb s5 p5 l5 c5 q5 k5 d5 s6 p6 l6 c6 q6 k6 d6 s7 p7 l7 c7 q7 k7 d7 s8 p8 l8 c8 q8 k8 d8 hb h1 h2
end Go.Proofs.YtmpjcknaelgnoaaGreatDoor
