import Derived.Test.YtmpjcknaelgnoaaGreatDoorKIMo
set_option maxHeartbeats 4000000
set_option maxRecDepth 20000
namespace Go.Proofs.YtmpjcknaelgnoaaGreatDoor
open Go.RowKit Tryz
set_option linter.all false

theorem XP.setB {base:Nat}{w:World}{s:Bool}{p:Option Addr}{l c:Nat}{q:Option Addr}{k d:Nat}{V:Int}{C N:Nat}(h:XP base w s p l c q k d V C N){b:Nat}{D:Array Value}{t:TypeId}(hb:BK w b D t)(ht:t≠120)(i:Nat)(u:Value):XP base (w.setCell ⟨b,i,none⟩ u) s p l c q k d V C N:=by
 obtain⟨x,y,a,f,g⟩:=h
 exact⟨x,y,a.setB hb ht i u,f.setB hb ht i u,g⟩
theorem XP.s13 {base:Nat}{w:World}{s:Bool}{p:Option Addr}{l c:Nat}{q:Option Addr}{k d:Nat}{V:Int}{C N:Nat}(h:XP base w s p l c q k d V C N){b:Nat}{D:Array Value}{t:TypeId}(hb:BK w b D t)(ht:t≠120){u0 u1 u2 u3 u4 u5 u6 u7 u8 u9 u10 u11 u12:Value}:XP base (((((((((((((w.setCell ⟨b,0,none⟩ u0).setCell ⟨b,1,none⟩ u1).setCell ⟨b,2,none⟩ u2).setCell ⟨b,3,none⟩ u3).setCell ⟨b,4,none⟩ u4).setCell ⟨b,5,none⟩ u5).setCell ⟨b,6,none⟩ u6).setCell ⟨b,7,none⟩ u7).setCell ⟨b,8,none⟩ u8).setCell ⟨b,9,none⟩ u9).setCell ⟨b,10,none⟩ u10).setCell ⟨b,11,none⟩ u11).setCell ⟨b,12,none⟩ u12) s p l c q k d V C N:=
 (((((((((((((h.setB hb ht 0 _).setB (hb.put 0 _) ht 1 _).setB ((hb.put 0 _).put 1 _) ht 2 _).setB (((hb.put 0 _).put 1 _).put 2 _) ht 3 _).setB ((((hb.put 0 _).put 1 _).put 2 _).put 3 _) ht 4 _).setB (((((hb.put 0 _).put 1 _).put 2 _).put 3 _).put 4 _) ht 5 _).setB ((((((hb.put 0 _).put 1 _).put 2 _).put 3 _).put 4 _).put 5 _) ht 6 _).setB (((((((hb.put 0 _).put 1 _).put 2 _).put 3 _).put 4 _).put 5 _).put 6 _) ht 7 _).setB ((((((((hb.put 0 _).put 1 _).put 2 _).put 3 _).put 4 _).put 5 _).put 6 _).put 7 _) ht 8 _).setB (((((((((hb.put 0 _).put 1 _).put 2 _).put 3 _).put 4 _).put 5 _).put 6 _).put 7 _).put 8 _) ht 9 _).setB ((((((((((hb.put 0 _).put 1 _).put 2 _).put 3 _).put 4 _).put 5 _).put 6 _).put 7 _).put 8 _).put 9 _) ht 10 _).setB (((((((((((hb.put 0 _).put 1 _).put 2 _).put 3 _).put 4 _).put 5 _).put 6 _).put 7 _).put 8 _).put 9 _).put 10 _) ht 11 _).setB ((((((((((((hb.put 0 _).put 1 _).put 2 _).put 3 _).put 4 _).put 5 _).put 6 _).put 7 _).put 8 _).put 9 _).put 10 _).put 11 _) ht 12 _)
set_option maxHeartbeats 20000000 in
theorem j8:(∀(i j S:Int) s p l c q k d s2 p2 l2 c2 q2 k2 d2 (w:World)(hs1:KW w 90 #[.agg #[.int .i64 i,.bool s,.slice p l c,.slice q k d]] (.int .i64 S))(t1:(S == 0)=true),Calls prog 119 #[.agg #[.int .i64 i,.bool s,.slice p l c,.slice q k d],.agg #[.int .i64 j,.bool s2,.slice p2 l2 c2,.slice q2 k2 d2]] w fun e w'=>∃s5 p5 l5 c5 q5 k5 d5,e=.returned (.agg #[.int .i64 0,.bool s5,.slice p5 l5 c5,.slice q5 k5 d5,.int .i64 1,.bool false])∧VP 0 w' s5 p5 l5 c5 q5 k5 d5 0∧Kp w w')∧(∀(i j S:Int) s p l c q k d s2 p2 l2 c2 q2 k2 d2 (w:World)(hs1:KW w 90 #[.agg #[.int .i64 i,.bool s,.slice p l c,.slice q k d]] (.int .i64 S))(t1:(S == 0)=false)(t2:(j != 0)=true),Calls prog 119 #[.agg #[.int .i64 i,.bool s,.slice p l c,.slice q k d],.agg #[.int .i64 j,.bool s2,.slice p2 l2 c2,.slice q2 k2 d2]] w fun e w'=>∃s5 p5 l5 c5 q5 k5 d5,e=.returned (.agg #[.int .i64 0,.bool s5,.slice p5 l5 c5,.slice q5 k5 d5,.int .i64 1,.bool true])∧VP 0 w' s5 p5 l5 c5 q5 k5 d5 0∧Kp w w')∧(∀(i j S:Int) s p l c q k d s2 p2 l2 c2 q2 k2 d2 (w:World)(hs1:KW w 90 #[.agg #[.int .i64 i,.bool s,.slice p l c,.slice q k d]] (.int .i64 S))(t1:(S == 0)=false)(t2:(j != 0)=false)(t3:(i != 0)=true),Calls prog 119 #[.agg #[.int .i64 i,.bool s,.slice p l c,.slice q k d],.agg #[.int .i64 j,.bool s2,.slice p2 l2 c2,.slice q2 k2 d2]] w fun e w'=>∃s5 p5 l5 c5 q5 k5 d5,e=.returned (.agg #[.int .i64 S,.bool s5,.slice p5 l5 c5,.slice q5 k5 d5,.int .i64 1,.bool true])∧VP 0 w' s5 p5 l5 c5 q5 k5 d5 0∧Kp w w')∧(∀(i j S T9:Int) s p l c q k d s2 p2 l2 c2 q2 k2 d2 (w:World)(hs1:KW w 90 #[.agg #[.int .i64 i,.bool s,.slice p l c,.slice q k d]] (.int .i64 S))(t1:(S == 0)=false)(t2:(j != 0)=false)(t3:(i != 0)=false)(hs2:KW w 90 #[.agg #[.int .i64 j,.bool s2,.slice p2 l2 c2,.slice q2 k2 d2]] (.int .i64 T9))(t4:(T9 == 0)=true),Calls prog 119 #[.agg #[.int .i64 i,.bool s,.slice p l c,.slice q k d],.agg #[.int .i64 j,.bool s2,.slice p2 l2 c2,.slice q2 k2 d2]] w fun e w'=>∃s5 p5 l5 c5 q5 k5 d5,e=.returned (.agg #[.int .i64 S,.bool s5,.slice p5 l5 c5,.slice q5 k5 d5,.int .i64 1,.bool true])∧VP 0 w' s5 p5 l5 c5 q5 k5 d5 0∧Kp w w')∧(∀(i j S T9:Int) s p l c q k d s2 p2 l2 c2 q2 k2 d2 (w:World)(hs1:KW w 90 #[.agg #[.int .i64 i,.bool s,.slice p l c,.slice q k d]] (.int .i64 S))(t1:(S == 0)=false)(t2:(j != 0)=false)(t3:(i != 0)=false)(hs2:KW w 90 #[.agg #[.int .i64 j,.bool s2,.slice p2 l2 c2,.slice q2 k2 d2]] (.int .i64 T9))(t4:(T9 == 0)=false)(V9:Int)(C9 N9:Nat)(hq:∀W:World,Kp w W->Calls prog 159 #[.agg #[.bool s,.slice p l c,.slice q k d],.agg #[.bool s2,.slice p2 l2 c2,.slice q2 k2 d2]] W fun e w'=>∃s5 p5 l5 c5 q5 k5 d5,e=.returned (.agg #[.bool s5,.slice p5 l5 c5,.slice q5 k5 d5])∧XP 0 w' s5 p5 l5 c5 q5 k5 d5 V9 C9 N9∧Kp W w'),Calls prog 119 #[.agg #[.int .i64 i,.bool s,.slice p l c,.slice q k d],.agg #[.int .i64 j,.bool s2,.slice p2 l2 c2,.slice q2 k2 d2]] w fun e w'=>∃s5 p5 l5 c5 q5 k5 d5,e=.returned (.agg #[.int .i64 0,.bool s5,.slice p5 l5 c5,.slice q5 k5 d5,.int .i64 1,.bool false])∧XP 0 w' s5 p5 l5 c5 q5 k5 d5 V9 C9 N9∧Kp w w'):=by
 refine⟨?_,?_,?_,?_,?_⟩
 case' refine_1=>intro i j S s p l c q k d s2 p2 l2 c2 q2 k2 d2 w hs1 t1;have cn:=trivial
 case' refine_2=>intro i j S s p l c q k d s2 p2 l2 c2 q2 k2 d2 w hs1 t1 t2;have ca:=trivial
 case' refine_3=>intro i j S s p l c q k d s2 p2 l2 c2 q2 k2 d2 w hs1 t1 t2 t3;have cd:=trivial
 case' refine_4=>intro i j S T9 s p l c q k d s2 p2 l2 c2 q2 k2 d2 w hs1 t1 t2 t3 hs2 t4;have bR:=trivial
 case' refine_5=>intro i j S T9 s p l c q k d s2 p2 l2 c2 q2 k2 d2 w hs1 t1 t2 t3 hs2 t4 V9 C9 N9 hq;have cf:=trivial
 all_goals (
  go_enter func119,ntmps119
  go_upto_region 1 with fail
  obtain⟨W,cm,kw,D,K,z⟩:=Ek w #[.int .i64 i,.bool s,.slice p l c,.slice q k d] 64 #[.int .i64 j,.bool s2,.slice p2 l2 c2,.slice q2 k2 d2] 64 #[.int .i64 0,.bool false,.slice none 0 0,.slice none 0 0,.int .i64 0,.bool false] 59
  rw[<-cm];clear cm
  obtain⟨a0,c0,a1,de,a2,c7,a3,db⟩:=D.c4;obtain⟨b0,cN,b1,c8,b2,dd,b3,cY⟩:=K.c4;obtain⟨r0,cV,r1,cU,r2,dc,r3,da,r4,cR,r5,c1⟩:=z.c6;skip
  first
  |((first|(have h:=cn;clear h)|(have h:=ca;clear h));go_wp2_with (first|(have Q:=b;clear Q;go_at_call 61;refine(og _ _).mono ?_;rintro e f ⟨s5,p5,l5,c5,q5,k5,d5,rfl,hv,g2⟩;have m:Kp W f:=Kp.trans b g2;obtain⟨bb,J,bt,B,bn,ab,bp,H⟩:=(show BK f (w.heap.size) #[.int .i64 i,.bool s,.slice p l c,.slice q k d] _ from(D.kp m)).c4;obtain⟨bE,F,bm,O,bu,C,br,V⟩:=(show BK f (w.heap.size+1) #[.int .i64 j,.bool s2,.slice p2 l2 c2,.slice q2 k2 d2] _ from(K.kp m)).c4;obtain⟨t,an,o,E,r,U,u,R,x,X,n,A⟩:=(show BK f (w.heap.size+2) #[.int .i64 0,.bool false,.slice none 0 0,.slice none 0 0,.int .i64 0,.bool false] _ from(z.kp m)).c6;skip)|(go_at_call 90;refine(hs1 _ kw).mono ?_;rintro e g ⟨rfl,g1⟩;have b:Kp W g:=g1;obtain⟨a8,Z,bv,I,a4,G,bA,P⟩:=(show BK g (w.heap.size) #[.int .i64 i,.bool s,.slice p l c,.slice q k d] _ from(D.kp b)).c4;obtain⟨ba,Y,a5,T,bx,ar,bq,M⟩:=(show BK g (w.heap.size+1) #[.int .i64 j,.bool s2,.slice p2 l2 c2,.slice q2 k2 d2] _ from(K.kp b)).c4;obtain⟨bB,L,bl,aj,a6,ad,a7,aa,bo,au,bf,N⟩:=(show BK g (w.heap.size+2) #[.int .i64 0,.bool false,.slice none 0 0,.slice none 0 0,.int .i64 0,.bool false] _ from(z.kp b)).c6;skip)))
  |(have h:=cd;clear h;go_wp2_with (first|(have Q:=b;clear Q;go_at_call 60;refine(yp _ _).mono ?_;rintro e f ⟨s5,p5,l5,c5,q5,k5,d5,rfl,hv,g2⟩;have m:Kp W f:=Kp.trans b g2;obtain⟨bb,J,bt,B,bn,ab,bp,H⟩:=(show BK f (w.heap.size) #[.int .i64 i,.bool s,.slice p l c,.slice q k d] _ from(D.kp m)).c4;obtain⟨bE,F,bm,O,bu,C,br,V⟩:=(show BK f (w.heap.size+1) #[.int .i64 j,.bool s2,.slice p2 l2 c2,.slice q2 k2 d2] _ from(K.kp m)).c4;obtain⟨t,an,o,E,r,U,u,R,x,X,n,A⟩:=(show BK f (w.heap.size+2) #[.int .i64 0,.bool false,.slice none 0 0,.slice none 0 0,.int .i64 0,.bool false] _ from(z.kp m)).c6;skip)|(go_at_call 90;refine(hs1 _ kw).mono ?_;rintro e g ⟨rfl,g1⟩;have b:Kp W g:=g1;obtain⟨a8,Z,bv,I,a4,G,bA,P⟩:=(show BK g (w.heap.size) #[.int .i64 i,.bool s,.slice p l c,.slice q k d] _ from(D.kp b)).c4;obtain⟨ba,Y,a5,T,bx,ar,bq,M⟩:=(show BK g (w.heap.size+1) #[.int .i64 j,.bool s2,.slice p2 l2 c2,.slice q2 k2 d2] _ from(K.kp b)).c4;obtain⟨bB,L,bl,aj,a6,ad,a7,aa,bo,au,bf,N⟩:=(show BK g (w.heap.size+2) #[.int .i64 0,.bool false,.slice none 0 0,.slice none 0 0,.int .i64 0,.bool false] _ from(z.kp b)).c6;skip)))
  |(have h:=bR;clear h;go_wp2_with (first|(have Q:=y;clear Q;go_at_call 60;refine(yp _ _).mono ?_;rintro e f ⟨s5,p5,l5,c5,q5,k5,d5,rfl,hv,g2⟩;have m:Kp W f:=Kp.trans y g2;obtain⟨bb,J,bt,B,bn,ab,bp,H⟩:=(show BK f (w.heap.size) #[.int .i64 i,.bool s,.slice p l c,.slice q k d] _ from(D.kp m)).c4;obtain⟨bE,F,bm,O,bu,C,br,V⟩:=(show BK f (w.heap.size+1) #[.int .i64 j,.bool s2,.slice p2 l2 c2,.slice q2 k2 d2] _ from(K.kp m)).c4;obtain⟨t,an,o,E,r,U,u,R,x,X,n,A⟩:=(show BK f (w.heap.size+2) #[.int .i64 0,.bool false,.slice none 0 0,.slice none 0 0,.int .i64 0,.bool false] _ from(z.kp m)).c6;skip)|(have Q:=b;clear Q;go_at_call 90;refine(hs2 _ (Kp.trans kw b)).mono ?_;rintro e w3 ⟨rfl,g3⟩;have y:Kp W w3:=Kp.trans b g3;obtain⟨cH,ch,cE,b4,cq,cc,ct,b9⟩:=(show BK w3 (w.heap.size) #[.int .i64 i,.bool s,.slice p l c,.slice q k d] _ from(D.kp y)).c4;obtain⟨cy,ck,co,cg,cz,cl,cx,cj⟩:=(show BK w3 (w.heap.size+1) #[.int .i64 j,.bool s2,.slice p2 l2 c2,.slice q2 k2 d2] _ from(K.kp y)).c4;obtain⟨cv,bX,cL,cb,cp,ci,cu,bL,cD,b5,cs,ce⟩:=(show BK w3 (w.heap.size+2) #[.int .i64 0,.bool false,.slice none 0 0,.slice none 0 0,.int .i64 0,.bool false] _ from(z.kp y)).c6;skip)|(go_at_call 90;refine(hs1 _ kw).mono ?_;rintro e g ⟨rfl,g1⟩;have b:Kp W g:=g1;obtain⟨a8,Z,bv,I,a4,G,bA,P⟩:=(show BK g (w.heap.size) #[.int .i64 i,.bool s,.slice p l c,.slice q k d] _ from(D.kp b)).c4;obtain⟨ba,Y,a5,T,bx,ar,bq,M⟩:=(show BK g (w.heap.size+1) #[.int .i64 j,.bool s2,.slice p2 l2 c2,.slice q2 k2 d2] _ from(K.kp b)).c4;obtain⟨bB,L,bl,aj,a6,ad,a7,aa,bo,au,bf,N⟩:=(show BK g (w.heap.size+2) #[.int .i64 0,.bool false,.slice none 0 0,.slice none 0 0,.int .i64 0,.bool false] _ from(z.kp b)).c6;skip)))
  |(have h:=cf;clear h;go_wp2_with (first|(have Q:=y;clear Q;go_at_call 159;refine(hq _ (Kp.trans kw y)).mono ?_;rintro e f ⟨s5,p5,l5,c5,q5,k5,d5,rfl,hv,g2⟩;have m:Kp W f:=Kp.trans y g2;obtain⟨bb,J,bt,B,bn,ab,bp,H⟩:=(show BK f (w.heap.size) #[.int .i64 i,.bool s,.slice p l c,.slice q k d] _ from(D.kp m)).c4;obtain⟨bE,F,bm,O,bu,C,br,V⟩:=(show BK f (w.heap.size+1) #[.int .i64 j,.bool s2,.slice p2 l2 c2,.slice q2 k2 d2] _ from(K.kp m)).c4;obtain⟨t,an,o,E,r,U,u,R,x,X,n,A⟩:=(show BK f (w.heap.size+2) #[.int .i64 0,.bool false,.slice none 0 0,.slice none 0 0,.int .i64 0,.bool false] _ from(z.kp m)).c6;skip)|(have Q:=b;clear Q;go_at_call 90;refine(hs2 _ (Kp.trans kw b)).mono ?_;rintro e w3 ⟨rfl,g3⟩;have y:Kp W w3:=Kp.trans b g3;obtain⟨cH,ch,cE,b4,cq,cc,ct,b9⟩:=(show BK w3 (w.heap.size) #[.int .i64 i,.bool s,.slice p l c,.slice q k d] _ from(D.kp y)).c4;obtain⟨cy,ck,co,cg,cz,cl,cx,cj⟩:=(show BK w3 (w.heap.size+1) #[.int .i64 j,.bool s2,.slice p2 l2 c2,.slice q2 k2 d2] _ from(K.kp y)).c4;obtain⟨cv,bX,cL,cb,cp,ci,cu,bL,cD,b5,cs,ce⟩:=(show BK w3 (w.heap.size+2) #[.int .i64 0,.bool false,.slice none 0 0,.slice none 0 0,.int .i64 0,.bool false] _ from(z.kp y)).c6;skip)|(go_at_call 90;refine(hs1 _ kw).mono ?_;rintro e g ⟨rfl,g1⟩;have b:Kp W g:=g1;obtain⟨a8,Z,bv,I,a4,G,bA,P⟩:=(show BK g (w.heap.size) #[.int .i64 i,.bool s,.slice p l c,.slice q k d] _ from(D.kp b)).c4;obtain⟨ba,Y,a5,T,bx,ar,bq,M⟩:=(show BK g (w.heap.size+1) #[.int .i64 j,.bool s2,.slice p2 l2 c2,.slice q2 k2 d2] _ from(K.kp b)).c4;obtain⟨bB,L,bl,aj,a6,ad,a7,aa,bo,au,bf,N⟩:=(show BK g (w.heap.size+2) #[.int .i64 0,.bool false,.slice none 0 0,.slice none 0 0,.int .i64 0,.bool false] _ from(z.kp b)).c6;skip)))
  have a:=z.kp m
  first
  |((first|(have h:=cn;clear h)|(have h:=cf;clear h));exact BR (v:=.agg #[.int .i64 0,.bool s5,.slice p5 l5 c5,.slice q5 k5 d5,.int .i64 1,.bool false]) ⟨s5,p5,l5,c5,q5,k5,d5,rfl,((((((hv.setB a (by decide) 0 _).setB (a.put 0 _) (by decide) 1 _).setB ((a.put 0 _).put 1 _) (by decide) 2 _).setB (((a.put 0 _).put 1 _).put 2 _) (by decide) 3 _).setB ((((a.put 0 _).put 1 _).put 2 _).put 3 _) (by decide) 4 _).setB (((((a.put 0 _).put 1 _).put 2 _).put 3 _).put 4 _) (by decide) 5 _),Er ((Kp.trans kw m)) (by omega)⟩ (by simp[results,results119,go_sem,t,o,r,u,x,n]))
  |(have h:=ca;clear h;exact BR (v:=.agg #[.int .i64 0,.bool s5,.slice p5 l5 c5,.slice q5 k5 d5,.int .i64 1,.bool true]) ⟨s5,p5,l5,c5,q5,k5,d5,rfl,((((((hv.setB a (by decide) 0 _).setB (a.put 0 _) (by decide) 1 _).setB ((a.put 0 _).put 1 _) (by decide) 2 _).setB (((a.put 0 _).put 1 _).put 2 _) (by decide) 3 _).setB ((((a.put 0 _).put 1 _).put 2 _).put 3 _) (by decide) 4 _).setB (((((a.put 0 _).put 1 _).put 2 _).put 3 _).put 4 _) (by decide) 5 _),Er ((Kp.trans kw m)) (by omega)⟩ (by simp[results,results119,go_sem,t,o,r,u,x,n]))
  |((first|(have h:=cd;clear h)|(have h:=bR;clear h));exact BR (v:=.agg #[.int .i64 S,.bool s5,.slice p5 l5 c5,.slice q5 k5 d5,.int .i64 1,.bool true]) ⟨s5,p5,l5,c5,q5,k5,d5,rfl,((((((hv.setB a (by decide) 0 _).setB (a.put 0 _) (by decide) 1 _).setB ((a.put 0 _).put 1 _) (by decide) 2 _).setB (((a.put 0 _).put 1 _).put 2 _) (by decide) 3 _).setB ((((a.put 0 _).put 1 _).put 2 _).put 3 _) (by decide) 4 _).setB (((((a.put 0 _).put 1 _).put 2 _).put 3 _).put 4 _) (by decide) 5 _),Er ((Kp.trans kw m)) (by omega)⟩ (by simp[results,results119,go_sem,t,o,r,u,x,n])))

theorem VP.x0 {base:Nat}{w:World}{s:Bool}{p:Option Addr}{l c:Nat}{q:Option Addr}{k d:Nat}(h:VP base w s p l c q k d 0):XP base w s p l c q k d 0 1 100000:=by
 obtain⟨x,y,j,a,n⟩:=h
 obtain⟨b,f,o,m,g⟩:=n 1074 rfl
 refine⟨x,y,j,a,b,by decide, ?_,m,g⟩
 have i:x=0:=by
  rcases bS x with z|z
  ·exact z
  ·have:=aQ z (ah 1074)
   rw[f]at this
   simp at this
 rw[i];unfold fC;simp
def jW (i V:Int):Int:=if i=0 then eh V 0 else i
theorem pY (i V:Int)(C N:Nat)(hN:N<=100000) s p l c q k d (w:World)(h:XP 0 w s p l c q k d V C N):Calls prog 90 #[.agg #[.int .i64 i,.bool s,.slice p l c,.slice q k d]] w (RT (.int .i64 (jW i V)) w):=by
 unfold jW
 by_cases a:i=0
 ·rw[if_pos a,a]
  exact Ci (eh V 0) s p l c q k d w (fun W g=>vI s p l c q k d V C N hN 0 W (h.kp g))
 ·rw[if_neg a]
  exact Cj i s p l c q k d (by simpa using a) w
def jc (i V:Int)(C:Nat)(j V2:Int)(C2:Nat):Bd9:=if jW i V=0 then ⟨0,0,1,false⟩ else if j≠0 then ⟨0,0,1,true⟩ else if i≠0∨V2=0 then ⟨jW i V,0,1,true⟩ else ⟨0,V*(C2:Int),C*V2.natAbs,false⟩
theorem ir (i V:Int)(C N:Nat)(j V2:Int)(C2 N2:Nat)(hN:N+N2<=49000)(hV2:0<=V2) s p l c q k d s2 p2 l2 c2 q2 k2 d2 (w:World)(h1:XP 0 w s p l c q k d V C N)(h2:XP 0 w s2 p2 l2 c2 q2 k2 d2 V2 C2 N2):Calls prog 119 #[.agg #[.int .i64 i,.bool s,.slice p l c,.slice q k d],.agg #[.int .i64 j,.bool s2,.slice p2 l2 c2,.slice q2 k2 d2]] w fun e w'=>∃s5 p5 l5 c5 q5 k5 d5,e=.returned (.agg #[.int .i64 (jc i V C j V2 C2).i,.bool s5,.slice p5 l5 c5,.slice q5 k5 d5,.int .i64 1,.bool (jc i V C j V2 C2).o])∧XP 0 w' s5 p5 l5 c5 q5 k5 d5 (jc i V C j V2 C2).V (jc i V C j V2 C2).C 100000∧Kp w w':=by
 have a:=fun(W:World) (g:Kp w W)=>pY i V C N (by omega) s p l c q k d W (h1.kp g)
 unfold jc
 by_cases m:jW i V=0
 ·rw[if_pos m]
  exact(j8.1 i j _ s p l c q k d s2 p2 l2 c2 q2 k2 d2 w a (by simpa using m)).mono (fun e w' ⟨s5,p5,l5,c5,q5,k5,d5,q1,q2,q3⟩=>⟨s5,p5,l5,c5,q5,k5,d5,q1,q2.x0,q3⟩)
 ·have n:(jW i V == 0)=false:=by simpa using m
  rw[if_neg m]
  by_cases x:j≠0
  ·rw[if_pos x]
   exact(j8.2.1 i j _ s p l c q k d s2 p2 l2 c2 q2 k2 d2 w a n (by simpa using x)).mono (fun e w' ⟨s5,p5,l5,c5,q5,k5,d5,q1,q2,q3⟩=>⟨s5,p5,l5,c5,q5,k5,d5,q1,q2.x0,q3⟩)
  ·have B:j=0:=by omega
   have u:(j != 0)=false:=by simpa using B
   rw[if_neg x]
   have b:∀W:World,Kp w W->Calls prog 90 #[.agg #[.int .i64 j,.bool s2,.slice p2 l2 c2,.slice q2 k2 d2]] W (RT (.int .i64 (eh V2 0)) W):=fun W g=>by
    have h:=pY j V2 C2 N2 (by omega) s2 p2 l2 c2 q2 k2 d2 W (h2.kp g)
    unfold jW at h
    rw[if_pos B]at h
    exact h
   by_cases f:i≠0
   ·rw[if_pos (Or.inl f)]
    exact(j8.2.2.1 i j _ s p l c q k d s2 p2 l2 c2 q2 k2 d2 w a n u (by simpa using f)).mono (fun e w' ⟨s5,p5,l5,c5,q5,k5,d5,q1,q2,q3⟩=>⟨s5,p5,l5,c5,q5,k5,d5,q1,q2.x0,q3⟩)
   ·have A:(i != 0)=false:=by simpa using f
    by_cases t:V2=0
    ·rw[if_pos (Or.inr t)]
     have r:(eh V2 0 == 0)=true:=by rw[t];decide
     exact(j8.2.2.2.1 i j _ _ s p l c q k d s2 p2 l2 c2 q2 k2 d2 w a n u A b r).mono (fun e w' ⟨s5,p5,l5,c5,q5,k5,d5,q1,q2,q3⟩=>⟨s5,p5,l5,c5,q5,k5,d5,q1,q2.x0,q3⟩)
    ·rw[if_neg (by rintro(z|z);exact f z;exact t z)]
     have r:(eh V2 0 == 0)=false:=by rw[eK _ _ (by omega)];decide
     have E:V2=fC false V2.natAbs:=by unfold fC;rw[if_neg (by decide)];omega
     rw[E]at h2
     have y:=fun(W:World) (g:Kp w W)=>Ev V V2.natAbs false (by omega) C C2 N N2 (by omega) s p l c q k d s2 p2 l2 c2 q2 k2 d2 0 0 W (h1.kp g) (h2.kp g)
     have D:fC false 1*V*(C2:Int)=V*(C2:Int):=by unfold fC;simp
     rw[D]at y
     exact j8.2.2.2.2 i j _ _ s p l c q k d s2 p2 l2 c2 q2 k2 d2 w a n u A b r _ _ 100000 (fun W g=>(y W g).mono (fun e w' ⟨s3,p3,l3,c3,q3,k3,d3,y1,y2,y3⟩=>⟨s3,p3,l3,c3,q3,k3,d3,y1,(y2.mono (aW _)).as _ _ _ (by obtain⟨_,_,_,_,_,F,_⟩:=id y2;exact F) rfl (by omega),y3⟩))
set_option linter.all false

def Bd9.ng (A:Bd9):Bd9:=⟨-A.i,-A.V,A.C,A.o⟩
def Pc9.ng (P:Pc9):Pc9:=⟨P.em,P.B.ng,P.A.ng⟩
theorem tN (n9 oa ob:Bool)(ia ib Va Vb:Int)(Ca Cb:Nat)(wa:wrap64 (-ia) = -ia)(wb:wrap64 (-ib) = -ib) s p l c q k d s2 p2 l2 c2 q2 k2 d2 (w:World)(h1:XP 0 w s p l c q k d Va Ca 100000)(h2:XP 0 w s2 p2 l2 c2 q2 k2 d2 Vb Cb 100000)(hn1:∀W:World,Kp w W->Calls prog 75 #[.agg #[.bool s,.slice p l c,.slice q k d]] W fun e w'=>∃s5 p5 l5 c5 q5 k5 d5,e=.returned (.agg #[.bool s5,.slice p5 l5 c5,.slice q5 k5 d5])∧XP 0 w' s5 p5 l5 c5 q5 k5 d5 (-Va) Ca 100000∧Kp W w')(hn2:∀W:World,Kp w W->Calls prog 75 #[.agg #[.bool s2,.slice p2 l2 c2,.slice q2 k2 d2]] W fun e w'=>∃s6 p6 l6 c6 q6 k6 d6,e=.returned (.agg #[.bool s6,.slice p6 l6 c6,.slice q6 k6 d6])∧XP 0 w' s6 p6 l6 c6 q6 k6 d6 (-Vb) Cb 100000∧Kp W w'):Calls prog 56 #[.agg #[.bool n9,.int .i64 ia,.bool s,.slice p l c,.slice q k d,.int .i64 1,.bool oa,.int .i64 ib,.bool s2,.slice p2 l2 c2,.slice q2 k2 d2,.int .i64 1,.bool ob]] w fun e w'=>∃(s5:Bool)(p5:Option Addr)(l5 c5:Nat)(q5:Option Addr)(k5 d5:Nat)(s6:Bool)(p6:Option Addr)(l6 c6:Nat)(q6:Option Addr)(k6 d6:Nat),e=.returned (.agg #[.bool n9,.int .i64 (-ib),.bool s6,.slice p6 l6 c6,.slice q6 k6 d6,.int .i64 1,.bool ob,.int .i64 (-ia),.bool s5,.slice p5 l5 c5,.slice q5 k5 d5,.int .i64 1,.bool oa])∧XP 0 w' s5 p5 l5 c5 q5 k5 d5 (-Va) Ca 100000∧XP 0 w' s6 p6 l6 c6 q6 k6 d6 (-Vb) Cb 100000∧Kp w w':=by
 go_enter func56,ntmps56
 go_upto_region 3 with fail
 obtain⟨W,a,kw,hP,hR,hA,hB⟩:=Et w #[.bool n9,.int .i64 ia,.bool s,.slice p l c,.slice q k d,.int .i64 1,.bool oa,.int .i64 ib,.bool s2,.slice p2 l2 c2,.slice q2 k2 d2,.int .i64 1,.bool ob] 61 #[.bool false,.int .i64 0,.bool false,.slice none 0 0,.slice none 0 0,.int .i64 0,.bool false,.int .i64 0,.bool false,.slice none 0 0,.slice none 0 0,.int .i64 0,.bool false] 61 #[.int .i64 ia,.bool s,.slice p l c,.slice q k d,.int .i64 1,.bool oa] 59 #[.int .i64 ib,.bool s2,.slice p2 l2 c2,.slice q2 k2 d2,.int .i64 1,.bool ob] 59
 rw[<-a];clear a
 obtain⟨C,A,D,t,L,m,E,r,J,g,K,f⟩:=hA.c6;obtain⟨F,i,N,j,G,u,I,n,H,o,M,h⟩:=hB.c6;skip
 go_upto_region 5 with fail
 have z:w.heap.size+2≠w.heap.size+3:=by omega
 have y:w.heap.size+3≠w.heap.size+2:=by omega
 obtain⟨W5,a⟩:=aA ((W.setCell ⟨w.heap.size+2,0,none⟩ (.int .i64 (-ia))).setCell ⟨w.heap.size+3,0,none⟩ (.int .i64 (-ib)))
 have Q:Kp w W5:=by subst a;exact(kw.setCell (p:=⟨w.heap.size+2,0,none⟩) (by simp<;>omega) (.int .i64 (-ia))).setCell (p:=⟨w.heap.size+3,0,none⟩) (by simp<;>omega) (.int .i64 (-ib))
 have k5:∀(x:Nat)(hx:x<w.heap.size),True:=fun _ _=>trivial
 have O:BK W5 (w.heap.size+2) #[.int .i64 (-ia),.bool s,.slice p l c,.slice q k d,.int .i64 1,.bool oa] 59:=by subst a;exact(hA.put 0 (.int .i64 (-ia))).far ⟨w.heap.size+3,0,none⟩ (.int .i64 (-ib)) y
 have Z:BK W5 (w.heap.size+3) #[.int .i64 (-ib),.bool s2,.slice p2 l2 c2,.slice q2 k2 d2,.int .i64 1,.bool ob] 59:=by subst a;exact(hB.far ⟨w.heap.size+2,0,none⟩ (.int .i64 (-ia)) z).put 0 (.int .i64 (-ib))
 have a7:BK W5 w.heap.size #[.bool n9,.int .i64 ia,.bool s,.slice p l c,.slice q k d,.int .i64 1,.bool oa,.int .i64 ib,.bool s2,.slice p2 l2 c2,.slice q2 k2 d2,.int .i64 1,.bool ob] 61:=by subst a;exact(hP.far ⟨w.heap.size+2,0,none⟩ (.int .i64 (-ia)) (by simp<;>omega)).far ⟨w.heap.size+3,0,none⟩ (.int .i64 (-ib)) (by simp<;>omega)
 have bb:BK W5 (w.heap.size+1) #[.bool false,.int .i64 0,.bool false,.slice none 0 0,.slice none 0 0,.int .i64 0,.bool false,.int .i64 0,.bool false,.slice none 0 0,.slice none 0 0,.int .i64 0,.bool false] 61:=by subst a;exact(hR.far ⟨w.heap.size+2,0,none⟩ (.int .i64 (-ia)) (by simp<;>omega)).far ⟨w.heap.size+3,0,none⟩ (.int .i64 (-ib)) (by simp<;>omega)
 clear k5 C A D t L m E r J g K f F i N j G u I n H o M h hP hR hA hB kw
 rw[<-a];clear a
 obtain⟨C,A,D,t,L,m,E,r,J,g,K,f⟩:=O.c6;skip
 go_upto_region 6 with(first|(go_at_call 75;refine(hn1 _ Q).mono ?_;rintro e wA ⟨s5,p5,l5,c5,q5,k5,d5,rfl,bc,X⟩;have B:=O.kp X;obtain⟨bA,Y,ck,a6,bv,ba,bm,ab,bt,ar,b1,an⟩:=B.c6;skip))
 obtain⟨V,a⟩:=aA (((wA.setCell ⟨w.heap.size+2,1,none⟩ (.bool s5)).setCell ⟨w.heap.size+2,2,none⟩ (.slice p5 l5 c5)).setCell ⟨w.heap.size+2,3,none⟩ (.slice q5 k5 d5))
 have P:Kp w V:=by subst a;exact(((Kp.trans Q X).setCell (p:=⟨w.heap.size+2,1,none⟩) (by simp<;>omega) (.bool s5)).setCell (p:=⟨w.heap.size+2,2,none⟩) (by simp<;>omega) (.slice p5 l5 c5)).setCell (p:=⟨w.heap.size+2,3,none⟩) (by simp<;>omega) (.slice q5 k5 d5)
 have ad:BK V (w.heap.size+2) #[.int .i64 (-ia),.bool s5,.slice p5 l5 c5,.slice q5 k5 d5,.int .i64 1,.bool oa] 59:=by subst a;exact((B.put 1 (.bool s5)).put 2 (.slice p5 l5 c5)).put 3 (.slice q5 k5 d5)
 have a5:XP 0 V s5 p5 l5 c5 q5 k5 d5 (-Va) Ca 100000:=by subst a;exact((bc.setB B (by decide) 1 (.bool s5)).setB (B.put 1 (.bool s5)) (by decide) 2 (.slice p5 l5 c5)).setB ((B.put 1 (.bool s5)).put 2 (.slice p5 l5 c5)) (by decide) 3 (.slice q5 k5 d5)
 have R:BK V (w.heap.size+3) #[.int .i64 (-ib),.bool s2,.slice p2 l2 c2,.slice q2 k2 d2,.int .i64 1,.bool ob] 59:=by subst a;exact(((Z.kp X).far ⟨w.heap.size+2,1,none⟩ (.bool s5) z).far ⟨w.heap.size+2,2,none⟩ (.slice p5 l5 c5) z).far ⟨w.heap.size+2,3,none⟩ (.slice q5 k5 d5) z
 have bl:BK V w.heap.size #[.bool n9,.int .i64 ia,.bool s,.slice p l c,.slice q k d,.int .i64 1,.bool oa,.int .i64 ib,.bool s2,.slice p2 l2 c2,.slice q2 k2 d2,.int .i64 1,.bool ob] 61:=by subst a;exact(((a7.kp X).far ⟨w.heap.size+2,1,none⟩ (.bool s5) (by simp<;>omega)).far ⟨w.heap.size+2,2,none⟩ (.slice p5 l5 c5) (by simp<;>omega)).far ⟨w.heap.size+2,3,none⟩ (.slice q5 k5 d5) (by simp<;>omega)
 have a4:BK V (w.heap.size+1) #[.bool false,.int .i64 0,.bool false,.slice none 0 0,.slice none 0 0,.int .i64 0,.bool false,.int .i64 0,.bool false,.slice none 0 0,.slice none 0 0,.int .i64 0,.bool false] 61:=by subst a;exact(((bb.kp X).far ⟨w.heap.size+2,1,none⟩ (.bool s5) (by simp<;>omega)).far ⟨w.heap.size+2,2,none⟩ (.slice p5 l5 c5) (by simp<;>omega)).far ⟨w.heap.size+2,3,none⟩ (.slice q5 k5 d5) (by simp<;>omega)
 clear C A bA Y D t ck a6 L m bv ba E r bm ab J g bt ar K f b1 an O Z a7 bb bc B Q X
 rw[<-a];clear a
 obtain⟨F,i,N,j,G,u,I,n,H,o,M,h⟩:=R.c6;skip
 go_upto_region 7 with(first|(go_at_call 75;refine(hn2 _ P).mono ?_;rintro e wB ⟨s6,p6,l6,c6,q6,k6,d6,rfl,aa,T⟩;have b:=R.kp T;obtain⟨bp,a3,b9,a8,cg,a2,bB,a1,b2,a0,cl,a9⟩:=b.c6;skip))
 obtain⟨U,a⟩:=aA (((wB.setCell ⟨w.heap.size+3,1,none⟩ (.bool s6)).setCell ⟨w.heap.size+3,2,none⟩ (.slice p6 l6 c6)).setCell ⟨w.heap.size+3,3,none⟩ (.slice q6 k6 d6))
 have cd:Kp w U:=by subst a;exact(((Kp.trans P T).setCell (p:=⟨w.heap.size+3,1,none⟩) (by simp<;>omega) (.bool s6)).setCell (p:=⟨w.heap.size+3,2,none⟩) (by simp<;>omega) (.slice p6 l6 c6)).setCell (p:=⟨w.heap.size+3,3,none⟩) (by simp<;>omega) (.slice q6 k6 d6)
 have cb:BK U (w.heap.size+3) #[.int .i64 (-ib),.bool s6,.slice p6 l6 c6,.slice q6 k6 d6,.int .i64 1,.bool ob] 59:=by subst a;exact((b.put 1 (.bool s6)).put 2 (.slice p6 l6 c6)).put 3 (.slice q6 k6 d6)
 have b4:XP 0 U s6 p6 l6 c6 q6 k6 d6 (-Vb) Cb 100000:=by subst a;exact((aa.setB b (by decide) 1 (.bool s6)).setB (b.put 1 (.bool s6)) (by decide) 2 (.slice p6 l6 c6)).setB ((b.put 1 (.bool s6)).put 2 (.slice p6 l6 c6)) (by decide) 3 (.slice q6 k6 d6)
 have cj:XP 0 U s5 p5 l5 c5 q5 k5 d5 (-Va) Ca 100000:=by subst a;exact(((a5.kp T).setB b (by decide) 1 (.bool s6)).setB (b.put 1 (.bool s6)) (by decide) 2 (.slice p6 l6 c6)).setB ((b.put 1 (.bool s6)).put 2 (.slice p6 l6 c6)) (by decide) 3 (.slice q6 k6 d6)
 have bq:BK U (w.heap.size+2) #[.int .i64 (-ia),.bool s5,.slice p5 l5 c5,.slice q5 k5 d5,.int .i64 1,.bool oa] 59:=by subst a;exact(((ad.kp T).far ⟨w.heap.size+3,1,none⟩ (.bool s6) y).far ⟨w.heap.size+3,2,none⟩ (.slice p6 l6 c6) y).far ⟨w.heap.size+3,3,none⟩ (.slice q6 k6 d6) y
 have br:BK U w.heap.size #[.bool n9,.int .i64 ia,.bool s,.slice p l c,.slice q k d,.int .i64 1,.bool oa,.int .i64 ib,.bool s2,.slice p2 l2 c2,.slice q2 k2 d2,.int .i64 1,.bool ob] 61:=by subst a;exact(((bl.kp T).far ⟨w.heap.size+3,1,none⟩ (.bool s6) (by simp<;>omega)).far ⟨w.heap.size+3,2,none⟩ (.slice p6 l6 c6) (by simp<;>omega)).far ⟨w.heap.size+3,3,none⟩ (.slice q6 k6 d6) (by simp<;>omega)
 have S:BK U (w.heap.size+1) #[.bool false,.int .i64 0,.bool false,.slice none 0 0,.slice none 0 0,.int .i64 0,.bool false,.int .i64 0,.bool false,.slice none 0 0,.slice none 0 0,.int .i64 0,.bool false] 61:=by subst a;exact(((a4.kp T).far ⟨w.heap.size+3,1,none⟩ (.bool s6) (by simp<;>omega)).far ⟨w.heap.size+3,2,none⟩ (.slice p6 l6 c6) (by simp<;>omega)).far ⟨w.heap.size+3,3,none⟩ (.slice q6 k6 d6) (by simp<;>omega)
 clear F i bp a3 N j b9 a8 G u cg a2 I n bB a1 H o b2 a0 M h cl a9 ad R bl a4 aa a5 b P T
 rw[<-a];clear a
 obtain⟨C,A,D,t,L,m,E,r,J,g,K,f⟩:=bq.c6;obtain⟨F,i,N,j,G,u,I,n,H,o,M,h⟩:=cb.c6;obtain⟨df,c0,dm,cL,de,cq,dp,cE,db,cz,dd,cy,dn,cv,dk,co,dc,cR,da,cn,c8,bu,cu,ca,cD,b0⟩:=br.c13;obtain⟨bE,cU,ch,ct,bX,cN,b5,cV,b3,cx,cf,cs,bH,c7,cc,cp,ci,cr,bR,cH,au,bo,bf,ce,aj,bL⟩:=S.c13;skip
 go_wp2
 exact BR (v:=.agg #[.bool n9,.int .i64 (-ib),.bool s6,.slice p6 l6 c6,.slice q6 k6 d6,.int .i64 1,.bool ob,.int .i64 (-ia),.bool s5,.slice p5 l5 c5,.slice q5 k5 d5,.int .i64 1,.bool oa]) ⟨s5,p5,l5,c5,q5,k5,d5,s6,p6,l6,c6,q6,k6,d6,rfl,(cj.s13 S (by decide)),(b4.s13 S (by decide)),sM (cd) (by omega)⟩ (by simp[results,results56,go_sem,bE,ch,bX,b5,b3,cf,bH,cc,ci,bR,au,bf,aj])
end Go.Proofs.YtmpjcknaelgnoaaGreatDoor
