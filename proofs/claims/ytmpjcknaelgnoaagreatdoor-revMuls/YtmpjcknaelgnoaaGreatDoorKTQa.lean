import Derived.Test.YtmpjcknaelgnoaaGreatDoorKZC
set_option maxHeartbeats 1000000
set_option maxRecDepth 20000
namespace Go.Proofs.YtmpjcknaelgnoaaGreatDoor
open Go.RowKit Tryz
theorem Cq (sa sb:Bool)(a1 a2 b1 b2:Nat)(P1 P2 Q1 Q2:Option Addr)(C1 C2 D1 D2:Nat)(w:World)(h1:Arr w P1 (az a1))(l1:(az a1).length<=C1)(h2:Arr w P2 (az a2))(l2:(az a2).length<=C2)(h3:Arr w Q1 (az b1))(l3:(az b1).length<=D1)(h4:Arr w Q2 (az b2))(l4:(az b2).length<=D2)(k1:aS a1<=4000)(k2:aS a2<=4000)(k3:aS b1<=4000)(k4:aS b2<=4000)(z2:a2≠0)(z4:b1≠0)(X D:Nat)(hX:X=a1*b2)(hD:D=a2*b1)(lX:aS X<=16000)(lD:aS D<=16000) :
  Calls prog 159 #[.agg #[.bool sa,.slice P1 (az a1).length C1,.slice P2 (az a2).length C2],.agg #[.bool sb,.slice Q1 (az b1).length D1,.slice Q2 (az b2).length D2]] w fun e w'=>∃(vn vd:Value)(a' b':Nat)(ng:Bool),e=.returned (.agg #[.bool ng,vn,vd])∧Own w' w.heap.size vn (az a')∧Own w' w.heap.size vd (az b')∧(fJ X D 0 a' b'∧(X≠0->ng=(sa ^^ sb)))∧Kp w w':=by
 have hz:D≠0:=by rw[hD];exact fF z2 z4
 obtain⟨P,g1⟩:=aA ((az a1).length)
 obtain⟨J,g2⟩:=aA ((az a2).length)
 obtain⟨I,g3⟩:=aA ((az b1).length)
 obtain⟨L,g4⟩:=aA ((az b2).length)
 rw[<-g1,<-g2,<-g3,<-g4]
 obtain⟨B,O⟩:=aA w.heap.size
 obtain⟨K,j⟩:=aA (w.alloc (.cells #[.bool sa,.slice P1 P C1,.slice P2 J C2] 57))
 obtain⟨a,l⟩:=aA (K.alloc (.cells #[.bool sb,.slice Q1 I D1,.slice Q2 L D2] 57))
 obtain⟨b,n⟩:=aA (a.alloc (.cells #[.bool false,.slice none 0 0,.slice none 0 0] 57))
 have sA:K.heap.size=B+1:=by rw[j,O];simp
 have sB:a.heap.size=B+2:=by rw[l];simp[sA]
 have o:Kp K a:=by rw[l];exact(Kp.refl K).alloc _
 have x0:a.cell? ⟨B,0,none⟩=some (.bool sa):=ac o (by rw[j,O];simp[go_sem])
 have x1:a.cell? ⟨B,1,none⟩=some (.slice P1 P C1):=ac o (by rw[j,O];simp[go_sem])
 have x2:a.cell? ⟨B,2,none⟩=some (.slice P2 J C2):=ac o (by rw[j,O];simp[go_sem])
 obtain⟨y0,y1,y2⟩:a.cell? ⟨B+1,0,none⟩=some (.bool sb)∧a.cell? ⟨B+1,1,none⟩=some (.slice Q1 I D1)∧a.cell? ⟨B+1,2,none⟩=some (.slice Q2 L D2):=by rw[l,<-sA];simp[go_sem]
 obtain⟨r0,r1,r2,f0,f1,f2⟩:b.cell? ⟨B+2,0,none⟩=some (.bool false)∧b.cell? ⟨B+2,1,none⟩=some (.slice none 0 0)∧b.cell? ⟨B+2,2,none⟩=some (.slice none 0 0)∧b.frozen? ⟨B+2,0,none⟩=false∧b.frozen? ⟨B+2,1,none⟩=false∧b.frozen? ⟨B+2,2,none⟩=false:=by rw[n,<-sB];simp[go_sem]
 have Q:Kp w b:=by rw[n,l,j];exact(((Kp.refl w).alloc _).alloc _).alloc _
 have H:Kp a b:=by rw[n];exact(Kp.refl a).alloc _
 have kD:Kp a b.drew:=H.drew
 have R:a.heap.size<=(⟨B+2,0,none⟩:Addr).block:=by simp only;omega
 have u:=be r0
 have t:Hid (∀W:World,Kp b W->Calls prog 135 #[.slice P1 P C1,.slice Q2 L D2] W fun e w'=>∃p c,e=.returned (.slice p (az X).length c)∧Arr w' p (az X)∧(az X).length<=c∧Kp W w'):=by
  show ∀W:World,Kp b W->Calls prog 135 #[.slice P1 P C1,.slice Q2 L D2] W fun e w'=>∃p c,e=.returned (.slice p (az X).length c)∧Arr w' p (az X)∧(az X).length<=c∧Kp W w'
  intro W k
  rw[hX];exact oz _ _ a1 b2 W ⟨P1,C1,by rw[g1],h1.grown (Q.trans k),l1⟩ ⟨Q2,D2,by rw[g4],h4.grown (Q.trans k),l4⟩ (by omega) (by omega)
 have x:Hid (∀W:World,Kp b W->Calls prog 135 #[.slice P2 J C2,.slice Q1 I D1] W fun e w'=>∃p c,e=.returned (.slice p (az D).length c)∧Arr w' p (az D)∧(az D).length<=c∧Kp W w'):=by
  show ∀W:World,Kp b W->Calls prog 135 #[.slice P2 J C2,.slice Q1 I D1] W fun e w'=>∃p c,e=.returned (.slice p (az D).length c)∧Arr w' p (az D)∧(az D).length<=c∧Kp W w'
  intro W k
  rw[hD];exact oz _ _ a2 b1 W ⟨P2,C2,by rw[g2],h2.grown (Q.trans k),l2⟩ ⟨Q1,D1,by rw[g3],h3.grown (Q.trans k),l3⟩ (by omega) (by omega)
 obtain⟨NX,G⟩:=aA ((az X).length)
 obtain⟨ND,y⟩:=aA ((az D).length)
 obtain⟨r,m⟩:=aA (sa ^^ sb)
 have bu:(sa != sb)=r:=by rw[m]
 have bL:(!decide (sa=sb))=r:=by rw[m];cases sa<;>cases sb<;>rfl
 have bn:(!(sa == sb))=r:=by rw[m];cases sa<;>cases sb<;>rfl
 have F:Hid (∀(p:Option Addr)(c:Nat)(q:Option Addr)(d:Nat)(W:World),Kp b W->Arr W p (az X)->(az X).length<=c->Arr W q (az D)->(az D).length<=d->Calls prog 132 #[.bool r,.slice p (az X).length c,.slice q (az D).length d,.int .i64 0] W fun e w'=>∃(vn vd:Value)(a' b':Nat)(ng:Bool),e=.returned (.agg #[.bool ng,vn,vd])∧Own w' W.heap.size vn (az a')∧Own w' W.heap.size vd (az b')∧(fJ X D 0 a' b'∧(X≠0->ng=r))∧Kp W w'):=by
  show ∀(p:Option Addr)(c:Nat)(q:Option Addr)(d:Nat)(W:World),Kp b W->Arr W p (az X)->(az X).length<=c->Arr W q (az D)->(az D).length<=d->Calls prog 132 #[.bool r,.slice p (az X).length c,.slice q (az D).length d,.int .i64 0] W fun e w'=>∃(vn vd:Value)(a' b':Nat)(ng:Bool),e=.returned (.agg #[.bool ng,vn,vd])∧Own w' W.heap.size vn (az a')∧Own w' W.heap.size vd (az b')∧(fJ X D 0 a' b'∧(X≠0->ng=r))∧Kp W w'
  intro p c q d W kk ar ll bm a5
  have g:=tW r (.slice p (az X).length c) (.slice q (az D).length d) (az X) (az D) 0 W ⟨p,c,rfl,ar,ll⟩ ⟨q,d,rfl,bm,a5⟩ (bC _) (bC _) (by change aS _<=_;omega) (by change aS _<=_;omega) (by rw[aV];exact hz) (by decide)
  rw[aV,aV]at g
  exact g
 rw[<-G,<-y]at F
 rw[<-G]at t
 rw[<-y]at x
 rw[<-m]
 have s:Hid (b=a.alloc (.cells #[.bool false,.slice none 0 0,.slice none 0 0] 57)∧a=K.alloc (.cells #[.bool sb,.slice Q1 I D1,.slice Q2 L D2] 57)∧K=w.alloc (.cells #[.bool sa,.slice P1 P C1,.slice P2 J C2] 57)∧B=w.heap.size∧Kp w b):=⟨n,l,j,O,Q⟩
 clear G y m n l j O sA sB Q o h1 l1 h2 l2 h3 l3 h4 l4 k1 k2 k3 k4 z2 z4 hX hD hz lX lD g1 g2 g3 g4
 go_enter func159,ntmps159
 go_upto_region 1 with fail
 rw[<-s.out.2.2.2.1]
 try rw[<-s.out.2.2.1]
 try rw[<-s.out.2.1]
 try rw[<-s.out.1]
 go_region_held3 (fun w'=>w'.cell? ⟨B,0,none⟩=some (.bool sa)∧w'.cell? ⟨B,1,none⟩=some (.slice P1 P C1)∧w'.cell? ⟨B,2,none⟩=some (.slice P2 J C2)∧w'.cell? ⟨B+1,0,none⟩=some (.bool sb)∧w'.cell? ⟨B+1,1,none⟩=some (.slice Q1 I D1)∧w'.cell? ⟨B+1,2,none⟩=some (.slice Q2 L D2)) (refine⟨ac (W:=a) ?_ x0,ac (W:=a) ?_ x1,ac (W:=a) ?_ x2,ac (W:=a) ?_ y0,ac (W:=a) ?_ y1,ac (W:=a) ?_ y2⟩<;>((repeat(first|with_reducible exact kC|with_reducible exact kB|with_reducible exact kA|with_reducible exact H|with_reducible exact kD|with_reducible exact Kp.refl _|with_reducible refine Kp.drew ?_|refine Kp.setCell ?_ R _));done)) (first|(go_at_call 132;have hh:=C;refine(F.out pp cc pq cq _ ?Z ?q2 T ?q3 Y).mono ?_;(case Z=>((repeat(first|with_reducible exact f|with_reducible exact i|with_reducible exact Kp.refl _|with_reducible refine Kp.drew ?_));done));(case q2=>exact A.grown z);(case q3=>exact C);rintro e M ⟨vn,vd,a',b',ng,rfl,o1,o2,ff,U⟩;have h:Kp b M:=Kp.trans ?q4 U;(case q4=>((repeat(first|with_reducible exact f|with_reducible exact i|with_reducible exact Kp.refl _|with_reducible refine Kp.drew ?_));done));have kC:Kp a M:=H.trans h;obtain⟨pn,cn,rfl,an,ln⟩:=o1.arr;obtain⟨pd,cd,rfl,ad,ld⟩:=o2.arr;have R0:=ac h r0;have R1:=ac h r1;have R2:=ac h r2;have F0:=(dC h u).trans f0;have F1:=(dC h u).trans f1;have F2:=(dC h u).trans f2)|(go_at_call 135;have hh:=A;refine(x.out _ ?q5).mono ?_;(case q5=>((repeat(first|with_reducible exact f|with_reducible exact i|with_reducible exact Kp.refl _|with_reducible refine Kp.drew ?_));done));rintro e v2 ⟨pq,cq,rfl,C,Y,z⟩;have f:Kp b v2:=Kp.trans ?q7 z;(case q7=>((repeat(first|with_reducible exact f|with_reducible exact i|with_reducible exact Kp.refl _|with_reducible refine Kp.drew ?_));done));have kB:Kp a v2:=H.trans f)|(go_at_call 135;refine(t.out _ ?q8).mono ?_;(case q8=>((repeat(first|with_reducible exact f|with_reducible exact i|with_reducible exact Kp.refl _|with_reducible refine Kp.drew ?_));done));rintro e v1 ⟨pp,cc,rfl,A,T,V⟩;have i:Kp b v1:=Kp.trans ?q10 V;(case q10=>((repeat(first|with_reducible exact f|with_reducible exact i|with_reducible exact Kp.refl _|with_reducible refine Kp.drew ?_));done));have kA:Kp a v1:=H.trans i))
 have a6:=Below.size f
 obtain⟨N,E⟩:=aA (((M.setCell ⟨B+2,0,none⟩ (.bool ng)).setCell ⟨B+2,1,none⟩ (.slice pn (az a').length cn)).setCell ⟨B+2,2,none⟩ (.slice pd (az b').length cd))
 have kb:Kb (B+2) M N:=by rw[E];exact(((Kb.refl (B+2) M).setCell 0 _).setCell 1 _).setCell 2 _
 have O1:=o1.kb kb (fun g hg=>by have:=o1.lt g hg;omega)
 have O2:=o2.kb kb (fun g hg=>by have:=o2.lt g hg;omega)
 have S:Kp w N:=kb.kp (s.out.2.2.2.2.trans h) (by rw[s.out.2.2.2.1];omega)
 have HO:Hid (Own N w.heap.size (.slice pn (az a').length cn) (az a')∧Own N w.heap.size (.slice pd (az b').length cd) (az b')∧(fJ X D 0 a' b'∧(X≠0->ng=r))∧Kp w N∧N=((M.setCell ⟨B+2,0,none⟩ (.bool ng)).setCell ⟨B+2,1,none⟩ (.slice pn (az a').length cn)).setCell ⟨B+2,2,none⟩ (.slice pd (az b').length cd)):=⟨O1.mono (by have e9:=s.out.2.2.2.1;first|omega|exact aT (show w.heap.size<=v1.heap.size by omega) (ao _)),O2.mono (by have e9:=s.out.2.2.2.1;first|omega|exact aT (show w.heap.size<=v1.heap.size by omega) (ao _)),ff,S,E⟩
 clear a6 E kb O1 O2 S o1 o2 ff U h kC an ln ad ld f z kB C Y i V kA A T t x F H kD R
 go_wp2
 obtain⟨Z,q2,q3,q4,q5⟩:=HO.out
 rw[q5]at Z q2 q4
 exact BR ⟨_,_,a',b',ng,rfl,Z,q2,q3,q4⟩ (by simp[results,results159,go_sem,R0,R1,R2])
end Go.Proofs.YtmpjcknaelgnoaaGreatDoor
