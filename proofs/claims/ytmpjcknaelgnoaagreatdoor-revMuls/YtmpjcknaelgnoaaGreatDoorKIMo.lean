import Derived.Test.YtmpjcknaelgnoaaGreatDoorKRVp
import Derived.Test.YtmpjcknaelgnoaaGreatDoorKTQa
set_option maxHeartbeats 2000000
set_option maxRecDepth 20000
namespace Go.Proofs.YtmpjcknaelgnoaaGreatDoor
open Go.RowKit Tryz
theorem Ev (V:Int)(U:Nat)(t:Bool)(hU:U≠0)(C C' N N':Nat)(hN:N+N'<=100000) s p l c q k d s2 p2 l2 c2 q2 k2 d2 (B1 B2:Nat)(w:World)(h1:XP B1 w s p l c q k d V C N)(h2:XP B2 w s2 p2 l2 c2 q2 k2 d2 (fC t U) C' N'):Calls prog 159 #[.agg #[.bool s,.slice p l c,.slice q k d],.agg #[.bool s2,.slice p2 l2 c2,.slice q2 k2 d2]] w fun e w'=>∃s3 p3 l3 c3 q3 k3 d3,e=.returned (.agg #[.bool s3,.slice p3 l3 c3,.slice q3 k3 d3])∧XP w.heap.size w' s3 p3 l3 c3 q3 k3 d3 (fC t 1*V*(C':Int)) (C*U) (2*(N+N')+3)∧Kp w w':=by
 obtain⟨o,n,R,Z,f⟩:=h1
 obtain⟨b,a,v1,v2,r⟩:=h2
 obtain⟨P1,C1,e1,L,y1⟩:=R.arr
 obtain⟨Y,Q,O,x2,y2⟩:=Z.arr
 obtain⟨P,D1,W,x3,y3⟩:=v1.arr
 obtain⟨M,S,e4,x4,y4⟩:=v2.arr
 rw[e1,O,W,e4]
 obtain⟨X,x⟩:=aA (o*a)
 obtain⟨D,m⟩:=aA (n*b)
 have B:=f.2.2.2.1
 have u:=f.2.2.2.2
 have A:=r.2.2.2.1
 have F:=r.2.2.2.2
 have bX:aq X<=N+N':=by rw[x];exact nX _ _ _ _ B F
 have bD:aq D<=N+N':=by rw[m];exact nX _ _ _ _ u A
 have K:b≠0:=by
  intro z
  obtain⟨j,g2,E,-,-⟩:=r
  rw[z]at E
  have q1:(U:Int)*(a:Int)≠0:=by have:(0:Int)<(U:Int)*(a:Int):=dj (by omega) (by omega);omega
  unfold fC at E
  cases s2<;>cases t<;>simp[bF]at E<;>omega
 have y:D≠0:=by rw[m];exact fF f.1 K
 refine(Cq s s2 o n b a P1 Y P M C1 Q D1 S w L y1 x2 y2 x3 y3 x4 y4 (dZ o 4000 (by omega)) (dZ n 4000 (by omega)) (dZ b 4000 (by omega)) (dZ a 4000 (by omega)) f.1 K X D x m (dZ X 16000 (by omega)) (dZ D 16000 (by omega))).mono ?_
 rintro e w' ⟨vn,vd,H,G,ng,rfl,I,J,⟨i,T⟩,g⟩
 obtain⟨p3,c3,rfl,-,-⟩:=I.arr
 obtain⟨q3,d3,rfl,-,-⟩:=J.arr
 exact⟨ng,p3,_,c3,q3,_,d3,rfl,⟨H,G,I,J,XF.quo s s2 ng o n b a H G V U t C C' N N' _ f r hU i.1 (by have h:=DK X D H G ng _ y i T;rw[x]at h;rw[m,aK]at h;exact h) (by have j:=i.2.2.2.1;simp at j;omega) (by have j:=i.2.2.2.2;simp at j;omega)⟩,g⟩
set_option linter.all false
theorem zl (d:Int)(ng neg:Bool)(x D a b A B:Nat)(hD:D≠0)(hB:B≠0)(hF:fJ x D 0 a b)(hg:x≠0->ng=neg)(hx:x*B=A*D):mE 53 1074 2098 9218868437227405311 0 d ng a b=iO d neg A B:=by
 have h:=qk d ng neg x D a b 0 hF hg 1074 rfl
 rw[h]
 unfold iO
 by_cases c:x=0
 ·have g:A=0:=by
   rw[c,aM]at hx
   rcases Nat.mul_eq_zero.1 hx.symm with f|f
   ·exact f
   ·exact absurd f hD
  rw[if_pos c,if_pos g]
 ·have g:A≠0:=fun f=>by
   rw[f,aM]at hx
   rcases Nat.mul_eq_zero.1 hx with i|i
   ·exact c i
   ·exact hB i
  rw[if_neg c,if_neg g,mG _ _ x D A B _ (by omega) (by omega) hx]
  rfl

theorem AE (K:Nat)(hK:K=1074)(d:Int)(n:Bool)(P B:Nat):iO d n P B=pz (gE d (2^K) B (if n then -((P:Nat):Int) else ((P:Nat):Int))):=by
 unfold iO gE uY
 rw[show(1074:Int)=(K:Int)from by omega]
 by_cases z:P=0
 ·rw[if_pos z,z,if_pos (by cases n<;>rfl)];rfl
 ·rw[if_neg z,if_neg (by cases n<;>simp<;>omega),oT,wQ]
  cases n
  ·simp only[Bool.false_eq_true,if_false]
   rw[if_neg (show ¬((P:Nat):Int)<0 by omega),show((P:Nat):Int).natAbs=P from by omega]
  ·simp only[if_true]
   rw[if_pos (show -((P:Nat):Int)<0 by omega),show(-((P:Nat):Int)).natAbs=P from by omega]
theorem XP.qv {base:Nat}{w:World}{s:Bool}{p:Option Addr}{l c:Nat}{q:Option Addr}{k d:Nat}{V:Int}{C N:Nat}{K:Nat}(hK:K=1074)(hN:N<=4194304)(h:XP base w s p l c q k d V C N):QP base w s p l c q k d (fun dd=>pz (gE dd (2^K) C V)):=by
 obtain⟨a,b,u,n,g,r,f,z,y⟩:=h
 refine⟨a,b,u,n,g,by omega,by omega,fun dd=>?_⟩
 show _=pz (gE dd (2^K) C V)
 have m:(0:Int)<(C:Int):=by omega
 have j:(0:Int)<(b:Int):=by omega
 have e:=AE K hK dd (decide (V<0)) V.natAbs C
 rw[show(if decide (V<0)=true then -((V.natAbs:Nat):Int) else ((V.natAbs:Nat):Int))=V from by
  by_cases v:V<0
  ·rw[if_pos (af v)];omega
  ·rw[if_neg (by simpa using v)];omega]at e
 rw[<-e]
 refine zl dd s (decide (V<0)) a b a b V.natAbs C g r ⟨g,Iff.rfl,fun d' p' t' _=>by rw[Int.add_zero],by omega,by omega⟩ (fun hx=>?_) ?_
 ·have t:(0:Int)<(a:Int):=by omega
  have x:=dj t m
  unfold fC at f
  cases s
  ·rw[if_neg (by decide)]at f
   refine(ae (fun i=>?_)).symm
   have o:=bQ i j
   omega
  ·rw[if_pos rfl,bF]at f
   refine(af ?_).symm
   by_cases i:V<0
   ·exact i
   ·have o:=b8 (show 0<=V by omega) (bT j)
    omega
 ·have k:=congrArg Int.natAbs f
  rw[bI,bI,aU,aU,show(fC s a).natAbs=a from by unfold fC;cases s<;>simp]at k
  exact k
theorem nQ (d:Int)(c1 c2 k:Nat)(hc:0<c2)(hk:0<k)(V:Int):gE d c1 (c2*k) (V*(k:Int))=gE d c1 c2 V:=by
 unfold gE uY
 by_cases z:V=0
 ·rw[z,bV,if_pos rfl,if_pos rfl]
 have e:∀s:Int,rU s 53 ((V*(k:Int)).natAbs*c1) (c2*k)=rU s 53 (V.natAbs*c1) c2:=fun s=>by
  have b:(V*(k:Int)).natAbs=V.natAbs*k:=by rw[bI,aU]
  rw[b]
  have q:V.natAbs*k*c1*c2=V.natAbs*c1*(c2*k):=by
   rw[ak,ak,ak,ap c2 k,aZ k c1 c2]
  exact Nat.le_antisymm (tw s 53 _ _ _ _ (aQ hc hk) hc (by decide) (Nat.le_of_eq q)) (tw s 53 _ _ _ _ hc (aQ hc hk) (by decide) (Nat.le_of_eq q.symm))
 have a:(0:Int)<(k:Int):=by omega
 have nz:V*(k:Int)≠0:=Int.mul_ne_zero z (by omega)
 have sg:V*(k:Int)<0 ↔ V<0:=by
  constructor
  ·intro h
   rcases cC V 0 with x|x
   ·exact x
   ·have:=b8 x (bT a);omega
  ·exact fun h=>bQ h a
 rw[if_neg z,if_neg nz,e,e]
 by_cases c:V<0
 ·rw[if_pos c,if_pos (sg.2 c)]
 ·rw[if_neg c,if_neg (fun h=>c (sg.1 h))]
set_option linter.all false
theorem CN (m:Nat)(hm0:m≠0)(hm:m<9218868437227405312)(a b V9 C9:Nat)(p:Option Addr)(l c:Nat)(q:Option Addr)(k d:Nat)(B1:Nat)(w:World)(o1:Own w B1 (.slice p l c) (az a))(o2:Own w B1 (.slice q k d) (az b))(hb:b≠0)(hP:V9≠0)(hC:C9≠0)(hV:a*C9=V9*b)(K:Nat)(hK:K=1074)(ba:aq a<=100000)(bb:aq b<=100000):Calls prog 184 #[.int .u64 (m:Int),.int .i64 1,.agg #[.bool false,.slice p l c,.slice q k d]] w (RT (.int .i64 (eh ((Fq.vV Ieee.double m*C9:Nat):Int) ((V9*2^K:Nat):Int))) w):=by
 obtain⟨p',c',e1,u1,v1⟩:=o1.arr
 obtain⟨q',d',e2,u2,v2⟩:=o2.arr
 simp at e1 e2
 obtain⟨rfl,rfl,rfl⟩:=e1
 obtain⟨rfl,rfl,rfl⟩:=e2
 have hv:Fq.vV Ieee.double m=(if m<4503599627370496 then m else 4503599627370496+m%4503599627370496)*2^(if m<4503599627370496 then 0 else m/4503599627370496-1):=by
  unfold Fq.vV Fq.mM Fq.eE;rw[Fq.D9]
 obtain⟨I,C⟩:=aA (m%4503599627370496)
 obtain⟨t,A⟩:=aA (m/4503599627370496)
 have S:bits BinOp.and IntKind.u64 (m:Int) 4503599627370495=(I:Int):=by
  have h:=u64_and_nat m 4503599627370495 (by omega) (by decide)
  rw[show(4503599627370495:Nat)=2^52-1 from by decide,cG,show(2:Nat)^52=4503599627370496 from by decide,<-C]at h
  exact h
 have L:(m:Int)/4503599627370496=(t:Int):=by rw[A];exact(eJ _ _).symm
 have f6:IntKind.i64.wrap (t:Int)=(t:Int):=vO _ (by omega) (by omega)
 obtain⟨f,hf⟩:=aA (if m<4503599627370496 then m else 4503599627370496+m%4503599627370496)
 obtain⟨E,hE⟩:=aA (if m<4503599627370496 then 0 else m/4503599627370496-1)
 rw[<-hf,<-hE]at hv
 have bf:f<9007199254740992:=by rw[hf];split<;>omega
 have a2:f≠0:=by rw[hf];split<;>omega
 have bE:E<=2046:=by rw[hE];split<;>omega
 have a1:aq f<=53:=by rw[ay,show(2:Nat)^53=9007199254740992 from by decide];exact bf
 obtain⟨D,hD⟩:=aA (f*b)
 have bD:aq D<=100053:=by
  have h4:∀x y:Nat,aq f<=x->aq b<=y->aq (f*b)<=x+y:=fun x y u v=>by
   rw[ay]at u v|-
   rw[ag]
   exact Nat.mul_lt_mul'' u v
  rw[hD];have:=h4 _ _ a1 bb;omega
 have ha:a≠0:=fun h=>by
  rw[h,aM]at hV
  rcases Nat.mul_eq_zero.1 hV.symm with g|g
  ·exact hP g
  ·exact hb g
 have U:eh ((Fq.vV Ieee.double m*C9:Nat):Int) ((V9*2^K:Nat):Int)=eh ((D*2^E:Nat):Int) ((a*2^K:Nat):Int):=by
  rw[<-mq (Fq.vV Ieee.double m*C9) (V9*2^K) b hb,<-mq (D*2^E) (a*2^K) C9 hC]
  have e1:D*2^E*C9=Fq.vV Ieee.double m*C9*b:=by rw[hD,hv];ac_rfl
  have e2:a*2^K*C9=V9*2^K*b:=by rw[show a*2^K*C9=a*C9*2^K from by ac_rfl,hV];ac_rfl
  rw[e1,e2]
 have bv:(f=I∧E=0∧t=0)∨(f=I+4503599627370496∧E=t-1∧0<t):=by
  by_cases cE:m<4503599627370496
  ·exact Or.inl ⟨by rw[hf,if_pos cE,C,aX cE],by rw[hE,if_pos cE],by rw[A];exact bh cE⟩
  ·exact Or.inr ⟨by rw[hf,if_neg cE,C,dz],by rw[hE,if_neg cE,A],by rw[A];exact Nat.div_pos (Nat.le_of_not_lt cE) (by decide)⟩
 have bx:t<=2047:=by rw[A];omega
 have bu:I<4503599627370496:=by rw[C];exact bZ _ (by decide)
 clear hf hE hv C A o1 o2
 have X:(az f).length<=16777216:=by have:=ie f;show aS f<=_;omega
 have bq:(az b).length<=16777216:=by have:=ie b;show aS b<=_;omega
 have ca:(az a).length<=1048576:=by have:=ie a;show aS a<=_;omega
 have b5:(az D).length<=1048576:=by have:=ie D;show aS D<=_;omega
 have s:=fun W=>mc f (by omega) W
 have n:∀(W:World)(p:Option Addr)(c:Nat),Arr W p (az f)->(az f).length<=c->Calls prog 216 #[.slice p (az f).length c,.int .i64 1] W fun e w'=>∃v,e=.returned v∧Own w' W.heap.size v (az f)∧Kp W w':=fun W p c h1 h2=>by
  have h:=ww p c 1 (az f) W h1 (bC f) X (by rw[aV];omega) (by rw[aV,fV];exact X) (by omega)
  rw[aV,fV]at h
  exact h
 have o:∀(W:World)(p1:Option Addr)(c1:Nat),Kp w W->Arr W p1 (az f)->(az f).length<=c1->Calls prog 135 #[.slice p1 (az f).length c1,.slice q (az b).length d] W fun e w'=>∃v,e=.returned v∧Own w' W.heap.size v (az D)∧Kp W w':=fun W p1 c1 y h1 h2=>by
  have h:=oI p1 q c1 d (az f) (az b) W h1 (u2.grown y) (bC f) (bC b) X bq
  rw[aV,aV,<-hD]at h
  exact h
 have r:∀(W:World)(p3:Option Addr)(c3:Nat),Arr W p3 (az D)->(az D).length<=c3->Calls prog 202 #[.slice p3 (az D).length c3] W (RE (.int .i64 ((aq D:Nat):Int)) W):=fun W p3 c3 h1 h2=>by
  have h:=ti p3 c3 (az D) W h1 (bC D) (by omega)
  rw[aV]at h
  exact h
 have i:∀W:World,Kp w W->Calls prog 202 #[.slice p (az a).length c] W (RE (.int .i64 ((aq a:Nat):Int)) W):=fun W y=>by
  have h:=ti p c (az a) W (u1.grown y) (bC a) (by omega)
  rw[aV]at h
  exact h
 have w9:∀x:Int,-1000000000<=x->x<=1000000000->wrap64 x=x:=fun x h1 h2=>eQ x (by omega) (by omega)
 rw[U]
 have ar:∀(M:Nat),(az M).length<=1048576->∀(W:World)(p4:Option Addr)(c4:Nat),Kp w W->Arr W p4 (az M)->(az M).length<=c4->Calls prog 134 #[.slice p4 (az M).length c4,.slice p (az a).length c] W (RT (.int .i64 (dW M a)) W):=fun M lM W p4 c4 y h1 h2=>by
  have h:=qm p4 p c4 c (az M) (az a) W h1 (u1.grown y) (bC M) (bC a) (by omega) (by omega)
  rw[aV,aV]at h
  exact h
 have T:∀(M:Nat),(az M).length<=1048576->∀(W:World)(p3 p4:Option Addr)(c3 c4:Nat),Arr W p3 (az D)->(az D).length<=c3->Arr W p4 (az M)->(az M).length<=c4->Calls prog 134 #[.slice p3 (az D).length c3,.slice p4 (az M).length c4] W (RT (.int .i64 (dW D M)) W):=fun M lM W p3 p4 c3 c4 h1 h2 h3 h4=>by
  have h:=qm p3 p4 c3 c4 (az D) (az M) W h1 h3 (bC D) (bC M) (by omega) (by omega)
  rw[aV,aV]at h
  exact h
 have Q:∀(j:Nat),j<=1074->∀W:World,Kp w W->Calls prog 171 #[.slice p (az a).length c,.int .i64 (j:Int)] W fun e w'=>∃v,e=.returned v∧Own w' W.heap.size v (az (a*2^j))∧Kp W w':=fun j hj W y=>by
  have h:=kR p c j (az a) W (u1.grown y) (bC a) (by omega) (by omega)
  rw[aV]at h
  exact h
 have a3:∀(j:Nat),j<=2046->∀(W:World)(p3:Option Addr)(c3:Nat),Arr W p3 (az D)->(az D).length<=c3->Calls prog 171 #[.slice p3 (az D).length c3,.int .i64 (j:Int)] W fun e w'=>∃v,e=.returned v∧Own w' W.heap.size v (az (D*2^j))∧Kp W w':=fun j hj W p3 c3 h1 h2=>by
  have h:=kR p3 c3 j (az D) W h1 (bC D) (by omega) (by omega)
  rw[aV]at h
  exact h
 have aa:∀(x j:Nat),aq x<=100053->j<=2046->(az (x*2^j)).length<=1048576:=fun x j h1 h2=>by
  have h3:aq (x*2^j)<=aq x+j:=by
   rw[ay,ag]
   exact am (kq x) (ah j)
  have:=ie (x*2^j);show aS _<=_;omega
 have a5:0<aq a:=by
  rcases bS (aq a)with h|h
  ·have:=kq a;rw[h]at this;simp at this;exact absurd this ha
  ·exact h
 have a8:0<aq D:=by
  rcases bS (aq D)with h|h
  ·have:=kq D;rw[h]at this;simp at this
   rw[hD]at this
   rcases Nat.mul_eq_zero.1 this with g|g
   ·exact absurd g a2
   ·exact absurd g hb
  ·exact h
 have a0:∀z:Nat,dW (D*2^z) a=eh ((D*2^(z+K):Nat):Int) ((a*2^K:Nat):Int):=fun z=>by
  rw[ri,ag,<-ak,mq _ _ _ (dL (ah K))]
 have N:∀z:Nat,dW D (a*2^z)=eh ((D*2^E:Nat):Int) ((a*2^(z+E):Nat):Int):=fun z=>by
  rw[ri,ag,<-ak,mq _ _ _ (dL (ah E))]
 have HV:Hid (a*C9=V9*b∧D=f*b):=⟨hV,hD⟩
 clear hV U hD a2
 have bA:aq a<=100053:=aT ba (by decide)
 have Z:=Io (aq a) bA
 have Y:=Im (aq a) bA
 have a4:∀x y:Nat,y<x->eh ((x:Nat):Int) ((y:Nat):Int)=1:=fun x y h=>eK _ _ (Int.ofNat_lt.2 h)
 have a7:∀x y:Nat,x<y->eh ((x:Nat):Int) ((y:Nat):Int) = -1:=fun x y h=>fc _ _ (Int.ofNat_lt.2 h)
 have R:=aa D
 have O:=aa a
 have bH:∀j:Nat,j<=2046->(az (D*2^j)).length<=1048576:=fun j h=>R j bD h
 have au:∀j:Nat,j<=1074->(az (a*2^j)).length<=1048576:=fun j h=>O j bA (aT h (by decide))
 have K9:K<=1074:=Nat.le_of_eq hK
 clear R O aa w9 a1 bf
 rcases bv with⟨ef,eE0,e0⟩|⟨ef,eE1,e0⟩
 ·rw[<-ef]at S
  rw[e0]at L
  have J:=Iq (aq D) bD
  have ab:=Ip (aq D) bD
  by_cases F:((aq a:Nat):Int)+1<((aq D:Nat):Int)-1074
  ·rw[a4 _ _ (tQ D a E K (Ig _ _ _ _ hK eE0 F) a8)]
   exact mf.2.2.1 m f D _ _ _ _ _ _ _ p c q d S L J ab Z Y F s n w o r i
  ·by_cases P:((aq D:Nat):Int)-1074<((aq a:Nat):Int)-1
   ·rw[a7 _ _ (tP D a E K (Ie _ _ _ _ hK eE0 P) ha a5)]
    exact mf.2.2.2 m f D _ _ _ _ _ _ _ p c q d S L J ab Z Y F P s n w o r i
   ·have q9:=Q K K9
    rw[H9 K hK]at q9
    have h:=oQ.2.2 m f D _ _ _ _ _ _ _ p c q d S L J ab Z Y F P s n w o r i 0 _ (a*2^K) q9 (T _ (au K K9))
    rw[N,eE0,bi,<-eE0]at h
    exact h
 ·have f3:=Ii I f bu ef
  have f4:=Ik t E bx eE1 e0
  have G:=Ij E bE
  have f7:wrap64 (((E:Int)-1074)*1)=(E:Int)-1074:=by rw[Int.mul_one];exact G
  have f8:wrap64 ((E:Int)-1074)=(E:Int)-1074:=G
  have J:=Il (aq D) E bD bE
  have H:(0:Int)<(t:Int):=Int.ofNat_lt.2 e0
  by_cases F:((aq a:Nat):Int)+1<((aq D:Nat):Int)+((E:Int)-1074)
  ·rw[a4 _ _ (tQ D a E K (Id _ _ _ _ hK F) a8)]
   exact mf.1 m I t f D _ _ _ _ _ _ _ _ _ _ p c q d S L f6 H f3 f4 G f7 G J Z Y F s n w o r i
  ·by_cases P:((aq D:Nat):Int)+((E:Int)-1074)<((aq a:Nat):Int)-1
   ·rw[a7 _ _ (tP D a E K (Ic _ _ _ _ hK P) ha a5)]
    exact mf.2.1 m I t f D _ _ _ _ _ _ _ _ _ _ p c q d S L f6 H f3 f4 G f7 G J Z Y F P s n w o r i
   ·by_cases t3:(0:Int)<=(E:Int)-1074
    ·obtain⟨j,hj,B,V⟩:=Ib E bE t3
     have h:=oQ.1 m I t f D _ _ _ _ _ _ _ _ _ _ p c q d S L f6 H f3 f4 G f7 G J Z Y F P t3 s n w o r i 0 _ _ (by rw[hj];exact a3 j B) (ar _ (bH j B))
     rw[a0,V K hK]at h
     exact h
    ·obtain⟨j,hj,B,V⟩:=Ia E t3
     have h:=oQ.2.1 m I t f D _ _ _ _ _ _ _ _ _ _ p c q d S L f6 H f3 f4 G f7 G J Z Y F P t3 (j:Int) (by rw[hj];exact Ih j B) s n w o r i 0 _ _ (Q j B) (T _ (au j B))
     rw[N,V K hK]at h
     exact h
theorem D0 (x y:Int)(h:x<y):eh x y = -1:=if_pos h
theorem D5 (x y:Int)(h:y<x):eh x y=1:=by unfold eh;rw[if_neg (by omega),if_pos h]
theorem vI s p l c q k d (V:Int)(C N:Nat)(hN:N<=100000)(B1:Nat)(w:World)(h:XP B1 w s p l c q k d V C N):Calls prog 133 #[.agg #[.bool s,.slice p l c,.slice q k d]] w (RT (.int .i64 (eh V 0)) w):=by
 obtain⟨a,b,j,r,m,n,g,t,o⟩:=h
 have h:=mB s (.slice p l c) (.slice q k d) a w j.ls (by omega)
 have e:(if a=0 then 0 else if s then (-1:Int) else 1)=eh V 0:=by
  have f:(0:Int)<(C:Int):=by omega
  have i:(0:Int)<(b:Int):=by omega
  have k:eh (fC s a) 0=eh V 0:=by
   rw[<-gW (fC s a) 0 _ f,g,bV]
   have:=gW V 0 _ i
   rw[bV]at this
   exact this
  rw[<-k]
  unfold fC
  by_cases z:a=0
  ·rw[if_pos z,z];cases s<;>simp[eh]
  ·rw[if_neg z]
   cases s
   ·rw[if_neg (by decide),if_neg (by decide)];exact(D5 _ _ (by omega)).symm
   ·rw[if_pos rfl,if_pos rfl];exact(D0 _ _ (by omega)).symm
 rw[e]at h
 exact h
set_option linter.all false

def cX (K:Nat)(X i V:Int)(C:Nat):Int:=if i=0 then (if X=9218868437227405312 then 1 else if X = -9218868437227405312 then -1 else eh (vZ X*(C:Int)) (V*((2^K:Nat):Int))) else eh X (i*9218868437227405312)
theorem yB (x y:Int)(hy:0<y):eh (x*y) 0=eh x 0:=by
 rcases bw x 0 with g|g|g
 ·rw[fc _ _ (bQ g hy),fc _ _ g]
 ·rw[g,bV]
 ·rw[eK _ _ (dj g hy),eK _ _ g]
theorem jA (K:Nat)(hK:K=1074)(X i V:Int)(C9 N9:Nat)(hX:dl X)(hi:i=0∨((i=1∨i = -1)∧V=0))(hN:N9<=100000)(o:Bool) s p l c q k d (w:World)(h:XP 0 w s p l c q k d V C9 N9):Calls prog 145 #[.int .u64 (pI X),.agg #[.int .i64 i,.bool s,.slice p l c,.slice q k d,.int .i64 1,.bool o]] w fun e w'=>∃R:Int,e=.returned (.int .i64 R)∧(R<0 ↔ cX K X i V C9<0)∧(0<R ↔ 0<cX K X i V C9)∧Kp w w':=by
 have hm:=dv X hX
 have M:Fq.wD (decide (X<0)) X.natAbs≠9223372036854775808:=nE X hX
 have PK:(0:Int)<((2^K:Nat):Int):=by have:=ah K;omega
 have aA:C9≠0:=by obtain⟨_,_,_,_,_,e,_⟩:=id h;exact e
 by_cases E:X=9218868437227405312∨X = -9218868437227405312∨i≠0
 ·have H:cX K X i V C9=cB X i V:=by
   unfold cX cB
   by_cases j:i=0
   ·rw[if_pos j,if_pos j]
    by_cases c2:X=9218868437227405312
    ·rw[if_pos c2,if_pos c2]
    ·rw[if_neg c2,if_neg c2,if_pos (by omega),if_pos (by omega)]
   ·rw[if_neg j,if_neg j]
  rw[H]
  refine(vA (pI X) i (dT (decide (X<0)) X.natAbs) (cB X i V) _ o (fN (decide (X<0)) X.natAbs) (fM X.natAbs) s p l c q k d (mi X hX) ?_ w (fun w=>sH _ _ hm M w) (fun W s5 p5 l5 c5 q5 k5 d5 _ _=>FX X i V hX hi E s p l c q k d s5 p5 l5 c5 q5 k5 d5 W)).mono (fun e w' q=>⟨_,q.1,Iff.rfl,Iff.rfl,q.2⟩)
  by_cases j:X=9218868437227405312∨X = -9218868437227405312
  ·exact Or.inl (af j)
  ·refine Or.inr ⟨ae j, ?_⟩
   rcases E with g|g|g
   ·exact absurd (Or.inl g) j
   ·exact absurd (Or.inr g) j
   ·simpa using g
 ·have j:¬(X=9218868437227405312∨X = -9218868437227405312):=fun g=>E (by rcases g with g|g<;>simp[g])
  have i0:i=0:=by
   rcases Classical.em (i=0)with g|g
   ·exact g
   ·exact absurd (Or.inr (Or.inr g)) E
  subst i0
  have D:X.natAbs<9218868437227405312:=by unfold dl at hX;omega
  have B:cX K X 0 V C9=eh (vZ X*(C9:Int)) (V*((2^K:Nat):Int)):=by
   unfold cX
   rw[if_pos rfl,if_neg (fun g=>j (Or.inl g)),if_neg (fun g=>j (Or.inr g))]
  rw[B]
  have r:=fun w=>yn (decide (X<0)) X.natAbs D w
  have u:=fun(W:World) s5 p5 l5 c5 q5 k5 d5 (g:RP 0 W s5 p5 l5 c5 q5 k5 d5 (decide (X<0)) X.natAbs)=>B4 s5 p5 l5 c5 q5 k5 d5 _ 0 W g.vp
  have C:=fun(W:World) (g:Kp w W)=>vI s p l c q k d V C9 N9 hN 0 W (h.kp g)
  have P:decide (X=9218868437227405312∨X = -9218868437227405312)=false:=ae j
  have Q:Iv (decide (X<0)) X.natAbs=vZ X:=rfl
  rw[Q]at u
  rw[<-yB (vZ X) (C9:Int) (by omega)]at u
  rw[<-yB V ((2^K:Nat):Int) PK]at C
  obtain⟨a,b,o1,o2,f1,f2,f3,f4,f5⟩:=id h
  have G:a*C9=V.natAbs*b:=by
   have k:=congrArg Int.natAbs f3
   rw[bI,bI,aU,aU,show(fC s a).natAbs=a from by unfold fC;cases s<;>simp]at k
   exact k
  have f:=fun(z0:X.natAbs≠0) (v0:V.natAbs≠0) (W:World) (g:Kp w W)=>CN X.natAbs z0 D a b V.natAbs C9 p l c q k d 0 W (o1.kp g) (o2.kp g) f1 v0 f2 G K hK (by omega) (by omega)
  have T:((V.natAbs*2^K:Nat):Int)=((V*((2^K:Nat):Int)).natAbs:Int):=by rw[bI,aU]
  rw[T]at f
  have aj:∀z:Int,vZ z*(C9:Int)=0->z=0:=fun z hz=>by
   rcases Int.mul_eq_zero.1 hz with g|g
   ·rcases bw z 0 with g2|g2|g2
    ·have:=jQ z 0 g2;rw[dI]at this;omega
    ·exact g2
    ·have:=jQ 0 z g2;rw[dI]at this;omega
   ·omega
  have F:V*((2^K:Nat):Int)=0->V=0:=fun hz=>by
   rcases Int.mul_eq_zero.1 hz with g|g<;>omega
  have m:X<0->vZ X*(C9:Int) = -((Fq.vV Ieee.double X.natAbs*C9:Nat):Int):=fun g=>by
   rw[show vZ X=Iv (decide (X<0)) X.natAbs from rfl,Ef X g,aK,bF]
  have n:0<X->vZ X*(C9:Int)=((Fq.vV Ieee.double X.natAbs*C9:Nat):Int):=fun g=>by
   rw[show vZ X=Iv (decide (X<0)) X.natAbs from rfl,Ee X g,aK]
  have Y:V.natAbs=0->V*((2^K:Nat):Int)=0:=fun hz=>by rw[show V=0 by omega,bV]
  generalize hU:vZ X*(C9:Int)=U at u m n|-
  generalize hP:V*((2^K:Nat):Int)=V8 at C f F Y|-
  clear B T Q
  by_cases c2:eh U 0=eh V8 0
  ·by_cases c3:U=0
   ·have J:V8=0:=by
     rcases cZ V8 0 with g|g|g<;>rcases cZ U 0 with g'|g'|g'<;>omega
    subst J
    clear hP f
    rw[c3]at u|-
    refine(lz (pI X) 0 (eh 0 0) (eh 0 0) _ o _ _ s p l c q k d (mi X hX) P w r u C (Or.inr (Or.inl ⟨rfl,by decide,by decide⟩))).mono (fun e w' q=>⟨_,q.1,by decide,by decide,q.2⟩)
   ·have J:V8≠0:=by
     rcases cZ V8 0 with g|g|g<;>rcases cZ U 0 with g'|g'|g'<;>omega
    have N:X≠0:=fun g=>c3 (by rw[<-hU,g,dI,bV])
    have I:=(Fq.Db (decide (X<0)) X.natAbs (Fq.wD (decide (X<0)) X.natAbs) (by omega) rfl).1
    have A:=f (by omega) (fun g=>J (Y g))
    have O:∀C8 S:Int,(C8 = -1∨C8=0∨C8=1)->(S=1∨S = -1)->wrap64 (S*C8)=S*C8:=fun C8 S h1 h2=>by
     rcases h1 with rfl|rfl|rfl<;>rcases h2 with rfl|rfl<;>exact eQ _ (by decide) (by decide)
    have L:∀x y:Int,eh x y = -1∨eh x y=0∨eh x y=1:=fun x y=>by
     rcases cZ x y with g|g|g
     ·exact Or.inl g.2
     ·exact Or.inr (Or.inl g.2)
     ·exact Or.inr (Or.inr g.2)
    have Z:eh U 0=1∨eh U 0 = -1:=by
     rcases cZ U 0 with g|g|g
     ·exact Or.inr g.2
     ·exact absurd g.1 c3
     ·exact Or.inl g.2
    generalize hv9:(Fq.vV Ieee.double X.natAbs*C9:Nat)=v9 at A m n
    have hR:eh U 0*eh (v9:Int) (V8.natAbs:Int)=eh U V8:=by
     rcases Int.lt_or_lt_of_ne N with g|g
     ·have e1:=m g
      rcases cZ U 0 with g1|g1|g1<;>rcases cZ V8 0 with g2|g2|g2<;>rcases cZ (v9:Int) (V8.natAbs:Int)with t|t|t<;>rcases cZ U V8 with g4|g4|g4<;>first|(exfalso;omega)|(rw[g1.2,t.2,g4.2];decide)
     ·have e1:=n g
      rcases cZ U 0 with g1|g1|g1<;>rcases cZ V8 0 with g2|g2|g2<;>rcases cZ (v9:Int) (V8.natAbs:Int)with t|t|t<;>rcases cZ U V8 with g4|g4|g4<;>first|(exfalso;omega)|(rw[g1.2,t.2,g4.2];decide)
    refine(lz (pI X) (eh U V8) (eh U 0) (eh V8 0) _ o _ _ s p l c q k d (mi X hX) P w r u C (Or.inr (Or.inr ⟨c2.symm, ?_,(X.natAbs:Int),_,I,A, ?_⟩))).mono (fun e w' q=>⟨_,q.1,Iff.rfl,Iff.rfl,q.2⟩)
    ·rcases Z with g|g<;>rw[g]<;>decide
    ·rw[O _ _ (L _ _) Z];exact hR
  ·refine(lz (pI X) (eh U 0-eh V8 0) (eh U 0) (eh V8 0) _ o _ _ s p l c q k d (mi X hX) P w r u C (Or.inl ⟨by simpa using c2, ?_⟩)).mono (fun e w' q=>⟨_,q.1, ?_, ?_,q.2⟩)
   ·rcases cZ U 0 with g|g|g<;>rcases cZ V8 0 with g'|g'|g'<;>rw[g.2,g'.2]<;>exact eQ _ (by decide) (by decide)
   ·rcases cZ U 0 with g|g|g<;>rcases cZ V8 0 with g'|g'|g'<;>rcases cZ U V8 with g2|g2|g2<;>rw[g.2,g'.2]at c2|-<;>rw[g2.2]<;>omega
   ·rcases cZ U 0 with g|g|g<;>rcases cZ V8 0 with g'|g'|g'<;>rcases cZ U V8 with g2|g2|g2<;>rw[g.2,g'.2]at c2|-<;>rw[g2.2]<;>omega
theorem Bg (K:Nat)(hK:K=1074)(V dd:Int)(C9 N9:Nat)(hN:N9<=100000)(o:Bool) s p l c q k d (w:World)(h:XP 0 w s p l c q k d V C9 N9):Calls prog 146 #[.int .i64 dd,.agg #[.int .i64 0,.bool s,.slice p l c,.slice q k d,.int .i64 1,.bool o]] w (RT (.int .u64 ((pz (gE dd (2^K) C9 V):Nat):Int)) w):=by
 obtain⟨b,a⟩:∃Z:Nat,Z=pz (gE dd (2^K) C9 V):=⟨_,rfl⟩
 rw[<-a]
 have f:∀W:World,Kp w W->Calls prog 150 #[.int .i64 dd,.agg #[.bool s,.slice p l c,.slice q k d]] W (RT (.int .u64 ((b:Nat):Int)) W):=fun W g=>by
  rw[a]
  exact mI s p l c q k d _ dd 0 W ((h.kp g).qv hK (by omega))
 clear a hK
 go_enter func146,ntmps146
 go_wp2_with (first|(go_at_call 150;refine(f _ (by repeat(with_reducible(first|exact Kp.refl _|apply Kp.alloc)))).mono ?_;rintro e i ⟨rfl,j⟩))
 exact BR (v:=.int .u64 ((b:Nat):Int)) ⟨rfl,(by repeat(with_reducible(first|exact Kp.refl _|apply Kp.alloc|(refine Kp.trans ?_ (by assumption)))))⟩

structure Bd9 where
 i:Int
 V:Int
 C:Nat
 o:Bool
def cA (K:Nat)(X:Int)(A:Bd9):Int:=cX K X A.i A.V A.C
def gQ (K:Nat)(A:Bd9):Int:=if A.i=0 then gE (-1) (2^K) A.C A.V else -9218868437227405312
def jN (K:Nat)(B:Bd9):Int:=if B.i=0 then gE 1 (2^K) B.C B.V else 9218868437227405312
def Ed (A:Bd9):Prop:=(A.i=0∨A.i = -1)∧A.C≠0∧(A.i≠0->A.o=true)
def Ec (B:Bd9):Prop:=(B.i=0∨B.i=1)∧B.C≠0∧(B.i≠0->B.o=true)
def Pk9 (A B:Bd9):Prop:=Ed A∧Ec B∧(A.i=0->B.i=0->A.V*(B.C:Int)<B.V*(A.C:Int)∨(A.V*(B.C:Int)=B.V*(A.C:Int)∧A.o=false∧B.o=false))
theorem pC (K:Nat)(X:Int)(A:Bd9)(hX:-9218868437227405312<X∧X<9218868437227405312)(hi:A.i=0):cA K X A=eh (vZ X*(A.C:Int)) (A.V*((2^K:Nat):Int)):=by
 unfold cA cX
 rw[if_pos hi,if_neg (by omega),if_neg (by omega)]
theorem nW (K:Nat)(X:Int)(A:Bd9)(hi:A.i≠0):cA K X A=eh X (A.i*9218868437227405312):=by
 unfold cA cX
 rw[if_neg hi]
theorem ku (K:Nat)(A:Bd9)(X:Int)(hA:Ed A)(hX:-9218868437227405312<=X∧X<9218868437227405312):X<=gQ K A ↔ cA K X A<=0:=by
 obtain⟨hi,a,-⟩:=hA
 unfold gQ
 rcases hi with hi|hi
 ·rw[if_pos hi]
  by_cases c:X = -9218868437227405312
  ·have h:=(gS (-1) (2^K) A.C A.V).1
   have e:cA K X A = -1:=by unfold cA cX;rw[if_pos hi,if_neg (by omega),if_pos c]
   rw[e]
   constructor
   ·intro _;omega
   ·intro _;omega
  ·rw[pC K X A (by omega) hi,mY]
   exact DI (2^K) A.C (by omega) A.V X (by omega)
 ·rw[if_neg (by omega),nW K X A (by omega),hi,mY]
  omega
theorem ml (K:Nat)(B:Bd9)(X:Int)(hB:Ec B)(hX:-9218868437227405312<X∧X<=9218868437227405312):jN K B<=X ↔ 0<=cA K X B:=by
 obtain⟨hi,a,-⟩:=hB
 unfold jN
 rcases hi with hi|hi
 ·rw[if_pos hi]
  by_cases c:X=9218868437227405312
  ·have h:=(gS 1 (2^K) B.C B.V).2
   have e:cA K X B=1:=by unfold cA cX;rw[if_pos hi,if_pos c]
   rw[e]
   constructor
   ·intro _;omega
   ·intro _;omega
  ·rw[pC K X B (by omega) hi,mZ]
   exact Aw (2^K) B.C (by omega) B.V X (by omega)
 ·rw[if_neg (by omega),nW K X B (by omega),hi,mZ]
  omega
theorem jr (K:Nat)(A:Bd9)(hA:Ed A):-9218868437227405312<=gQ K A∧gQ K A<9218868437227405312:=by
 unfold gQ
 split
 ·exact⟨(gS _ _ _ _).1,(jo (2^K) A.C (by have:=hA.2.1;omega) A.V).2.1⟩
 ·omega
theorem js (K:Nat)(B:Bd9)(hB:Ec B):-9218868437227405312<jN K B∧jN K B<=9218868437227405312:=by
 unfold jN
 split
 ·exact⟨(jo (2^K) B.C (by have:=hB.2.1;omega) B.V).2.2,(gS _ _ _ _).2⟩
 ·omega
theorem om (c:Int)(hc:0<c)(x y:Int)(h:x<y):vZ x*c<vZ y*c:=bW (jQ x y h) hc
theorem rZ (K:Nat)(A:Bd9)(X:Int)(hA:Ed A)(hX:-9218868437227405312<=X∧X<9218868437227405312)(h:0<=cA K X A):gQ K A<=X:=by
 rcases cC X (gQ K A)with c|c
 ·exfalso
  have b:=jr K A hA
  rcases hA.1 with hi|hi
  ·by_cases c2:X = -9218868437227405312
   ·unfold cA cX at h
    rw[if_pos hi,if_neg (by omega),if_pos c2]at h
    omega
   ·have a:=(ku K A (X+1) hA (by omega)).1 (by omega)
    rw[pC K _ A (by omega) hi,mY]at a
    rw[pC K X A (by omega) hi,mZ]at h
    have:=om (A.C:Int) (by have:=hA.2.1;omega) X (X+1) (by omega)
    omega
  ·unfold gQ at c
   rw[if_neg (by omega)]at c
   omega
 ·exact c
theorem oZ (K:Nat)(B:Bd9)(X:Int)(hB:Ec B)(hX:-9218868437227405312<X∧X<=9218868437227405312)(h:cA K X B<=0):X<=jN K B:=by
 rcases cC (jN K B) X with c|c
 ·exfalso
  have b:=js K B hB
  rcases hB.1 with hi|hi
  ·by_cases c2:X=9218868437227405312
   ·unfold cA cX at h
    rw[if_pos hi,if_pos c2]at h
    omega
   ·have a:=(ml K B (X-1) hB (by omega)).1 (by omega)
    rw[pC K _ B (by omega) hi,mZ]at a
    rw[pC K X B (by omega) hi,mY]at h
    have:=om (B.C:Int) (by have:=hB.2.1;omega) (X-1) X (by omega)
    omega
  ·unfold jN at c
   rw[if_neg (by omega)]at c
   omega
 ·exact c
theorem yx (x P a b u v:Int)(hP:0<P)(ha:0<a)(hb:0<b)(h:u*b<=v*a):(x*a<u*P->x*b<v*P)∧(x*a<=u*P->x*b<=v*P)∧(u*b<v*a->x*a<=u*P->x*b<v*P):=by
 have k:=bN h (bT hP)
 have i:x*a*b=x*b*a:=by ac_rfl
 have g:u*P*b=u*b*P:=by ac_rfl
 have f:v*P*a=v*a*P:=by ac_rfl
 refine⟨fun q=>?_,fun q=>?_,fun q1 q=>?_⟩
 ·have c:=bW q hb
  exact eM (by omega:x*b*a<v*P*a) (bT ha)
 ·have c:=bN q (bT hb)
  exact Int.le_of_mul_le_mul_right (by omega:x*b*a<=v*P*a) ha
 ·have c:=bN q (bT hb)
  have d:=bW q1 hP
  exact eM (by omega:x*b*a<v*P*a) (bT ha)
theorem Fg (K:Nat)(A B:Bd9)(h:Pk9 A B)(z:Int)(hz:-9218868437227405312<z∧z<9218868437227405312):(cA K z A<0->cA K z B<0)∧(cA K z A<=0->cA K z B<=0)∧(cA K z A<=0->(A.o=true∨B.o=true)->cA K z B<0)∧(0<cA K z B->0<cA K z A)∧(0<=cA K z B->0<=cA K z A)∧(0<=cA K z B->(A.o=true∨B.o=true)->0<cA K z A):=by
 obtain⟨⟨b,m,n⟩,⟨a,p,t⟩,k⟩:=h
 rcases b with b|b
 ·rcases a with a|a
  ·have j:=k b a
   have P:(0:Int)<((2^K:Nat):Int):=by have:=ah K;omega
   have d:A.V*(B.C:Int)<=B.V*(A.C:Int):=by omega
   have c:=yx (vZ z) _ (A.C:Int) (B.C:Int) A.V B.V P (by omega) (by omega) d
   rw[pC K z A hz b,pC K z B hz a]
   generalize vZ z*(A.C:Int)=x1 at c|-
   generalize vZ z*(B.C:Int)=x2 at c|-
   generalize A.V*((2^K:Nat):Int)=y1 at c|-
   generalize B.V*((2^K:Nat):Int)=y2 at c|-
   have f:(A.o=true∨B.o=true)->A.V*(B.C:Int)<B.V*(A.C:Int):=fun q=>by
    rcases j with g|⟨g1,g2,g3⟩
    ·exact g
    ·rcases q with q|q
     ·rw[g2]at q;cases q
     ·rw[g3]at q;cases q
   obtain⟨u,l,i⟩:=c
   rcases cZ x1 y1 with q|q|q<;>rcases cZ x2 y2 with r|r|r<;>refine⟨fun _=>?_,fun _=>?_,fun _ s=>?_,fun _=>?_,fun _=>?_,fun _ s=>?_⟩<;>first|omega|(have:=i (f s);omega)
  ·have e:cA K z B = -1:=by rw[nW K z B (by omega),a,fc _ _ (by omega)]
   rw[e];omega
 ·have e:cA K z A=1:=by rw[nW K z A (by omega),b,eK _ _ (by omega)]
  rw[e]
  refine⟨by omega,by omega,by omega,by omega,by omega,by omega⟩
theorem xI (K:Nat)(A B:Bd9)(h:Pk9 A B):gQ K A<=jN K B:=by
 have a:=jr K A h.1
 have b:=js K B h.2.1
 by_cases c:gQ K A = -9218868437227405312
 ·omega
 ·have f:=(ku K A (gQ K A) h.1 a).1 (Int.le_refl _)
  have d:=(Fg K A B h (gQ K A) (by omega)).2.1 f
  exact oZ K B (gQ K A) h.2.1 (by omega) d
def nt (K:Nat)(L H:Int)(A B:Bd9):Prop:=0<cA K L B∨(cA K L B=0∧B.o=true)∨cA K H A<0∨(cA K H A=0∧A.o=true)
instance (K:Nat) (L H:Int) (A B:Bd9):Decidable (nt K L H A B):=by unfold nt;infer_instance
def lV (K:Nat)(v:Int)(A B:Bd9):Prop:=(0<cA K v A∨(cA K v A=0∧A.o=false))∧(cA K v B<0∨(cA K v B=0∧B.o=false))
instance (K:Nat) (v:Int) (A B:Bd9):Decidable (lV K v A B):=by unfold lV;infer_instance
def BZ (K:Nat)(L H:Int)(A B:Bd9):Int:=if nt K L H A B then 9218868437227405312 else max L (gQ K A)
def B0 (K:Nat)(L H:Int)(A B:Bd9):Int:=if nt K L H A B then -9218868437227405312 else min H (jN K B)
theorem BF (K:Nat)(L H:Int)(A B:Bd9)(hB:Pk9 A B)(hx:-9218868437227405312<=L∧L<9218868437227405312∧-9218868437227405312<H∧H<=9218868437227405312∧L<=H)(g:¬nt K L H A B) :
  max L (gQ K A)<=min H (jN K B)∧(max L (gQ K A)=min H (jN K B)->lV K (max L (gQ K A)) A B):=by
 have D:¬0<cA K L B:=fun q=>g (Or.inl q)
 have n:¬(cA K L B=0∧B.o=true):=fun q=>g (Or.inr (Or.inl q))
 have E:¬cA K H A<0:=fun q=>g (Or.inr (Or.inr (Or.inl q)))
 have k:¬(cA K H A=0∧A.o=true):=fun q=>g (Or.inr (Or.inr (Or.inr q)))
 have z:=jr K A hB.1
 have F:=js K B hB.2.1
 have I:L<=jN K B:=by
  by_cases c:L = -9218868437227405312
  ·omega
  ·exact oZ K B L hB.2.1 (by omega) (by omega)
 have G:gQ K A<=H:=by
  by_cases c:H=9218868437227405312
  ·omega
  ·exact rZ K A H hB.1 (by omega) (by omega)
 have J:=xI K A B hB
 refine⟨by omega,fun e=>?_⟩
 have y:-9218868437227405312<max L (gQ K A)∧max L (gQ K A)<9218868437227405312:=by omega
 obtain⟨p,M,u,r,C,l⟩:=Fg K A B hB _ y
 have j:=ku K A (max L (gQ K A)) hB.1 (by omega)
 have s:=ml K B (max L (gQ K A)) hB.2.1 (by omega)
 have f:∀b:Bool,b=true∨b=false:=fun b=>by cases b<;>simp
 constructor
 ·by_cases d:0<cA K (max L (gQ K A)) A
  ·exact Or.inl d
  ·by_cases a:cA K (max L (gQ K A)) A=0∧A.o=false
   ·exact Or.inr a
   ·exfalso
    have m:cA K (max L (gQ K A)) B<0:=by
     by_cases i:cA K (max L (gQ K A)) A<0
     ·exact p i
     ·rcases f A.o with t|t
      ·exact u (by omega) (Or.inl t)
      ·exact absurd ⟨by omega,t⟩ a
    have x:¬jN K B<=max L (gQ K A):=fun q=>by have:=s.1 q;omega
    have h:max L (gQ K A)=H:=by omega
    rw[h]at d a
    rcases f A.o with t|t
    ·have:¬cA K H A=0:=fun q=>k ⟨q,t⟩
     omega
    ·have:¬cA K H A=0:=fun q=>a ⟨q,t⟩
     omega
 ·by_cases d:cA K (max L (gQ K A)) B<0
  ·exact Or.inl d
  ·by_cases a:cA K (max L (gQ K A)) B=0∧B.o=false
   ·exact Or.inr a
   ·exfalso
    have m:0<cA K (max L (gQ K A)) A:=by
     by_cases i:0<cA K (max L (gQ K A)) B
     ·exact r i
     ·rcases f B.o with t|t
      ·exact l (by omega) (Or.inr t)
      ·exact absurd ⟨by omega,t⟩ a
    have x:¬max L (gQ K A)<=gQ K A:=fun q=>by have:=j.1 q;omega
    have h:max L (gQ K A)=L:=by omega
    rw[h]at d a
    rcases f B.o with t|t
    ·have:¬cA K L B=0:=fun q=>n ⟨q,t⟩
     omega
    ·have:¬cA K L B=0:=fun q=>a ⟨q,t⟩
     omega
theorem yG (K:Nat)(L H:Int)(A B:Bd9)(hB:Pk9 A B)(hx:-9218868437227405312<=L∧L<9218868437227405312∧-9218868437227405312<H∧H<=9218868437227405312∧L<=H)(g:nt K L H A B)(hle:max L (gQ K A)<=min H (jN K B)) :
  max L (gQ K A)=min H (jN K B)∧¬lV K (max L (gQ K A)) A B:=by
 have f:=jr K A hB.1
 have j:=js K B hB.2.1
 have d:L = -9218868437227405312->cA K L B<0:=by
  intro e
  rcases hB.2.1.1 with i|i
  ·unfold cA cX;rw[if_pos i,if_neg (by omega),if_pos e];decide
  ·rw[nW K L B (by omega),i,fc _ _ (by omega)];decide
 have b:H=9218868437227405312->0<cA K H A:=by
  intro e
  rcases hB.1.1 with i|i
  ·unfold cA cX;rw[if_pos i,if_pos e];decide
  ·rw[nW K H A (by omega),i,eK _ _ (by omega)];decide
 have low:0<=cA K L B->max L (gQ K A)=min H (jN K B)∧max L (gQ K A)=L:=fun q=>by
  have c:L≠-9218868437227405312:=fun e=>by have:=d e;omega
  have h:=(ml K B L hB.2.1 (by omega)).2 q
  omega
 have a:cA K H A<=0->max L (gQ K A)=min H (jN K B)∧max L (gQ K A)=H:=fun q=>by
  have c:H≠9218868437227405312:=fun e=>by have:=b e;omega
  have h:=(ku K A H hB.1 (by omega)).2 q
  omega
 unfold lV
 rcases g with g|⟨g,g'⟩|g|⟨g,g'⟩
 ·have h:=low (by omega)
  refine⟨h.1, ?_⟩
  rw[h.2]
  rintro⟨-,q|q⟩<;>omega
 ·have h:=low (by omega)
  refine⟨h.1, ?_⟩
  rw[h.2]
  rintro⟨-,q|q⟩
  ·omega
  ·rw[g']at q;exact absurd q.2 (by decide)
 ·have h:=a (by omega)
  refine⟨h.1, ?_⟩
  rw[h.2]
  rintro⟨q|q,-⟩<;>omega
 ·have h:=a (by omega)
  refine⟨h.1, ?_⟩
  rw[h.2]
  rintro⟨q|q,-⟩
  ·omega
  ·rw[g']at q;exact absurd q.2 (by decide)
set_option linter.all false

theorem SV1.sg {n n' a b:Bool}{m m':Nat}{W:World}{v:Value}(h:SV1 n m n' m' W v)(h1:n=a∨m=0)(h2:n'=b∨m'=0):SV1 a m b m' W v:=by
 have g:∀(x y:Bool)(k:Nat),(x=y∨k=0)->dT x k=dT y k∧∀(W:World) s7 p7 l7 c7 q7 k7 d7,RP 0 W s7 p7 l7 c7 q7 k7 d7 (fN x k) (fM k)->RP 0 W s7 p7 l7 c7 q7 k7 d7 (fN y k) (fM k):=by
  intro x y k B
  rcases B with rfl|rfl
  ·exact⟨rfl,fun _ _ _ _ _ _ _ _ h=>h⟩
  ·refine⟨rfl,fun W s7 p7 l7 c7 q7 k7 d7 h=>?_⟩
   have e:fM 0=0:=rfl
   rw[e]at h|-
   exact h.zero _
 obtain⟨s,p,l,c,q,k,d,A,o,r,c2,z,t,u,rfl,j,C⟩:=h
 have f:=g n a m h1
 have i:=g n' b m' h2
 refine⟨s,p,l,c,q,k,d,A,o,r,c2,z,t,u,by rw[f.1,i.1],f.2 W _ _ _ _ _ _ _ j,i.2 W _ _ _ _ _ _ _ C⟩
def ST9 (L H:Int)(W:World)(v:Value):Prop:=(L=9218868437227405312∧rk true v)∨(L≠9218868437227405312∧SV1 (decide (L<0)) (L).natAbs (decide (H<0)) (H).natAbs W v)
theorem ST9.kp {L H:Int}{W W':World}{v:Value}(g:Kp W W')(h:ST9 L H W v):ST9 L H W' v:=by
 rcases h with h|h
 ·exact Or.inl h
 ·exact Or.inr ⟨h.1,h.2.kp g⟩
theorem Ba (a b:Nat)(L H:Int)(r:Rd a b L H)(W:World):Calls prog 47 #[.agg #[.int .u64 ((a:Nat):Int),.int .u64 ((b:Nat):Int)]] W fun e w'=>∃v,e=.returned v∧ST9 L H w' v∧Kp W w':=by
 by_cases c:L=9218868437227405312
 ·exact(qu a b L H r c W).mono (fun e w' ⟨v,h1,h2,h3⟩=>⟨v,h1,Or.inl ⟨c,h2⟩,h3⟩)
 ·exact(jh a b L H r c W).mono (fun e w' ⟨v,h1,h2,h3⟩=>⟨v,h1,Or.inr ⟨c,h2⟩,h3⟩)
theorem pR (L H:Int)(d:VdZ L H)(W:World)(v:Value)(h:ST9 L H W v):Calls prog 48 #[v] W fun e w'=>∃v',e=.returned v'∧ST9 (-H) (-L) w' v'∧Kp W w':=by
 unfold VdZ at d
 rcases h with⟨c,h⟩|⟨c,h⟩
 ·exact(zN W v h).mono (fun e w' ⟨v',h1,a,b⟩=>⟨v',h1,Or.inl ⟨by omega,a⟩,b⟩)
 ·refine(zO _ _ _ _ W v h).mono ?_
  rintro e w' ⟨v',rfl,a,b⟩
  have sg:∀z:Int,(!(decide (z<0)))=decide (-z<0)∨z.natAbs=0:=by
   intro z
   rcases bw z 0 with q|q|q
   ·left;rw[af q,ae (by omega)];rfl
   ·right;omega
   ·left;rw[ae (show ¬z<0 by omega),af (by omega)];rfl
  have f:=a.sg (sg H) (sg L)
  refine⟨v',rfl,Or.inr ⟨by omega, ?_⟩,b⟩
  rw[dP,dP]
  exact f
def IE (em:Prop)(iA VA iB VB:Int)(W:World)(v:Value):Prop:=(em∧∃(n9 oa ob:Bool)(ia ib:Int)(s7:Bool)(p7:Option Addr)(l7 c7:Nat)(q7:Option Addr)(k7 d7:Nat)(s8:Bool)(p8:Option Addr)(l8 c8:Nat)(q8:Option Addr)(k8 d8:Nat),v=.agg #[.bool true,.int .i64 ia,.bool s7,.slice p7 l7 c7,.slice q7 k7 d7,.int .i64 1,.bool oa,.int .i64 ib,.bool s8,.slice p8 l8 c8,.slice q8 k8 d8,.int .i64 1,.bool ob])∨(¬em∧Hw iA VA (decide (iA≠0)) iB VB (decide (iB≠0)) W v)

def PCx (A B:Bd9)(W:World)(v:Value):Prop:=∃(s7:Bool)(p7:Option Addr)(l7 c7:Nat)(q7:Option Addr)(k7 d7:Nat)(s8:Bool)(p8:Option Addr)(l8 c8:Nat)(q8:Option Addr)(k8 d8:Nat),v=.agg #[.bool false,.int .i64 A.i,.bool s7,.slice p7 l7 c7,.slice q7 k7 d7,.int .i64 1,.bool A.o,.int .i64 B.i,.bool s8,.slice p8 l8 c8,.slice q8 k8 d8,.int .i64 1,.bool B.o]∧XP 0 W s7 p7 l7 c7 q7 k7 d7 A.V A.C 100000∧XP 0 W s8 p8 l8 c8 q8 k8 d8 B.V B.C 100000
theorem PCx.kp {A B:Bd9}{W W':World}{v:Value}(g:Kp W W')(h:PCx A B W v):PCx A B W' v:=by
 obtain⟨i,c,o,b,n,k,j,a,s,q,l,m,p,d,e,r,f⟩:=h
 exact⟨i,c,o,b,n,k,j,a,s,q,l,m,p,d,e,r.kp g,f.kp g⟩
theorem EN (K:Nat)(hK:K=1074)(L H:Int)(A B:Bd9)(hx:VdZ L H)(nx:L≠9218868437227405312)(hB:Pk9 A B)(za:A.i=0∨A.V=0)(zb:B.i=0∨B.V=0)(w:World)(v:Value)(h:PCx A B w v):Calls prog 92 #[.agg #[.int .u64 (pI L),.int .u64 (pI H)],v] w (RT (.agg #[.int .u64 (pI (BZ K L H A B)),.int .u64 (pI (B0 K L H A B))]) w):=by
 obtain⟨E,x,I,u,m,k,j,q,s,p,l,G,n,z,rfl,R,O⟩:=h
 have d:=hx.lo
 have J:=hx.hi
 have X:=hx
 unfold VdZ at X
 have S:(pI L == 9218868437227405312)=false:=by
  have:=CX L 9218868437227405312 d (by unfold dl;omega)
  rw[lK]at this
  simpa using fun g=>nx (this.1 g)
 have oA:A.i=0∨((A.i=1∨A.i = -1)∧A.V=0):=by rcases hB.1.1 with r|r<;>omega
 have T:B.i=0∨((B.i=1∨B.i = -1)∧B.V=0):=by rcases hB.2.1.1 with r|r<;>omega
 have F:=fun(W:World) (g:Kp w W)=>jA K hK L B.i B.V B.C 100000 d T (by decide) B.o q s p l G n z W (O.kp g)
 have D:=fun(W:World) (g:Kp w W)=>jA K hK H A.i A.V A.C 100000 J oA (by decide) A.o E x I u m k j W (R.kp g)
 have N:=fun(W:World) (g:Kp w W)=>jA K hK L A.i A.V A.C 100000 d oA (by decide) A.o E x I u m k j W (R.kp g)
 have P:=fun(W:World) (g:Kp w W)=>jA K hK H B.i B.V B.C 100000 J T (by decide) B.o q s p l G n z W (O.kp g)
 have M:∀b:Bool,b=true∨b=false:=fun b=>by cases b<;>simp
 by_cases a:nt K L H A B
 ·unfold BZ B0
  rw[if_pos a,if_pos a,lK,mJ]
  refine sP.1 (pI L) (pI H) _ _ A.i B.i _ _ E x I u m k j q s p l G n z iW w S F D ?_
  have Z:0<cX K L B.i B.V B.C∨(cX K L B.i B.V B.C=0∧B.o=true)∨cX K H A.i A.V A.C<0∨(cX K H A.i A.V A.C=0∧A.o=true):=a
  by_cases c:0<cX K L B.i B.V B.C
  ·exact Or.inl c
  ·by_cases Q:cX K L B.i B.V B.C=0∧B.o=true
   ·exact Or.inr (Or.inl Q)
   ·refine Or.inr (Or.inr ⟨?_, ?_⟩)
    ·rcases(by omega:cX K L B.i B.V B.C<0∨cX K L B.i B.V B.C=0)with r|r
     ·exact Or.inl r
     ·rcases M B.o with t|t
      ·exact absurd ⟨r,t⟩ Q
      ·exact Or.inr ⟨r,t⟩
    ·rcases Z with r|r|r|r
     ·exact absurd r c
     ·exact absurd r Q
     ·exact Or.inl r
     ·exact Or.inr r
 ·have aa:-9218868437227405312<=L∧L<9218868437227405312∧-9218868437227405312<H∧H<=9218868437227405312∧L<=H:=by omega
  have g1:¬0<cA K L B:=fun r=>a (Or.inl r)
  have Y:¬(cA K L B=0∧B.o=true):=fun r=>a (Or.inr (Or.inl r))
  have g3:¬cA K H A<0:=fun r=>a (Or.inr (Or.inr (Or.inl r)))
  have U:¬(cA K H A=0∧A.o=true):=fun r=>a (Or.inr (Or.inr (Or.inr r)))
  have b1:=jr K A hB.1
  have b2:=js K B hB.2.1
  unfold BZ B0
  rw[if_neg a,if_neg a]
  refine sP.2 (pI L) (pI H) (cA K L B) (cA K H A) (cA K L A) (cA K H B) ((pz (gE (-1) (2^K) A.C A.V):Nat):Int) ((pz (gE 1 (2^K) B.C B.V):Nat):Int) _ _ A.i B.i _ _ E x I u m k j q s p l G n z iW w S F D N P (fun g W y=>?_) (fun g W y=>?_) ?_ ?_ ?_ ?_
  ·have e:A.i=0:=by
    rcases hB.1.1 with r|r
    ·exact r
    ·exfalso;rw[nW K L A (by omega),r]at g
     have:=(mZ L (-1*9218868437227405312)).2 (by omega);omega
   rw[e]
   exact Bg K hK A.V (-1) A.C 100000 (by decide) _ E x I u m k j W (R.kp y)
  ·have e:B.i=0:=by
    rcases hB.2.1.1 with r|r
    ·exact r
    ·exfalso;rw[nW K H B (by omega),r]at g
     have:=(mY H (1*9218868437227405312)).2 (by omega);omega
   rw[e]
   exact Bg K hK B.V 1 B.C 100000 (by decide) _ q s p l G n z W (O.kp y)
  ·rcases(by omega:cA K L B<0∨cA K L B=0)with r|r
   ·exact Or.inl r
   ·rcases M B.o with t|t
    ·exact absurd ⟨r,t⟩ Y
    ·exact Or.inr ⟨r,t⟩
  ·rcases(by omega:0<cA K H A∨cA K H A=0)with r|r
   ·exact Or.inl r
   ·rcases M A.o with t|t
    ·exact absurd ⟨r,t⟩ U
    ·exact Or.inr ⟨r,t⟩
  ·by_cases c:cA K L A<0
   ·refine Or.inl ⟨c, ?_⟩
    have e:A.i=0:=by
     rcases hB.1.1 with r|r
     ·exact r
     ·exfalso;rw[nW K L A (by omega),r]at c
      have:=(mZ L (-1*9218868437227405312)).2 (by omega);omega
    have f:=(ku K A L hB.1 (by omega)).2 (by omega)
    rw[show max L (gQ K A)=gQ K A by omega]
    unfold gQ
    rw[if_pos e];rfl
   ·have f:=rZ K A L hB.1 (by omega) (by omega)
    exact Or.inr ⟨by omega,by rw[show max L (gQ K A)=L by omega]⟩
  ·by_cases c:0<cA K H B
   ·refine Or.inl ⟨c, ?_⟩
    have e:B.i=0:=by
     rcases hB.2.1.1 with r|r
     ·exact r
     ·exfalso;rw[nW K H B (by omega),r]at c
      have:=(mY H (1*9218868437227405312)).2 (by omega);omega
    have f:=(ml K B H hB.2.1 (by omega)).2 (by omega)
    rw[show min H (jN K B)=jN K B by omega]
    unfold jN
    rw[if_pos e];rfl
   ·have f:=oZ K B H hB.2.1 (by omega) (by omega)
    exact Or.inr ⟨by omega,by rw[show min H (jN K B)=H by omega]⟩
structure Pc9 where
 em:Bool
 A:Bd9
 B:Bd9
def Pc9.ok (P:Pc9):Prop:=P.em=false->Pk9 P.A P.B∧(P.A.i=0∨P.A.V=0)∧(P.B.i=0∨P.B.V=0)
def PX9 (P:Pc9)(W:World)(v:Value):Prop:=(P.em=true∧∃(n9 oa ob:Bool)(ia ib:Int)(s7:Bool)(p7:Option Addr)(l7 c7:Nat)(q7:Option Addr)(k7 d7:Nat)(s8:Bool)(p8:Option Addr)(l8 c8:Nat)(q8:Option Addr)(k8 d8:Nat)(V7 V8:Int)(C7 C8:Nat),v=.agg #[.bool true,.int .i64 ia,.bool s7,.slice p7 l7 c7,.slice q7 k7 d7,.int .i64 1,.bool oa,.int .i64 ib,.bool s8,.slice p8 l8 c8,.slice q8 k8 d8,.int .i64 1,.bool ob]∧XP 0 W s7 p7 l7 c7 q7 k7 d7 V7 C7 100000∧XP 0 W s8 p8 l8 c8 q8 k8 d8 V8 C8 100000∧ia=0∧ib=0)∨(P.em=false∧PCx P.A P.B W v)
theorem PX9.kp {P:Pc9}{W W':World}{v:Value}(g:Kp W W')(h:PX9 P W v):PX9 P W' v:=by
 rcases h with⟨h0,n9,oa,ob,ia,ib,s7,p7,l7,c7,q7,k7,d7,s8,p8,l8,c8,q8,k8,d8,V7,V8,C7,C8,h1,h2,h3⟩|h
 ·exact Or.inl ⟨h0,n9,oa,ob,ia,ib,s7,p7,l7,c7,q7,k7,d7,s8,p8,l8,c8,q8,k8,d8,V7,V8,C7,C8,h1,h2.kp g,h3.1.kp g,h3.2⟩
 ·exact Or.inr ⟨h.1,h.2.kp g⟩
def iR (K:Nat)(L H:Int)(P:Pc9):Int:=if P.em=true∨L=9218868437227405312 then 9218868437227405312 else BZ K L H P.A P.B
def iS (K:Nat)(L H:Int)(P:Pc9):Int:=if P.em=true∨L=9218868437227405312 then -9218868437227405312 else B0 K L H P.A P.B
theorem Ep (K:Nat)(L H:Int)(P:Pc9)(hx:VdZ L H)(hP:P.ok):VdZ (iR K L H P) (iS K L H P):=by
 unfold iR iS
 by_cases c:P.em=true∨L=9218868437227405312
 ·rw[if_pos c,if_pos c];exact Or.inl ⟨rfl,rfl⟩
 ·rw[if_neg c,if_neg c]
  have d:P.em=false:=by cases h:P.em;rfl;exact absurd (Or.inl h) c
  have a:=(hP d).1
  unfold VdZ at hx
  have b:-9218868437227405312<=L∧L<9218868437227405312∧-9218868437227405312<H∧H<=9218868437227405312∧L<=H:=by
   have:L≠9218868437227405312:=fun r=>c (Or.inr r)
   omega
  unfold BZ B0 VdZ
  by_cases g:nt K L H P.A P.B
  ·rw[if_pos g,if_pos g];exact Or.inl ⟨rfl,rfl⟩
  ·rw[if_neg g,if_neg g]
   have h:=(BF K L H P.A P.B a b g).1
   have f:=jr K P.A a.1
   have i:=js K P.B a.2.1
   omega
theorem Cr (K:Nat)(hK:K=1074)(P:Pc9)(L H:Int)(hx:VdZ L H)(hP:P.ok)(w:World)(v:Value)(h:PX9 P w v):Calls prog 92 #[.agg #[.int .u64 (pI L),.int .u64 (pI H)],v] w (RT (.agg #[.int .u64 (pI (iR K L H P)),.int .u64 (pI (iS K L H P))]) w):=by
 unfold iR iS
 rcases h with⟨ce,n9,oa,ob,ia,ib,f,c,n,b,m,j,i,a,q,p,k,l,o,d,V7,V8,C7,C8,rfl,-,-⟩|⟨ce,h⟩
 ·rw[if_pos (Or.inl ce),if_pos (Or.inl ce),lK,mJ]
  exact BV _ _ _ _ _ _ _ _ _ _ _ _ _ _ w
 ·by_cases c2:L=9218868437227405312
  ·have u:H = -9218868437227405312:=by unfold VdZ at hx;omega
   rw[if_pos (Or.inr c2),if_pos (Or.inr c2),c2,u,lK,mJ]
   obtain⟨f,c,n,b,m,j,i,a,q,p,k,l,o,d,rfl,z,y⟩:=h
   exact BW _ _ _ _ f c n b m j i a q p k l o d iW w
  ·have g:¬(P.em=true∨L=9218868437227405312):=by rintro(r|r);rw[ce]at r;cases r;exact c2 r
   rw[if_neg g,if_neg g]
   obtain⟨s,t,x⟩:=hP ce
   exact EN K hK L H P.A P.B hx c2 s t x w v h
theorem CH (K:Nat)(hK:K=1074)(P Q:Pc9)(a b:Nat)(L H:Int)(r:Rd a b L H)(hP:P.ok)(hQ:Q.ok)(w:World)(g:Nat)(n9 oa ob m9 ua ub:Bool)(ia ib ja jb:Int) s5 p5 l5 c5 q5 k5 d5 s6 p6 l6 c6 q6 k6 d6 s7 p7 l7 c7 q7 k7 d7 s8 p8 l8 c8 q8 k8 d8 (hb:BK w g #[.bool n9,.int .i64 ia,.bool s5,.slice p5 l5 c5,.slice q5 k5 d5,.int .i64 1,.bool oa,.int .i64 ib,.bool s6,.slice p6 l6 c6,.slice q6 k6 d6,.int .i64 1,.bool ob,.bool m9,.int .i64 ja,.bool s7,.slice p7 l7 c7,.slice q7 k7 d7,.int .i64 1,.bool ua,.int .i64 jb,.bool s8,.slice p8 l8 c8,.slice q8 k8 d8,.int .i64 1,.bool ub] 61)(h1:PX9 P w (.agg #[.bool n9,.int .i64 ia,.bool s5,.slice p5 l5 c5,.slice q5 k5 d5,.int .i64 1,.bool oa,.int .i64 ib,.bool s6,.slice p6 l6 c6,.slice q6 k6 d6,.int .i64 1,.bool ob]))(h2:PX9 Q w (.agg #[.bool m9,.int .i64 ja,.bool s7,.slice p7 l7 c7,.slice q7 k7 d7,.int .i64 1,.bool ua,.int .i64 jb,.bool s8,.slice p8 l8 c8,.slice q8 k8 d8,.int .i64 1,.bool ub])):Calls prog 44 #[.agg #[.int .u64 ((a:Nat):Int),.int .u64 ((b:Nat):Int)],.slice (some ⟨g,0,none⟩) 2 2] w (RT (.agg #[.int .u64 (pI (min (iR K L H P) (iR K L H Q))),.int .u64 (pI (max (iS K L H P) (iS K L H Q)))]) w):=by
 have c:=Ep K L H P r.vd hP
 have d:=Ep K L H Q r.vd hQ
 have q:=yI (some ⟨g,0,none⟩) 2 2 (by decide) (fun j=>match j with|0=>.bool n9|_=>.bool m9) (fun j=>match j with|0=>.int .i64 ia|_=>.int .i64 ja) (fun j=>match j with|0=>.bool s5|_=>.bool s7) (fun j=>match j with|0=>.slice p5 l5 c5|_=>.slice p7 l7 c7) (fun j=>match j with|0=>.slice q5 k5 d5|_=>.slice q7 k7 d7) (fun j=>match j with|0=>.int .i64 1|_=>.int .i64 1) (fun j=>match j with|0=>.bool oa|_=>.bool ua) (fun j=>match j with|0=>.int .i64 ib|_=>.int .i64 jb) (fun j=>match j with|0=>.bool s6|_=>.bool s8) (fun j=>match j with|0=>.slice p6 l6 c6|_=>.slice p8 l8 c8) (fun j=>match j with|0=>.slice q6 k6 d6|_=>.slice q8 k8 d8) (fun j=>match j with|0=>.int .i64 1|_=>.int .i64 1) (fun j=>match j with|0=>.bool ob|_=>.bool ub) (.int .u64 ((a:Nat):Int)) (.int .u64 ((b:Nat):Int)) L H (fun j=>match j with|0=>iR K L H P|_=>iR K L H Q) (fun j=>match j with|0=>iS K L H P|_=>iS K L H Q) w (oJ a b L H r)
  (Or.inr ⟨g,0,rfl,hb.lt,fun j hj=>by
   rcases(by omega:j=0∨j=1)with rfl|rfl
   ·exact⟨(hb.cell 0).trans rfl,(hb.cell 1).trans rfl,(hb.cell 2).trans rfl,(hb.cell 3).trans rfl,(hb.cell 4).trans rfl,(hb.cell 5).trans rfl,(hb.cell 6).trans rfl,(hb.cell 7).trans rfl,(hb.cell 8).trans rfl,(hb.cell 9).trans rfl,(hb.cell 10).trans rfl,(hb.cell 11).trans rfl,(hb.cell 12).trans rfl⟩
   ·exact⟨(hb.cell 13).trans rfl,(hb.cell 14).trans rfl,(hb.cell 15).trans rfl,(hb.cell 16).trans rfl,(hb.cell 17).trans rfl,(hb.cell 18).trans rfl,(hb.cell 19).trans rfl,(hb.cell 20).trans rfl,(hb.cell 21).trans rfl,(hb.cell 22).trans rfl,(hb.cell 23).trans rfl,(hb.cell 24).trans rfl,(hb.cell 25).trans rfl⟩⟩)
  (fun j hj=>by
   rcases(by omega:j=0∨j=1)with rfl|rfl
   ·exact⟨c,fun W k=>Cr K hK P L H r.vd hP W _ (h1.kp k)⟩
   ·exact⟨d,fun W k=>Cr K hK Q L H r.vd hQ W _ (h2.kp k)⟩) sk
 have h:nZ (fun j=>match j with|0=>iR K L H P|_=>iR K L H Q) 2=min (iR K L H P) (iR K L H Q):=by show min (min 9218868437227405312 (iR K L H P)) (iR K L H Q)=_;unfold VdZ at c;omega
 have f:oe (fun j=>match j with|0=>iS K L H P|_=>iS K L H Q) 2=max (iS K L H P) (iS K L H Q):=by show max (max (-9218868437227405312) (iS K L H P)) (iS K L H Q)=_;unfold VdZ at c;omega
 rw[h,f]at q
 exact q
theorem CJ (a b:Nat)(L H:Int)(r:Rd a b L H)(w:World):Calls prog 44 #[.agg #[.int .u64 ((a:Nat):Int),.int .u64 ((b:Nat):Int)],.slice none 0 0] w (RT (.agg #[.int .u64 9218868437227405312,.int .u64 18442240474082181120]) w):=by
 have q:=yI none 0 0 (by decide) (fun _=>.bool false) (fun _=>.bool false) (fun _=>.bool false) (fun _=>.bool false) (fun _=>.bool false) (fun _=>.bool false) (fun _=>.bool false) (fun _=>.bool false) (fun _=>.bool false) (fun _=>.bool false) (fun _=>.bool false) (fun _=>.bool false) (fun _=>.bool false) (.int .u64 ((a:Nat):Int)) (.int .u64 ((b:Nat):Int)) L H (fun _=>0) (fun _=>0) w (oJ a b L H r) (Or.inl rfl) (fun j hj=>absurd hj (by omega)) sk
 rw[show nZ (fun _=>0) 0=9218868437227405312 from rfl,show oe (fun _=>0) 0 = -9218868437227405312 from rfl,lK,mJ]at q
 exact q
theorem CI (K:Nat)(hK:K=1074)(P:Pc9)(a b:Nat)(L H:Int)(r:Rd a b L H)(hP:P.ok)(w:World)(g:Nat)(n9 oa ob:Bool)(ia ib:Int) s7 p7 l7 c7 q7 k7 d7 s8 p8 l8 c8 q8 k8 d8 (hb:BK w g #[.bool n9,.int .i64 ia,.bool s7,.slice p7 l7 c7,.slice q7 k7 d7,.int .i64 1,.bool oa,.int .i64 ib,.bool s8,.slice p8 l8 c8,.slice q8 k8 d8,.int .i64 1,.bool ob] 61)(h1:PX9 P w (.agg #[.bool n9,.int .i64 ia,.bool s7,.slice p7 l7 c7,.slice q7 k7 d7,.int .i64 1,.bool oa,.int .i64 ib,.bool s8,.slice p8 l8 c8,.slice q8 k8 d8,.int .i64 1,.bool ob])):Calls prog 44 #[.agg #[.int .u64 ((a:Nat):Int),.int .u64 ((b:Nat):Int)],.slice (some ⟨g,0,none⟩) 1 1] w (RT (.agg #[.int .u64 (pI (iR K L H P)),.int .u64 (pI (iS K L H P))]) w):=by
 have c:=Ep K L H P r.vd hP
 have q:=yI (some ⟨g,0,none⟩) 1 1 (by decide) (fun _=>.bool n9) (fun _=>.int .i64 ia) (fun _=>.bool s7) (fun _=>.slice p7 l7 c7) (fun _=>.slice q7 k7 d7) (fun _=>.int .i64 1) (fun _=>.bool oa) (fun _=>.int .i64 ib) (fun _=>.bool s8) (fun _=>.slice p8 l8 c8) (fun _=>.slice q8 k8 d8) (fun _=>.int .i64 1) (fun _=>.bool ob) (.int .u64 ((a:Nat):Int)) (.int .u64 ((b:Nat):Int)) L H (fun _=>iR K L H P) (fun _=>iS K L H P) w (oJ a b L H r)
  (Or.inr ⟨g,0,rfl,hb.lt,fun j hj=>by obtain rfl:j=0:=(by omega);exact⟨(hb.cell 0).trans rfl,(hb.cell 1).trans rfl,(hb.cell 2).trans rfl,(hb.cell 3).trans rfl,(hb.cell 4).trans rfl,(hb.cell 5).trans rfl,(hb.cell 6).trans rfl,(hb.cell 7).trans rfl,(hb.cell 8).trans rfl,(hb.cell 9).trans rfl,(hb.cell 10).trans rfl,(hb.cell 11).trans rfl,(hb.cell 12).trans rfl⟩⟩)
  (fun j hj=>⟨c,fun W k=>Cr K hK P L H r.vd hP W _ (h1.kp k)⟩) sk
 have f:nZ (fun _=>iR K L H P) 1=iR K L H P:=by show min 9218868437227405312 (iR K L H P)=_;unfold VdZ at c;omega
 have d:oe (fun _=>iS K L H P) 1=iS K L H P:=by show max (-9218868437227405312) (iS K L H P)=_;unfold VdZ at c;omega
 rw[f,d]at q
 exact q
end Go.Proofs.YtmpjcknaelgnoaaGreatDoor
