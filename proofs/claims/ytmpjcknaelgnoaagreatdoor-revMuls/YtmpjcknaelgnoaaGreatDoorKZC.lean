import Derived.Test.YtmpjcknaelgnoaaGreatDoorKEX
import Derived.Test.YtmpjcknaelgnoaaGreatDoorKYD
import Derived.Laws.Rows
import Derived.RangeFuncRecord
set_option maxHeartbeats 2000000
set_option maxRecDepth 20000
namespace Go.Proofs.YtmpjcknaelgnoaaGreatDoor
set_option linter.all false
open Go.RowKit Tryz
def lY (d V:Int):Nat:=if V=0 then 0 else gO (decide (V<0)) (dK 53 2098 9218868437227405311 9218868437227405312 (dU (decide (V<0)) d) (rV (dU (decide (V<0)) d) 53 V.natAbs 1 (-1074)))
theorem tM (d V:Int)(ng:Bool)(P:Nat)(hP:V.natAbs=P)(hng:V≠0->ng=decide (V<0)):uQ d ng P=lY d V:=by
 unfold uQ lY
 by_cases c:V=0
 ·rw[if_pos c,if_pos (by rw[<-hP,c];rfl)]
 ·rw[if_neg c,if_neg (by omega),hng c,hP]
theorem ze (d V W:Int)(K:Nat)(hK:K=1074)(h:W=V*((2^K:Nat):Int)):fg d V=lY d W:=by
 have b:(0:Int)<((2^K:Nat):Int):=by have:=ah K;omega
 obtain⟨a,c⟩:=sX V _ b
 rw[<-h]at a c
 rw[yZ d V (decide (V<0)) W.natAbs K hK (by rw[h,bI,aU]) (fun _=>rfl)]
 refine tM d W _ _ rfl (fun _=>?_)
 rw[decide_eq_decide];exact a
theorem C6 (d:Int)(ng:Bool)(c:Nat)(low V:Int)(h1:-2148<=low)(h2:low<=8192)(hb:aq c<=524288)(hV:V=if ng then -((c*2^(low+2148).toNat:Nat):Int) else ((c*2^(low+2148).toNat:Nat):Int)):tI d ng c low=lY d V:=by
 obtain⟨k,a⟩:=aA ((low+2148).toNat)
 rw[<-a]at hV
 rw[C5 d ng c low (c*2^k) h1 h2 hb (by rw[a])]
 obtain⟨C,f⟩:=aA (c*2^k)
 rw[<-f]at hV|-
 refine tM d V ng _ ?_ ?_
 ·rw[hV];cases ng<;>simp
 ·intro b
  rw[hV]at b|-
  cases ng
  ·simp
  ·simp at b|-;omega
theorem vf (s t:Bool)(a b:Nat)(ea eb low:Int)(ea1:-2148<=ea)(eb1:-2148<=eb)(hlow:low=min ea eb)(X Y:Int)(hX:X=if s then -((a*2^(ea+2148).toNat:Nat):Int) else ((a*2^(ea+2148).toNat:Nat):Int))(hY:Y=if t then -((b*2^(eb+2148).toNat:Nat):Int) else ((b*2^(eb+2148).toNat:Nat):Int))(A' B':Nat)(hA:A'=a*2^(ea-low).toNat)(hB:B'=b*2^(eb-low).toNat) :
  (s=t->X+Y=if s then -(((A'+B')*2^(low+2148).toNat:Nat):Int) else (((A'+B')*2^(low+2148).toNat:Nat):Int))∧(s≠t->B'<=A'->X+Y=if s then -(((A'-B')*2^(low+2148).toNat:Nat):Int) else (((A'-B')*2^(low+2148).toNat:Nat):Int))∧(s≠t->A'<B'->X+Y=if t then -(((B'-A')*2^(low+2148).toNat:Nat):Int) else (((B'-A')*2^(low+2148).toNat:Nat):Int)):=by
 obtain⟨k,f⟩:=aA ((low+2148).toNat)
 have j:a*2^(ea+2148).toNat=A'*2^k:=by rw[hA,ak,<-ag];congr 2;omega
 have i:b*2^(eb+2148).toNat=B'*2^k:=by rw[hB,ak,<-ag];congr 2;omega
 rw[j]at hX
 rw[i]at hY
 rw[<-f,aH,Nat.sub_mul,Nat.sub_mul]
 have c:=fun h2:B'<=A'=>ai (2^k) h2
 have d:=fun h2:A'<B'=>ai (2^k) (bO h2)
 generalize A'*2^k=a2 at hX c d|-
 generalize B'*2^k=b2 at hY c d|-
 refine⟨fun h=>?_,fun h h2=>?_,fun h h2=>?_⟩
 ·rw[hX,hY,<-h];cases s
  ·rw[if_neg (by simp),if_neg (by simp),if_neg (by simp)];omega
  ·rw[if_pos rfl,if_pos rfl,if_pos rfl];omega
 ·have g:=c h2
  rw[hX,hY]
  cases s<;>cases t<;>simp only[if_true,if_false,Bool.false_eq_true,ne_eq,not_true_eq_false,not_false_eq_true]at h|-<;>omega
 ·have g:=d h2
  rw[hX,hY]
  cases s<;>cases t<;>simp only[if_true,if_false,Bool.false_eq_true,ne_eq,not_true_eq_false,not_false_eq_true]at h|-<;>omega
theorem uI (a b:Nat)(ea eb:Int)(la:aq a<=106)(lb:aq b<=106)(ea1:-2148<=ea)(ea2:ea<=4096)(eb1:-2148<=eb)(eb2:eb<=4096)(s t:Bool)(X Y:Int)(hX:X=if s then -((a*2^(ea+2148).toNat:Nat):Int) else ((a*2^(ea+2148).toNat:Nat):Int))(hY:Y=if t then -((b*2^(eb+2148).toNat:Nat):Int) else ((b*2^(eb+2148).toNat:Nat):Int)) :
  ∃(ng:Bool)(c:Nat)(low:Int),(∀d:Int,tI d ng c low=lY d (X+Y))∧aS c<=16384∧∀(va vb:Value)(w:World),Ls w va (az a)->Ls w vb (az b)->Calls prog 179 #[.agg #[.bool s,va,.int .i64 ea],.agg #[.bool t,vb,.int .i64 eb]] w fun e w'=>∃v,e=.returned (.agg #[.bool ng,v,.int .i64 low])∧Ls w' v (az c)∧Kp w w':=by
 obtain⟨low,h⟩:=aA (min ea eb)
 obtain⟨g,o⟩:=aA (a*2^(ea-low).toNat)
 obtain⟨f,n⟩:=aA (b*2^(eb-low).toNat)
 obtain⟨H,G,F⟩:=vf s t a b ea eb low ea1 eb1 h X Y hX hY g f o n
 obtain⟨j,J⟩:∃j:Nat,j=8192:=⟨_,rfl⟩
 have r:∀(u:Nat)(e:Int)(U:Nat),aq u<=106->e<=8000->U=u*2^e.toNat->aq U<=j:=fun u e U E L h3=>by
  rw[h3,ay]
  have M:2^106*2^e.toNat<=2^j:=by rw[<-ag];exact al (by omega) (by omega)
  have I:u*2^e.toNat<2^106*2^e.toNat:=am ((ay u 106).1 E) (ah _)
  exact aE I M
 have N:=r a (ea-low) g la (by omega) o
 have K:=r b (eb-low) f lb (by omega) n
 have D:∀c:Nat,c<=g+f->aq c<=j+1:=fun c hc=>by
  have E:=(ay g j).1 N
  have L:=(ay f j).1 K
  rw[ay,aF];omega
 have i:∀(ng:Bool)(c:Nat),c<=g+f->(X+Y=if ng then -((c*2^(low+2148).toNat:Nat):Int) else ((c*2^(low+2148).toNat:Nat):Int))->(∀d:Int,tI d ng c low=lY d (X+Y))∧aS c<=16384:=fun ng c hc hv=>by
  have E:=D c hc
  exact⟨fun d=>C6 d ng c low _ (by omega) (by omega) (by omega) hv,dZ c 16384 (by omega)⟩
 by_cases k:s=t
 ·obtain⟨l,m⟩:=i s (g+f) (ao _) (H k)
  refine⟨s,g+f,low,l,m, ?_⟩
  rintro va vb w ⟨p,C,rfl,y,z⟩ ⟨q,B,rfl,A,x⟩
  exact qt s t a b ea eb low p q C B w y z A x la lb ea1 ea2 eb1 eb2 h g f o n k
 ·by_cases c2:f<=g
  ·obtain⟨l,m⟩:=i s (g-f) (by omega) (G k c2)
   refine⟨s,g-f,low,l,m, ?_⟩
   rintro va vb w ⟨p,C,rfl,y,z⟩ ⟨q,B,rfl,A,x⟩
   exact qr s t a b ea eb low p q C B w y z A x la lb ea1 ea2 eb1 eb2 h g f o n k c2
  ·obtain⟨l,m⟩:=i t (f-g) (by omega) (F k (by omega))
   refine⟨t,f-g,low,l,m, ?_⟩
   rintro va vb w ⟨p,C,rfl,y,z⟩ ⟨q,B,rfl,A,x⟩
   exact qo s t a b ea eb low p q C B w y z A x la lb ea1 ea2 eb1 eb2 h g f o n k (by omega)
theorem CT (d:Int)(n n' nz:Bool)(m m' mz:Nat)(c1:(2580562586483294208<=m∧m<=6633802251116740608))(c2:(2580562586483294208<=m'∧m'<=6633802251116740608))(cz:mz<=9110782046170513408)(L:Nat)(hL:L=1074)(w:World)(hT:Tab w)(hQ:Fq.Tab w)(hd1:-9223372036854775808<=d)(hd2:d<9223372036854775808) :
  Calls prog 161 #[.int .i64 d,.float .f64 (Fq.wD n m),.float .f64 (Fq.wD n' m'),.float .f64 (Fq.wD nz mz)] w (RT (.float .f64 (lY d (Iv n m*Iv n' m'+Iv nz mz*((2^L:Nat):Int)))) w):=by
 have l:=ix n m (by omega) w
 have c:=ix n' m' (by omega) w
 have h:=mw nz mz (by omega) w
 rw[af c1]at l
 rw[af c2]at c
 rw[af cz]at h
 obtain⟨V,D,t,B,y,C,u,x,z,a⟩:=DJ n n' nz m m' mz c1 c2 cz L hL
 have o:=fun f (k:Kp w f)=>xk d D t B y u x f (hT.grown k) (Fq.Tab.grown hQ k) hd1 hd2
 rw[a d,ze d V _ L hL rfl,C]at o
 have b:=z w
 obtain⟨R,s⟩:=aA (lY d (Iv n m*Iv n' m'+Iv nz mz*((2^L:Nat):Int)))
 obtain⟨X,g⟩:=aA (Fq.wD n m)
 obtain⟨Y,i⟩:=aA (Fq.wD n' m')
 obtain⟨Z,j⟩:=aA (Fq.wD nz mz)
 obtain⟨H,q⟩:=aA (Fq.wD D B)
 obtain⟨O,r⟩:=aA (Fq.wD t y)
 rw[<-g]at l
 rw[<-i]at c
 rw[<-j]at h
 rw[<-g,<-i,<-j,<-q,<-r]at b
 rw[<-q,<-r,<-s]at o
 rw[<-g,<-i,<-j,<-s]
 clear g i j q r s c1 c2 cz C u x z a hT hQ hd1 hd2 hL
 go_enter func161,ntmps161
 go_wp2
 refine wp_scope_straight ?_
 go_wp2_with fail
 refine SM l ?_;clear l
 go_wp2_with fail
 refine SM c ?_;clear c
 go_wp2_with fail
 refine SM h ?_;clear h
 go_wp2_with fail
 refine b.mono ?_;rintro e f ⟨rfl,p⟩
 have E:=o f p
 clear b o
 go_wp2_with fail
 refine E.mono ?_;rintro e G ⟨rfl,A⟩
 have F:=p.trans A
 clear E p A
 go_wp2
 try rw[Exit.noGoto_ret]
 exact BR ⟨rfl,F⟩
theorem CU (d:Int)(n n' nz:Bool)(m m' mz:Nat)(hm:m<9218868437227405312)(hm':m'<9218868437227405312)(hmz:mz<9218868437227405312)(ct:¬((2580562586483294208<=m∧m<=6633802251116740608)∧(2580562586483294208<=m'∧m'<=6633802251116740608)∧mz<=9110782046170513408))(L:Nat)(hL:L=1074)(w:World)(hT:Tab w)(hQ:Fq.Tab w)(hd1:-9223372036854775808<=d)(hd2:d<9223372036854775808) :
  Calls prog 161 #[.int .i64 d,.float .f64 (Fq.wD n m),.float .f64 (Fq.wD n' m'),.float .f64 (Fq.wD nz mz)] w (RT (.float .f64 (lY d (Iv n m*Iv n' m'+Iv nz mz*((2^L:Nat):Int)))) w):=by
 have j:=ix n m (by omega) w
 have i:=ix n' m' (by omega) w
 have F:=mw nz mz (by omega) w
 have g1:=fO n m (by omega) w
 have g2:=fO n' m' (by omega) w
 have Q:=fO nz mz (by omega) w
 rw[af hm]at g1
 rw[af hm']at g2
 rw[af hmz]at Q
 obtain⟨a,C,a1,a2,a3,a4,ta⟩:=mx n m hm
 obtain⟨b,y,b1,b2,b3,b4,tb⟩:=mx n' m' hm'
 obtain⟨c,ec,o,c2,c3,c4,tc⟩:=mx nz mz hmz
 obtain⟨s,hs⟩:=aA (n && !(m == 0))
 obtain⟨t,ht⟩:=aA (n' && !(m' == 0))
 obtain⟨u,hu⟩:=aA (nz && !(mz == 0))
 rw[<-hs]at ta
 rw[<-ht]at tb
 rw[<-hu]at tc
 have sv:∀(q:Bool)(p:Nat),Iv q p=if (q && !(p == 0)) then -((Fq.vV Ieee.double p:Nat):Int) else ((Fq.vV Ieee.double p:Nat):Int):=fun q p=>by
  unfold Iv
  by_cases z:p=0
  ·rw[(gj p).2 z];cases q<;>simp
  ·rw[show(q && !(p == 0))=q from by simp[z]]
 have iX:=sv n m
 have iY:=sv n' m'
 have iZ:=sv nz mz
 rw[<-hs,<-a1]at iX
 rw[<-ht,<-b1]at iY
 rw[<-hu,<-o]at iZ
 have ba:aq a<=53:=by rw[ay,show(2:Nat)^53=9007199254740992 from by decide];exact a4
 have bb:aq b<=53:=by rw[ay,show(2:Nat)^53=9007199254740992 from by decide];exact b4
 have bc:aq c<=53:=by rw[ay,show(2:Nat)^53=9007199254740992 from by decide];exact c4
 have cd:aq (a*b)<=106:=by
  have h:aq (a*b)<=53+53:=by
   rw[ay,ag]
   exact Nat.mul_lt_mul'' ((ay a 53).1 ba) ((ay b 53).1 bb)
  omega
 obtain⟨ng,cc,low,f1,f2,hp⟩:=uI (a*b) c (C+y) ec cd (by omega) (by omega) (by omega) (by omega) (by omega) (s ^^ t) u (Iv n m*Iv n' m') (Iv nz mz*((2^L:Nat):Int)) (by
   rw[iX,iY,show(C+y+2148).toNat=(C+1074).toNat+(y+1074).toNat from by omega,ag]
   have e:a*b*(2^(C+1074).toNat*2^(y+1074).toNat)=a*2^(C+1074).toNat*(b*2^(y+1074).toNat):=by ac_rfl
   rw[e,aK]
   cases s<;>cases t<;>simp[bF,Int.mul_neg]) (by
   rw[iZ,show(ec+2148).toNat=(ec+1074).toNat+L from by omega,ag,<-ak,aK]
   cases u<;>simp[bF])
 obtain⟨R,hR⟩:=aA (lY d (Iv n m*Iv n' m'+Iv nz mz*((2^L:Nat):Int)))
 have hr:∀(v:Value)(g:World),Kp w g->Ls g v (az cc)->Calls prog 180 #[.agg #[.bool ng,v,.int .i64 low],.int .i64 d] g (RT (.float .f64 R) g):=fun v g H l1=>by
  rw[hR,<-f1 d];exact qj d ng cc low v g l1 (hT.grown H) (Fq.Tab.grown hQ H) hd1 hd2 f2
 have l:=fun va vb g la lb=>B6 s t a b C y va vb g la lb a4 b4 a2 a3 b2 b3
 obtain⟨X,hX⟩:=aA (Fq.wD n m)
 obtain⟨Y,hY⟩:=aA (Fq.wD n' m')
 obtain⟨Z,hZ⟩:=aA (Fq.wD nz mz)
 rw[<-hX]at j g1 ta
 rw[<-hY]at i g2 tb
 rw[<-hZ]at F Q tc
 rw[<-hX,<-hY,<-hZ,<-hR]
 have B:=ta w hQ
 have x:=fun g (k:Kp w g)=>tb g (Fq.Tab.grown hQ k)
 have E:=fun g (k:Kp w g)=>tc g (Fq.Tab.grown hQ k)
 obtain⟨ee,A⟩:=aA (C+y)
 obtain⟨st,D⟩:=aA (s ^^ t)
 rw[<-A,<-D]at hp
 simp only[<-A,<-D]at l
 have HT:Hid ((2580562586483294208<=m∧m<=6633802251116740608)->(2580562586483294208<=m'∧m'<=6633802251116740608)->¬mz<=9110782046170513408):=fun h h' i=>ct ⟨h,h',i⟩
 clear hX hY hZ hR f1 f2 a1 a2 a3 a4 b1 b2 b3 b4 o c2 c3 c4 ta tb tc hT hQ hd1 hd2 ct hm hm' hmz hs ht hu sv iX iY iZ ba bb bc cd A D hL
 go_enter func161,ntmps161
 go_wp2
 refine wp_scope_jumps 0 (fun a' w'=>w'=w∧∃u4 u5 u6 u7 u8 u9 ad cg bv bn cn bp cp bm T bH b9 cf bx N a7 K bq bl V ce bf cu cj cm br a0 cs aw ci cq ck bB b0 P ar bX a8 cv bR cx cr U bt aj bA I cb b5 au ch bL O M W:Value,a'=⟨#[.int .i64 d,.float .f64 X,.float .f64 Y,.float .f64 Z,u4,u5,u6,u7,u8,u9,ad,cg,bv,bn,cn,bp,cp,bm,T,bH,b9,cf,bx,N,a7,K,bq,bl,V,ce,bf,cu,cj,cm,br,a0,cs,aw,ci,cq,ck,bB,b0,P,ar,bX,a8,cv,bR,cx,cr,U,bt,aj,bA,I,cb,b5,au,ch,bL,O,M,W],[]⟩) (fun _ _=>0) rfl ?_ ?_
 ·clear g1 g2 Q B x E hp hr l
  by_cases o:(2580562586483294208<=m∧m<=6633802251116740608)
  ·rw[af o]at j
   by_cases c2:(2580562586483294208<=m'∧m'<=6633802251116740608)
   ·rw[af c2]at i
    rw[ae (HT.out o c2)]at F
    clear o c2 HT
    go_wp2_with fail
    refine SM j ?_;clear j
    go_wp2_with fail
    refine SM i ?_;clear i
    go_wp2_with fail
    refine SM F ?_;clear F
    go_wp2_with fail
    go_step3
    exact⟨rfl,rfl,_,_,_,_,_,_,_,_,_,_,_,_,_,_,_,_,_,_,_,_,_,_,_,_,_,_,_,_,_,_,_,_,_,_,_,_,_,_,_,_,_,_,_,_,_,_,_,_,_,_,_,_,_,_,_,_,_,_,_,_,rfl⟩
   ·rw[ae c2]at i
    clear o c2 HT F
    go_wp2_with fail
    refine SM j ?_;clear j
    go_wp2_with fail
    refine SM i ?_;clear i
    go_wp2_with fail
    go_step3
    exact⟨rfl,rfl,_,_,_,_,_,_,_,_,_,_,_,_,_,_,_,_,_,_,_,_,_,_,_,_,_,_,_,_,_,_,_,_,_,_,_,_,_,_,_,_,_,_,_,_,_,_,_,_,_,_,_,_,_,_,_,_,_,_,_,_,rfl⟩
  ·rw[ae o]at j
   clear o HT i F
   go_wp2_with fail
   refine SM j ?_;clear j
   go_wp2_with fail
   go_step3
   exact⟨rfl,rfl,_,_,_,_,_,_,_,_,_,_,_,_,_,_,_,_,_,_,_,_,_,_,_,_,_,_,_,_,_,_,_,_,_,_,_,_,_,_,_,_,_,_,_,_,_,_,_,_,_,_,_,_,_,_,_,_,_,_,_,_,rfl⟩
 ·rintro a' w' ⟨rfl,u4,u5,u6,u7,u8,u9,ad,cg,bv,bn,cn,bp,cp,bm,T,bH,b9,cf,bx,N,a7,K,bq,bl,V,ce,bf,cu,cj,cm,br,a0,cs,aw,ci,cq,ck,bB,b0,P,ar,bX,a8,cv,bR,cx,cr,U,bt,aj,bA,I,cb,b5,au,ch,bL,O,M,W,rfl⟩
  clear j i F HT
  go_wp2_with fail
  refine g1.mono ?_;rintro e w9 ⟨rfl,f⟩;obtain rfl:=f.symm;clear f g1
  go_wp2_with fail
  refine g2.mono ?_;rintro e w9 ⟨rfl,f⟩;obtain rfl:=f.symm;clear f g2
  go_wp2_with fail
  refine Q.mono ?_;rintro e w9 ⟨rfl,f⟩;obtain rfl:=f.symm;clear f Q
  go_wp2_with fail
  refine B.mono ?_;rintro e g ⟨va,rfl,S,H⟩
  have bu:=x g H
  clear B x
  go_wp2_with fail
  refine bu.mono ?_;rintro e w2 ⟨vb,rfl,ab,k2⟩
  have cl:=l va vb w2 (S.kp k2) ab
  have bE:=H.trans k2
  clear bu l S ab H k2
  go_wp2_with fail
  refine cl.mono ?_;rintro e w3 ⟨vp,rfl,aa,k3⟩
  have r:=bE.trans k3
  have ca:=E w3 r
  clear cl bE k3 E
  go_wp2_with fail
  refine ca.mono ?_;rintro e w4 ⟨vc,rfl,a9,k4⟩
  have a6:=hp vp vc w4 (aa.kp k4) a9
  have J:=r.trans k4
  clear ca hp aa a9 r k4
  go_wp2_with fail
  refine a6.mono ?_;rintro e w5 ⟨v,rfl,lv,k5⟩
  have G:=J.trans k5
  have co:=hr v w5 G lv
  clear a6 hr J k5 lv
  go_wp2_with fail
  refine co.mono ?_;rintro e w6 ⟨rfl,k6⟩
  have dk:=G.trans k6
  clear co G k6
  go_wp2
  try simp only[Exit.jump]
  exact BR ⟨rfl,dk⟩
set_option maxHeartbeats 20000000 in
theorem mg:(∀(d:Int)(n n' nz:Bool)(m m' mz:Nat)(hm:m<9223372036854775808)(hm':m'<9223372036854775808)(hmz:mz<9223372036854775808)(hi:¬(m<9218868437227405312∧m'<9218868437227405312))(w w8 w9:World)(RP RR:Nat)(hrun1:(binOp .mul 27 (.float .f64 (Fq.wD n m)) (.float .f64 (Fq.wD n' m'))).run prog w=.ok (.float .f64 RP) w8)(hrun2:(binOp .add 27 (.float .f64 RP) (.float .f64 (Fq.wD nz mz))).run prog w8=.ok (.float .f64 RR) w9)(hk:Kp w w9),Calls prog 161 #[.int .i64 d,.float .f64 (Fq.wD n m),.float .f64 (Fq.wD n' m'),.float .f64 (Fq.wD nz mz)] w (RT (.float .f64 RR) w))∧(∀(d:Int)(n n' nz:Bool)(m m' mz:Nat)(hm:m<9223372036854775808)(hm':m'<9223372036854775808)(hmz:mz<9223372036854775808)(i1:m<9218868437227405312)(i2:m'<9218868437227405312)(i3:¬mz<9218868437227405312)(w:World),Calls prog 161 #[.int .i64 d,.float .f64 (Fq.wD n m),.float .f64 (Fq.wD n' m'),.float .f64 (Fq.wD nz mz)] w (RT (.float .f64 (Fq.wD nz mz)) w)):=by
 refine⟨?_,?_⟩
 case' refine_1=>intro d n n' nz m m' mz hm hm' hmz hi w w8 w9 RP RR hrun1 hrun2 hk;have l:=trivial
 case' refine_2=>intro d n n' nz m m' mz hm hm' hmz i1 i2 i3 w;have k:=trivial
 all_goals (
  have f:=ix n m hm w
  have g:=ix n' m' hm' w
  have i:=mw nz mz hmz w
  have j:=fO n m hm w
  have p:=fO n' m' hm' w
  have q:=fO nz mz hmz w
  obtain⟨X,y⟩:=aA (Fq.wD n m)
  obtain⟨Y,C⟩:=aA (Fq.wD n' m')
  obtain⟨Z,r⟩:=aA (Fq.wD nz mz)
  first
  |(have b:=l;clear b)
  |(
    have b:=k;clear b
    rw[af i1]at j
    rw[af i2]at p
    rw[ae i3]at q)
  rw[<-y]at f j
  rw[<-C]at g p
  first
  |(
    have b:=l;clear b
    rw[<-r]at i
    rw[<-y,<-C]at hrun1
    rw[<-r]at hrun2)
  |(have b:=k;clear b;rw[<-r]at i q)
  rw[<-y,<-C,<-r]
  first
  |(
    have b:=l;clear b
    have o:Hid ((2580562586483294208<=m∧m<=6633802251116740608)->(2580562586483294208<=m'∧m'<=6633802251116740608)->¬mz<=9110782046170513408):=fun h h' g=>hi ⟨by omega,by omega⟩
    have HI:Hid (m<9218868437227405312->¬m'<9218868437227405312):=fun h h'=>hi ⟨h,h'⟩
    clear y C r hm hm' hmz hi q)
  |(
    have b:=k;clear b
    have o:Hid ((2580562586483294208<=m∧m<=6633802251116740608)->(2580562586483294208<=m'∧m'<=6633802251116740608)->¬mz<=9110782046170513408):=fun h h' g=>by omega
    clear y C r hm hm' hmz i1 i2 i3)
  go_enter func161,ntmps161
  go_wp2
  refine wp_scope_jumps 0 (fun a' w'=>w'=w∧∃u4 u5 u6 u7 u8 u9 N aa a7 a1 a9 a2 bb a0 J u I W ba E ad t a4 aw L U au bn ar a8 a5 V Q T an bc a3 bm D G R B aj bo A bp bf K a6 O bl s P H S ab x F z M:Value,a'=⟨#[.int .i64 d,.float .f64 X,.float .f64 Y,.float .f64 Z,u4,u5,u6,u7,u8,u9,N,aa,a7,a1,a9,a2,bb,a0,J,u,I,W,ba,E,ad,t,a4,aw,L,U,au,bn,ar,a8,a5,V,Q,T,an,bc,a3,bm,D,G,R,B,aj,bo,A,bp,bf,K,a6,O,bl,s,P,H,S,ab,x,F,z,M],[]⟩) (fun _ _=>0) rfl ?_ ?_
  first
  |(
    have b:=l;clear b
    ·clear j p hrun1 hrun2 HI
     by_cases c:(2580562586483294208<=m∧m<=6633802251116740608)
     ·rw[af c]at f
      by_cases c2:(2580562586483294208<=m'∧m'<=6633802251116740608)
      ·rw[af c2]at g
       rw[ae (o.out c c2)]at i
       clear c c2 o
       go_wp2_with fail
       refine SM f ?_;clear f
       go_wp2_with fail
       refine SM g ?_;clear g
       go_wp2_with fail
       refine SM i ?_;clear i
       go_wp2_with fail
       go_step3
       exact⟨rfl,rfl,_,_,_,_,_,_,_,_,_,_,_,_,_,_,_,_,_,_,_,_,_,_,_,_,_,_,_,_,_,_,_,_,_,_,_,_,_,_,_,_,_,_,_,_,_,_,_,_,_,_,_,_,_,_,_,_,_,_,_,_,rfl⟩
      ·rw[ae c2]at g
       clear c c2 o i
       go_wp2_with fail
       refine SM f ?_;clear f
       go_wp2_with fail
       refine SM g ?_;clear g
       go_wp2_with fail
       go_step3
       exact⟨rfl,rfl,_,_,_,_,_,_,_,_,_,_,_,_,_,_,_,_,_,_,_,_,_,_,_,_,_,_,_,_,_,_,_,_,_,_,_,_,_,_,_,_,_,_,_,_,_,_,_,_,_,_,_,_,_,_,_,_,_,_,_,_,rfl⟩
     ·rw[ae c]at f
      clear c o g i
      go_wp2_with fail
      refine SM f ?_;clear f
      go_wp2_with fail
      go_step3
      exact⟨rfl,rfl,_,_,_,_,_,_,_,_,_,_,_,_,_,_,_,_,_,_,_,_,_,_,_,_,_,_,_,_,_,_,_,_,_,_,_,_,_,_,_,_,_,_,_,_,_,_,_,_,_,_,_,_,_,_,_,_,_,_,_,_,rfl⟩)
  |(
    have b:=k;clear b
    ·clear j p q
     by_cases c:(2580562586483294208<=m∧m<=6633802251116740608)
     ·rw[af c]at f
      by_cases c2:(2580562586483294208<=m'∧m'<=6633802251116740608)
      ·rw[af c2]at g
       rw[ae (o.out c c2)]at i
       clear c c2 o
       go_wp2_with fail
       refine SM f ?_;clear f
       go_wp2_with fail
       refine SM g ?_;clear g
       go_wp2_with fail
       refine SM i ?_;clear i
       go_wp2_with fail
       go_step3
       exact⟨rfl,rfl,_,_,_,_,_,_,_,_,_,_,_,_,_,_,_,_,_,_,_,_,_,_,_,_,_,_,_,_,_,_,_,_,_,_,_,_,_,_,_,_,_,_,_,_,_,_,_,_,_,_,_,_,_,_,_,_,_,_,_,_,rfl⟩
      ·rw[ae c2]at g
       clear c c2 o i
       go_wp2_with fail
       refine SM f ?_;clear f
       go_wp2_with fail
       refine SM g ?_;clear g
       go_wp2_with fail
       go_step3
       exact⟨rfl,rfl,_,_,_,_,_,_,_,_,_,_,_,_,_,_,_,_,_,_,_,_,_,_,_,_,_,_,_,_,_,_,_,_,_,_,_,_,_,_,_,_,_,_,_,_,_,_,_,_,_,_,_,_,_,_,_,_,_,_,_,_,rfl⟩
     ·rw[ae c]at f
      clear c o g i
      go_wp2_with fail
      refine SM f ?_;clear f
      go_wp2_with fail
      go_step3
      exact⟨rfl,rfl,_,_,_,_,_,_,_,_,_,_,_,_,_,_,_,_,_,_,_,_,_,_,_,_,_,_,_,_,_,_,_,_,_,_,_,_,_,_,_,_,_,_,_,_,_,_,_,_,_,_,_,_,_,_,_,_,_,_,_,_,rfl⟩)
  ·rintro a' w' ⟨rfl,u4,u5,u6,u7,u8,u9,N,aa,a7,a1,a9,a2,bb,a0,J,u,I,W,ba,E,ad,t,a4,aw,L,U,au,bn,ar,a8,a5,V,Q,T,an,bc,a3,bm,D,G,R,B,aj,bo,A,bp,bf,K,a6,O,bl,s,P,H,S,ab,x,F,z,M,rfl⟩
   clear f g i o
   first
   |(
     have b:=l;clear b
     by_cases c:m<9218868437227405312
     ·rw[af c]at j
      rw[ae (HI.out c)]at p
      clear c HI
      go_wp2_with fail
      refine j.mono ?_;rintro e w7 ⟨rfl,a⟩;obtain rfl:=a.symm;clear a j
      go_wp2_with fail
      refine p.mono ?_;rintro e w7 ⟨rfl,a⟩;obtain rfl:=a.symm;clear a p
      go_wp2
      try simp only[Exit.jump]
      exact BR ⟨rfl,hk⟩
     ·rw[ae c]at j
      clear c HI p
      go_wp2_with fail
      refine j.mono ?_;rintro e w7 ⟨rfl,a⟩;obtain rfl:=a.symm;clear a j
      go_wp2
      try simp only[Exit.jump]
      exact BR ⟨rfl,hk⟩)
   |(
     have b:=k;clear b
     go_wp2_with fail
     refine j.mono ?_;rintro e w9 ⟨rfl,a⟩;obtain rfl:=a.symm;clear a j
     go_wp2_with fail
     refine p.mono ?_;rintro e w9 ⟨rfl,a⟩;obtain rfl:=a.symm;clear a p
     go_wp2_with fail
     refine q.mono ?_;rintro e w9 ⟨rfl,a⟩;obtain rfl:=a.symm;clear a q
     go_wp2
     try simp only[Exit.jump]
     exact BR ⟨rfl,Kp.refl _⟩))
def pz (z:Int):Nat:=Fq.wD (decide (z<0)) z.natAbs
def gE (d:Int)(c1 c2:Nat)(V:Int):Int:=uY 53 2098 9218868437227405311 9218868437227405312 d c1 c2 V
theorem gS (d:Int)(c1 c2:Nat)(V:Int):-9218868437227405312<=gE d c1 c2 V∧gE d c1 c2 V<=9218868437227405312:=DG 53 2098 9218868437227405311 9218868437227405312 d c1 c2 (by decide) (by decide) (by decide) (by decide) V
theorem oT (s:Bool)(M:Nat):gO s M=pz (if s then -(M:Int) else M):=by
 unfold gO pz Fq.wD
 by_cases z:M=0
 ·rw[if_pos z,z];cases s<;>simp
 ·rw[if_neg z]
  cases s
  ·simp<;>omega
  ·simp<;>omega
theorem Ce (d V:Int):fg d V=pz (gE d 1 1 V):=by
 unfold fg gE uY
 by_cases z:V=0
 ·rw[if_pos z,if_pos z];rfl
 ·rw[if_neg z,if_neg z,oT,aG]
  by_cases n:V<0
  ·rw[if_pos n,af n];rfl
  ·rw[if_neg n,ae n];rfl
theorem CK (d:Int)(A K:Nat):rV d 53 A 1 (-(K:Int))=rU d 53 (A*1) (2^K):=by
 unfold rV
 rw[show(-(K:Int)).toNat=0 from by omega,show(- -(K:Int)).toNat=K from by omega,aB,aN]
theorem wQ (d:Int)(A B K:Nat):rV d 53 A B (K:Int)=rU d 53 (A*2^K) B:=by
 unfold rV
 rw[show((K:Int)).toNat=K from by omega,show(-(K:Int)).toNat=0 from by omega,aB,aG]
theorem DL (K:Nat)(hK:K=1074)(d V:Int):lY d V=pz (gE d 1 (2^K) V):=by
 unfold lY gE uY
 rw[show(-1074:Int) = -(K:Int)from by omega]
 by_cases z:V=0
 ·rw[if_pos z,if_pos z];rfl
 ·rw[if_neg z,if_neg z,oT,CK]
  by_cases n:V<0
  ·rw[if_pos n,af n];rfl
  ·rw[if_neg n,ae n];rfl
theorem DU (K:Nat)(hK:K=1074)(d:Int)(n:Bool)(m B:Nat):iO d (n ^^ false) (Fq.vV Ieee.double m) B=pz (gE d (2^K) B (Iv n m)):=by
 rw[show(n ^^ false)=n from by cases n<;>rfl]
 unfold iO gE uY
 rw[show(1074:Int)=(K:Int)from by omega]
 have e:Iv n m=if n then -((Fq.vV Ieee.double m:Nat):Int) else ((Fq.vV Ieee.double m:Nat):Int):=by unfold Iv;cases n<;>rfl
 rw[e]
 generalize Fq.vV Ieee.double m=P
 by_cases z:P=0
 ·rw[if_pos z,z,if_pos (by cases n<;>rfl)];rfl
 ·rw[if_neg z,if_neg (by cases n<;>simp<;>omega),oT,wQ]
  cases n
  ·simp only[Bool.false_eq_true,if_false]
   rw[if_neg (show ¬((P:Nat):Int)<0 by omega),show((P:Nat):Int).natAbs=P from by omega]
  ·simp only[if_true]
   rw[if_pos (show -((P:Nat):Int)<0 by omega),show(-((P:Nat):Int)).natAbs=P from by omega]
set_option linter.all false
theorem Gc (d:Int)(n n':Bool)(m m':Nat)(hm:m<9218868437227405312)(hm':m'<9218868437227405312)(hd1:-9223372036854775808<=d)(hd2:d<9223372036854775808)(w:World)(hT:Tab w)(hQ:Fq.Tab w):Calls prog 140 #[.int .i64 d,.float .f64 (Fq.wD n m),.float .f64 (Fq.wD n' m')] w (RT (.float .f64 (pz (gE d 1 1 (Iv n m+Iv n' m')))) w):=by
 rw[<-Ce]
 exact xk d n n' m m' hm hm' w hT hQ hd1 hd2
theorem FH (K:Nat)(hK:K=1074)(d:Int)(n n' nz:Bool)(m m' mz:Nat)(hm:m<9218868437227405312)(hm':m'<9218868437227405312)(hmz:mz<9218868437227405312)(hd1:-9223372036854775808<=d)(hd2:d<9223372036854775808)(w:World)(hT:Tab w)(hQ:Fq.Tab w):Calls prog 161 #[.int .i64 d,.float .f64 (Fq.wD n m),.float .f64 (Fq.wD n' m'),.float .f64 (Fq.wD nz mz)] w (RT (.float .f64 (pz (gE d 1 (2^K) (Iv n m*Iv n' m'+Iv nz mz*((2^K:Nat):Int))))) w):=by
 rw[<-DL K hK]
 by_cases a:(2580562586483294208<=m∧m<=6633802251116740608)∧(2580562586483294208<=m'∧m'<=6633802251116740608)∧mz<=9110782046170513408
 ·exact CT d n n' nz m m' mz a.1 a.2.1 a.2.2 K hK w hT hQ hd1 hd2
 ·exact CU d n n' nz m m' mz hm hm' hmz a K hK w hT hQ hd1 hd2

set_option linter.all false
theorem Fy (n:Bool)(m:Nat):Iv (!n) m = -Iv n m:=by rw[sd]
def zc (o:Option Int):Nat:=match o with|none=>9221120237041090561|some z=>pz z
def rI (n:Bool):Int:=if n then -9218868437227405312 else 9218868437227405312
def oA (d:Int)(n:Bool)(m:Nat)(n':Bool)(m':Nat):Option Int:=if 9218868437227405312<m∨9218868437227405312<m'∨(m=9218868437227405312∧m'=9218868437227405312∧n≠n') then none else if m=9218868437227405312 then some (rI n) else if m'=9218868437227405312 then some (rI n') else some (gE d 1 1 (Iv n m+Iv n' m'))
def oD (K:Nat)(d:Int)(n:Bool)(m:Nat)(n':Bool)(m':Nat):Option Int:=if m'=0 then (if m=0∨9218868437227405312<m then none else some (rI n)) else if 9218868437227405312<m∨9218868437227405312<m'∨(m=9218868437227405312∧m'=9218868437227405312) then none else if m=9218868437227405312 then some (rI (n ^^ n')) else if m'=9218868437227405312 then some 0 else some (gE d (2^K) (Fq.vV Ieee.double m') (Iv (n ^^ n') m))
def oF (K:Nat)(d:Int)(n:Bool)(m:Nat)(n':Bool)(m':Nat)(nz:Bool)(mz:Nat):Option Int:=if m<9218868437227405312∧m'<9218868437227405312 then (if mz<9218868437227405312 then some (gE d 1 (2^K) (Iv n m*Iv n' m'+Iv nz mz*((2^K:Nat):Int))) else if 9218868437227405312<mz then none else some (rI nz)) else if 9218868437227405312<m∨9218868437227405312<m'∨(m=9218868437227405312∧m'=0)∨(m=0∧m'=9218868437227405312) then none else if 9218868437227405312<mz∨(mz=9218868437227405312∧(n ^^ n')≠nz) then none else some (rI (n ^^ n'))
def ng (o:Option Int):Option Int:=o.map (fun z=>-z)
theorem Ey (n:Bool):Fq.wD n 9218868437227405312=pz (rI n):=by cases n<;>decide

def sN (z:Int):Bool:=decide (z<0)
def Hv (d x y:Int):Int:=(oA d (sN x) x.natAbs (sN y) y.natAbs).getD 0
set_option linter.all false
def Eg (o:Option Int)(R:Nat):Prop:=∀z,o=some z->R=pz z
theorem pt (z:Int)(h:-9218868437227405312<=z∧z<=9218868437227405312):Eg (some z) (pz z):=fun y e=>by cases e;rfl
theorem m7 (n:Bool):Eg (some (rI n)) (Fq.wD n 9218868437227405312):=fun y e=>by cases e;exact Ey n
theorem lq (R:Nat)(h1:9218868437227405312<R%9223372036854775808)(h2:R<18446744073709551616):Eg none R:=fun y e=>by cases e
theorem Gb (d:Int)(n n':Bool)(m m':Nat)(hm:m<9223372036854775808)(hm':m'<9223372036854775808)(hd1:-9223372036854775808<=d)(hd2:d<9223372036854775808)(w:World)(hT:Tab w)(hQ:Fq.Tab w):Calls prog 140 #[.int .i64 d,.float .f64 (Fq.wD n m),.float .f64 (Fq.wD n' m')] w fun e w'=>∃R,e=.returned (.float .f64 R)∧Eg (oA d n m n' m') R∧Kp w w':=by
 by_cases hi:m<9218868437227405312∧m'<9218868437227405312
 ·have e:oA d n m n' m'=some (gE d 1 1 (Iv n m+Iv n' m')):=by
   unfold oA
   rw[if_neg (by omega),if_neg (by omega),if_neg (by omega)]
  rw[e]
  exact(Gc d n n' m m' hi.1 hi.2 hd1 hd2 w hT hQ).mono fun e w' h=>⟨_,h.1,pt _ (gS _ _ _ _),h.2⟩
 ·by_cases a:m8 n m n' m'
  ·have e:oA d n m n' m'=none:=by
    have b:=a
    unfold m8 at b
    unfold oA
    rw[if_pos b]
   rw[e]
   exact(tH.2 d n n' m m' hm hm' hi a w).mono fun e w' ⟨R,h1,h2,h3⟩=>⟨R,h1,lq R h2.1 h2.2,h3⟩
  ·have e:oA d n m n' m'=some (rI (if m=9218868437227405312 then n else n')):=by
    unfold oA
    unfold m8 at a
    rw[if_neg a]
    by_cases c:m=9218868437227405312
    ·rw[if_pos c,if_pos c]
    ·rw[if_neg c,if_pos (by omega),if_neg c]
   rw[e]
   exact(tH.1 d n n' m m' hm hm' hi a w).mono fun e w' h=>⟨_,h.1,m7 _,h.2⟩
theorem CM (d:Int)(X Y Y':Nat)(Q:Nat->Prop)(hn:∀w:World,(Op.unary .neg (.float .f64 Y)).run prog w=.ok (.float .f64 Y') w)(w:World)(ha:Calls prog 140 #[.int .i64 d,.float .f64 X,.float .f64 Y'] w fun e w'=>∃R,e=.returned (.float .f64 R)∧Q R∧Kp w w'):Calls prog 139 #[.int .i64 d,.float .f64 X,.float .f64 Y] w fun e w'=>∃R,e=.returned (.float .f64 R)∧Q R∧Kp w w':=by
 go_enter func139,ntmps139
 go_wp2_with (first|(go_at_call 140;refine ha.mono ?_;rintro e c ⟨R,rfl,a,b⟩))
 exact BR ⟨R,rfl,a,b⟩
theorem EF (d:Int)(n n':Bool)(m m':Nat)(hm:m<9223372036854775808)(hm':m'<9223372036854775808)(hd1:-9223372036854775808<=d)(hd2:d<9223372036854775808)(w:World)(hT:Tab w)(hQ:Fq.Tab w):Calls prog 139 #[.int .i64 d,.float .f64 (Fq.wD n m),.float .f64 (Fq.wD n' m')] w fun e w'=>∃R,e=.returned (.float .f64 R)∧Eg (oA d n m (!n') m') R∧Kp w w' :=
 CM d _ _ _ _ (Bn n' m' hm') w (Gb d n (!n') m m' hm hm' hd1 hd2 w hT hQ)
theorem xg (s:Bool)(w:World):Calls prog 193 #[.float .f64 (Fq.wD s 0)] w (RE (.float .f64 0) w):=by
 have a:=Fq.Gu s 0 (by decide) w
 rw[show Fq.wD (s && !((0:Nat) == 0)) 0=0 from by simp;rfl]at a
 exact a
theorem CQ (s:Bool)(w:World):Calls prog 193 #[.float .f64 (Fq.wD s 9218868437227405312)] w (RE (.float .f64 (Fq.wD s 9218868437227405312)) w):=by
 have a:=Fq.Gu s 9218868437227405312 (by decide) w
 rw[show(s && !((9218868437227405312:Nat) == 0))=s from by simp]at a
 exact a
theorem CP (R:Nat)(p1:9218868437227405312<R%9223372036854775808)(p2:R<18446744073709551616)(w:World):Calls prog 193 #[.float .f64 R] w (RE (.float .f64 R) w):=by
 obtain⟨a,b,d,f⟩:=sO R p2
 have c:=Fq.Gu a b (by omega) w
 rw[show(a && !(b == 0))=a from by simp;omega,<-f]at c
 exact c
theorem AF (K:Nat)(hK:K=1074)(d:Int)(s:Bool)(m B:Nat):iO d s (Fq.vV Ieee.double m) B=pz (gE d (2^K) B (Iv s m)):=by
 have h:=DU K hK d s m B
 rw[show(s ^^ false)=s from by cases s<;>rfl]at h
 exact h
theorem FT (K:Nat)(hK:K=1074)(d:Int)(n n':Bool)(m m':Nat)(hm:m<9223372036854775808)(hm':m'<9223372036854775808)(hd1:-9223372036854775808<=d)(hd2:d<9223372036854775808)(w:World)(hT:Tab w)(hQ:Fq.Tab w):Calls prog 195 #[.int .i64 d,.float .f64 (Fq.wD n m),.float .f64 (Fq.wD n' m')] w fun e w'=>∃R,e=.returned (.float .f64 R)∧Eg (oD K d n m n' m') R∧Kp w w':=by
 by_cases a:m'=0
 ·have h:=jv.2.2 d n n' m hm w
  rw[a]
  by_cases c:m=0∨9218868437227405312<m
  ·have e:oD K d n m n' 0=none:=by unfold oD;rw[if_pos rfl,if_pos c]
   rw[e]
   rw[if_pos c]at h
   exact h.mono fun e w' h=>⟨_,h.1,lq _ (by decide) (by decide),h.2⟩
  ·have e:oD K d n m n' 0=some (rI n):=by unfold oD;rw[if_pos rfl,if_neg c]
   rw[e]
   rw[if_neg c]at h
   exact h.mono fun e w' h=>⟨_,h.1,m7 _,h.2⟩
 ·by_cases b:yF m m'
  ·have e:oD K d n m n' m'=none:=by have g:=b;unfold yF at g;unfold oD;rw[if_neg a,if_pos g]
   rw[e]
   obtain⟨R,l,k,f⟩:=pZ _ _ (AD n n' m m' hm hm' b) w
   exact(jv.2.1 d n n' m m' hm hm' a (fun h=>by unfold yF at b;omega) w w.drew R R f (Kp.refl _).drew (CP R l k w.drew)).mono fun e w' h=>⟨R,h.1,lq R l k,h.2⟩
  ·unfold yF at b
   by_cases i:m=9218868437227405312
   ·have e:oD K d n m n' m'=some (rI (n ^^ n')):=by unfold oD;rw[if_neg a,if_neg b,if_pos i]
    rw[e]
    exact(jv.2.1 d n n' m m' hm hm' a (fun h=>by omega) w w _ _ (run_float_arith w .quo 27 .f64 _ _ _ (AC n n' m m' i (by omega))) (Kp.refl _) (CQ _ w)).mono fun e w' h=>⟨_,h.1,m7 _,h.2⟩
   ·by_cases c2:m'=9218868437227405312
    ·have e:oD K d n m n' m'=some 0:=by unfold oD;rw[if_neg a,if_neg b,if_neg i,if_pos c2]
     rw[e]
     exact(jv.2.1 d n n' m m' hm hm' a (fun h=>by omega) w w _ _ (run_float_arith w .quo 27 .f64 _ _ _ (ra n n' m m' (by omega) (Or.inl c2))) (Kp.refl _) (xg _ w)).mono fun e w' h=>⟨_,h.1,pt 0 (by decide),h.2⟩
    ·have e:oD K d n m n' m'=some (gE d (2^K) (Fq.vV Ieee.double m') (Iv (n ^^ n') m)):=by unfold oD;rw[if_neg a,if_neg b,if_neg i,if_neg c2]
     rw[e]
     suffices h:Calls prog 195 #[.int .i64 d,.float .f64 (Fq.wD n m),.float .f64 (Fq.wD n' m')] w fun e w'=>e=.returned (.float .f64 (iO d (n ^^ n') (Fq.vV Ieee.double m) (Fq.vV Ieee.double m')))∧Kp w w' by
      rw[AF K hK]at h
      exact h.mono fun e w' h=>⟨_,h.1,pt _ (gS _ _ _ _),h.2⟩
     by_cases z:m=0
     ·have o:iO d (n ^^ n') (Fq.vV Ieee.double m) (Fq.vV Ieee.double m')=0:=by
       unfold iO
       exact if_pos ((gj m).2 z)
      rw[o]
      exact jv.2.1 d n n' m m' hm hm' a (fun h=>by omega) w w _ _ (run_float_arith w .quo 27 .f64 _ _ _ (ra n n' m m' (by omega) (Or.inr ⟨z,by omega,a⟩))) (Kp.refl _) (xg _ w)
     ·by_cases j:(2580562586483294208<=m∧m<=6633802251116740608)∧(2580562586483294208<=m'∧m'<=6633802251116740608)
      ·exact CV d n n' m m' j.1 j.2 w
      ·exact jv.1 d n n' m m' (by omega) (by omega) z a j w hQ hd1 hd2
theorem FG (K:Nat)(hK:K=1074)(d:Int)(n n' nz:Bool)(m m' mz:Nat)(hm:m<9223372036854775808)(hm':m'<9223372036854775808)(hmz:mz<9223372036854775808)(hd1:-9223372036854775808<=d)(hd2:d<9223372036854775808)(w:World)(hT:Tab w)(hQ:Fq.Tab w):Calls prog 161 #[.int .i64 d,.float .f64 (Fq.wD n m),.float .f64 (Fq.wD n' m'),.float .f64 (Fq.wD nz mz)] w fun e w'=>∃R,e=.returned (.float .f64 R)∧Eg (oF K d n m n' m' nz mz) R∧Kp w w':=by
 by_cases hi:m<9218868437227405312∧m'<9218868437227405312
 ·by_cases c3:mz<9218868437227405312
  ·have e:oF K d n m n' m' nz mz=some (gE d 1 (2^K) (Iv n m*Iv n' m'+Iv nz mz*((2^K:Nat):Int))):=by unfold oF;rw[if_pos hi,if_pos c3]
   rw[e]
   exact(FH K hK d n n' nz m m' mz hi.1 hi.2 c3 hd1 hd2 w hT hQ).mono fun e w' h=>⟨_,h.1,pt _ (gS _ _ _ _),h.2⟩
  ·have q:=mg.2 d n n' nz m m' mz hm hm' hmz hi.1 hi.2 c3 w
   by_cases c4:9218868437227405312<mz
   ·have e:oF K d n m n' m' nz mz=none:=by unfold oF;rw[if_pos hi,if_neg c3,if_pos c4]
    rw[e]
    exact q.mono fun e w' h=>⟨_,h.1,lq _ (by unfold Fq.wD;cases nz<;>simp<;>omega) (by unfold Fq.wD;cases nz<;>simp<;>omega),h.2⟩
   ·have e:oF K d n m n' m' nz mz=some (rI nz):=by unfold oF;rw[if_pos hi,if_neg c3,if_neg c4]
    rw[e]
    rw[show mz=9218868437227405312 from by omega]at q|-
    exact q.mono fun e w' h=>⟨_,h.1,m7 _,h.2⟩
 ·by_cases g:sK m m'
  ·have e:oF K d n m n' m' nz mz=none:=by have j:=g;unfold sK at j;unfold oF;rw[if_neg hi,if_pos j]
   rw[e]
   obtain⟨RP,y,t,l⟩:=qc _ _ (zJ n n' m m' hm hm' g) w
   have o:FloatKind.f64.format.add RP (Fq.wD nz mz)=none:=by
    obtain⟨a,b,x,u⟩:=sO RP t
    rw[u]
    exact pA a nz b mz (by omega) hmz (Or.inl (by omega))
   obtain⟨f,p,r,c⟩:=oG _ _ o w.drew
   exact(mg.1 d n n' nz m m' mz hm hm' hmz hi w w.drew w.drew.drew RP f l c (Kp.refl _).drew.drew).mono fun e w' h=>⟨f,h.1,lq f p r,h.2⟩
  ·have k:=zI n n' m m' g hi
   by_cases i:m8 (n ^^ n') 9218868437227405312 nz mz
   ·have e:oF K d n m n' m' nz mz=none:=by
     unfold oF
     unfold sK at g
     rw[if_neg hi,if_neg g,if_pos (by unfold m8 at i;rcases i with h|h|h;omega;exact Or.inl h;exact Or.inr ⟨h.2.1,h.2.2⟩)]
    rw[e]
    obtain⟨f,p,r,c⟩:=oG _ _ (pA (n ^^ n') nz 9218868437227405312 mz (by decide) hmz i) w
    exact(mg.1 d n n' nz m m' mz hm hm' hmz hi w w w.drew _ f (run_float_arith w .mul 27 .f64 _ _ _ k) c (Kp.refl _).drew).mono fun e w' h=>⟨f,h.1,lq f p r,h.2⟩
   ·have e:oF K d n m n' m' nz mz=some (rI (n ^^ n')):=by
     unfold oF
     unfold sK at g
     rw[if_neg hi,if_neg g,if_neg (fun h=>i (by unfold m8;rcases h with h|h;exact Or.inr (Or.inl h);exact Or.inr (Or.inr ⟨rfl,h.1,h.2⟩)))]
    rw[e]
    have s:=ui (n ^^ n') nz 9218868437227405312 mz i (by omega)
    rw[if_pos rfl]at s
    exact(mg.1 d n n' nz m m' mz hm hm' hmz hi w w w _ _ (run_float_arith w .mul 27 .f64 _ _ _ k) (run_float_arith w .add 27 .f64 _ _ _ s) (Kp.refl _)).mono fun e w' h=>⟨_,h.1,m7 _,h.2⟩

theorem aI (z:Int)(h:dl z):z.natAbs<9223372036854775808:=by unfold dl at h;omega
def TT (w:World):Prop:=Tab w∧Fq.Tab w
theorem TT.kp {w w':World}(h:TT w)(g:Kp w w'):TT w':=⟨h.1.grown g,h.2.grown g⟩

def vZ (z:Int):Int:=Iv (decide (z<0)) z.natAbs
theorem kN (z:Int)(h:0<=z):vZ z=((Fq.vV Ieee.double z.natAbs:Nat):Int):=by
 unfold vZ Iv
 rw[ae (show ¬z<0 by omega)];rfl
theorem Ez:Fq.vV Ieee.double 0=0:=by decide
theorem gG (z:Int):vZ (-z) = -vZ z:=by
 unfold vZ Iv
 rw[dP]
 by_cases a:z=0
 ·rw[a];simp[Ez]
 ·by_cases c:z<0
  ·rw[af c,ae (show ¬-z<0 by omega)];simp
  ·rw[ae c,af (show -z<0 by omega)];simp
theorem vS (E S:Nat)(h1:S<=2^53)(h2:E=0∨2^(53-1)<=S):Fq.vV Ieee.double (E*2^(53-1)+S)=S*2^E:=by
 have a:Ieee.double.binade=4503599627370496:=by decide
 have f:(2:Nat)^(53-1)=4503599627370496:=by decide
 have b:(2:Nat)^53=9007199254740992:=by decide
 rw[f]at h2|-
 rw[b]at h1
 unfold Fq.vV Fq.mM Fq.eE
 rw[a]
 by_cases c:E*4503599627370496+S<4503599627370496
 ·have d:E=0:=by omega
  rw[if_pos c,if_pos c,d];simp
 ·rw[if_neg c,if_neg c]
  by_cases c2:S=9007199254740992
  ·rw[show(E*4503599627370496+S)/4503599627370496-1=E+1 from by omega,show(E*4503599627370496+S)%4503599627370496=0 from by omega,aF,c2]
   generalize 2^E=P
   omega
  ·rw[show(E*4503599627370496+S)/4503599627370496-1=E from by omega,show 4503599627370496+(E*4503599627370496+S)%4503599627370496=S from by omega]
theorem li (c1 c2:Nat)(hc:0<c2)(V:Int):TS 9218868437227405312 (Fq.vV Ieee.double) (V*c1) (c2:Int) (gE (-1) c1 c2 V) (gE 1 c1 c2 V) (gE 0 c1 c2 V):=uX 53 2098 9218868437227405311 9218868437227405312 (Fq.vV Ieee.double) vS c1 c2 hc (by decide) (by decide) (by decide) (by decide) V
theorem jo (c1 c2:Nat)(hc:0<c2)(V:Int):gE (-1) c1 c2 V<=gE 1 c1 c2 V∧gE (-1) c1 c2 V<9218868437227405312∧-9218868437227405312<gE 1 c1 c2 V:=by
 have h:=li c1 c2 hc V vZ kN gG
 have b:=gS (-1) c1 c2 V
 have a:=gS 1 c1 c2 V
 rcases h with⟨h1,_,h3,h4,_⟩|⟨h1,h2,h3,_⟩<;>omega
theorem pJ (z:Int):Iv (sN z) z.natAbs=vZ z:=rfl
theorem Dt (n n':Bool)(m m':Nat)(h:Fq.gU n m<=Fq.gU n' m'):Iv n m<=Iv n' m':=by
 have a:=Fq.nu Ieee.double m m'
 have b:=Fq.nu Ieee.double m' m
 have d:=gj m
 have c:=gj m'
 unfold Iv
 unfold Fq.gU at h
 cases n<;>cases n'<;>simp at h|-<;>omega
theorem jR (x y:Int)(h:x<=y):vZ x<=vZ y:=Dt _ _ _ _ (by rw[dY,dY];exact h)
theorem dI:vZ 0=0:=by rw[kN 0 (by omega)];exact congrArg _ Ez
theorem gw (x:Int)(h:0<=x):0<=vZ x:=by rw[kN x h];omega

set_option linter.all false
theorem Dr (n n':Bool)(m m':Nat)(h:Fq.gU n m<Fq.gU n' m'):Iv n m<Iv n' m':=by
 have a:=Fq.nu Ieee.double m m'
 have b:=Fq.nu Ieee.double m' m
 have d:=gj m
 have c:=gj m'
 unfold Iv
 unfold Fq.gU at h
 cases n<;>cases n'<;>simp at h|-<;>omega
theorem jQ (x y:Int)(h:x<y):vZ x<vZ y:=Dr _ _ _ _ (by rw[dY,dY];exact h)

def BK (w:World)(b:Nat)(C:Array Value)(t:TypeId):Prop:=w.heap[b]? = some (.cells C t (0,0))
theorem BK.lt {w:World}{b:Nat}{C:Array Value}{t:TypeId}(h:BK w b C t):b<w.heap.size:=by
 rcases cO b w.heap.size with c|c
 ·exact c
 ·unfold BK at h;rw[Array.getElem?_eq_none c]at h;cases h
theorem BK.cell {w:World}{b:Nat}{C:Array Value}{t:TypeId}(h:BK w b C t)(j:Nat):w.cell? ⟨b,j,none⟩=C[j]?:=cell_of_row w b j C t (0,0) h
theorem BK.frozen {w:World}{b:Nat}{C:Array Value}{t:TypeId}(h:BK w b C t)(j:Nat):w.frozen? ⟨b,j,none⟩=false:=by
 unfold BK at h
 simp[World.frozen?,h]
theorem BK.new (w:World)(C:Array Value)(t:TypeId):BK (w.alloc (.cells C t)) w.heap.size C t:=World.alloc_heap_new w _
theorem BK.newAt {w:World}{b:Nat}(hb:b=w.heap.size)(C:Array Value)(t:TypeId):BK (w.alloc (.cells C t)) b C t:=by rw[hb];exact BK.new w C t
theorem BK.kp {w w':World}{b:Nat}{C:Array Value}{t:TypeId}(h:BK w b C t)(k:Kp w w'):BK w' b C t:=(Below.block k b h.lt).trans h
theorem Eu (w:World)(A0:Array Value)(t0:TypeId):∃W,W=(w.alloc (.cells A0 t0))∧Kp w W∧BK W w.heap.size A0 t0:=⟨_,rfl,((Kp.refl w).alloc _),(BK.new w _ _)⟩
theorem Gz (w:World)(A0:Array Value)(t0:TypeId)(A1:Array Value)(t1:TypeId):∃W,W=((w.alloc (.cells A0 t0)).alloc (.cells A1 t1))∧Kp w W∧BK W w.heap.size A0 t0∧BK W (w.heap.size+1) A1 t1:=⟨_,rfl,(((Kp.refl w).alloc _).alloc _),((BK.new w _ _).kp ((Kp.refl _).alloc _)),(BK.newAt (by simp) _ _)⟩
theorem Ek (w:World)(A0:Array Value)(t0:TypeId)(A1:Array Value)(t1:TypeId)(A2:Array Value)(t2:TypeId):∃W,W=(((w.alloc (.cells A0 t0)).alloc (.cells A1 t1)).alloc (.cells A2 t2))∧Kp w W∧BK W w.heap.size A0 t0∧BK W (w.heap.size+1) A1 t1∧BK W (w.heap.size+2) A2 t2:=⟨_,rfl,((((Kp.refl w).alloc _).alloc _).alloc _),(((BK.new w _ _).kp ((Kp.refl _).alloc _)).kp ((Kp.refl _).alloc _)),((BK.newAt (by simp) _ _).kp ((Kp.refl _).alloc _)),(BK.newAt (by simp) _ _)⟩
theorem Et (w:World)(A0:Array Value)(t0:TypeId)(A1:Array Value)(t1:TypeId)(A2:Array Value)(t2:TypeId)(A3:Array Value)(t3:TypeId):∃W,W=((((w.alloc (.cells A0 t0)).alloc (.cells A1 t1)).alloc (.cells A2 t2)).alloc (.cells A3 t3))∧Kp w W∧BK W w.heap.size A0 t0∧BK W (w.heap.size+1) A1 t1∧BK W (w.heap.size+2) A2 t2∧BK W (w.heap.size+3) A3 t3:=⟨_,rfl,(((((Kp.refl w).alloc _).alloc _).alloc _).alloc _),((((BK.new w _ _).kp ((Kp.refl _).alloc _)).kp ((Kp.refl _).alloc _)).kp ((Kp.refl _).alloc _)),(((BK.newAt (by simp) _ _).kp ((Kp.refl _).alloc _)).kp ((Kp.refl _).alloc _)),((BK.newAt (by simp) _ _).kp ((Kp.refl _).alloc _)),(BK.newAt (by simp) _ _)⟩
theorem G8 (w:World)(A0:Array Value)(t0:TypeId)(A1:Array Value)(t1:TypeId)(A2:Array Value)(t2:TypeId)(A3:Array Value)(t3:TypeId)(A4:Array Value)(t4:TypeId):∃W,W=(((((w.alloc (.cells A0 t0)).alloc (.cells A1 t1)).alloc (.cells A2 t2)).alloc (.cells A3 t3)).alloc (.cells A4 t4))∧Kp w W∧BK W w.heap.size A0 t0∧BK W (w.heap.size+1) A1 t1∧BK W (w.heap.size+2) A2 t2∧BK W (w.heap.size+3) A3 t3∧BK W (w.heap.size+4) A4 t4:=⟨_,rfl,((((((Kp.refl w).alloc _).alloc _).alloc _).alloc _).alloc _),(((((BK.new w _ _).kp ((Kp.refl _).alloc _)).kp ((Kp.refl _).alloc _)).kp ((Kp.refl _).alloc _)).kp ((Kp.refl _).alloc _)),((((BK.newAt (by simp) _ _).kp ((Kp.refl _).alloc _)).kp ((Kp.refl _).alloc _)).kp ((Kp.refl _).alloc _)),(((BK.newAt (by simp) _ _).kp ((Kp.refl _).alloc _)).kp ((Kp.refl _).alloc _)),((BK.newAt (by simp) _ _).kp ((Kp.refl _).alloc _)),(BK.newAt (by simp) _ _)⟩
theorem BK.put {w:World}{b:Nat}{C:Array Value}{t:TypeId}(h:BK w b C t)(j:Nat)(v:Value):BK (w.setCell ⟨b,j,none⟩ v) b (C.setIfInBounds j v) t:=by
 unfold BK at h|-
 simp[World.setCell,Array.getElem?_modify,h]
theorem BK.far {w:World}{b:Nat}{C:Array Value}{t:TypeId}(h:BK w b C t)(x:Addr)(v:Value)(hne:x.block≠b):BK (w.setCell x v) b C t:=by
 unfold BK at h|-
 simp[World.setCell,Array.getElem?_modify,hne,h]
theorem BK.c2 {w:World}{b:Nat}{x0 x1:Value}{t:TypeId}(h:BK w b #[x0,x1] t):w.cell? ⟨b,0,none⟩=some x0∧w.frozen? ⟨b,0,none⟩=false∧w.cell? ⟨b,1,none⟩=some x1∧w.frozen? ⟨b,1,none⟩=false:=⟨(h.cell 0).trans rfl,h.frozen 0,(h.cell 1).trans rfl,h.frozen 1⟩
theorem BK.c3 {w:World}{b:Nat}{x0 x1 x2:Value}{t:TypeId}(h:BK w b #[x0,x1,x2] t):w.cell? ⟨b,0,none⟩=some x0∧w.frozen? ⟨b,0,none⟩=false∧w.cell? ⟨b,1,none⟩=some x1∧w.frozen? ⟨b,1,none⟩=false∧w.cell? ⟨b,2,none⟩=some x2∧w.frozen? ⟨b,2,none⟩=false:=⟨(h.cell 0).trans rfl,h.frozen 0,(h.cell 1).trans rfl,h.frozen 1,(h.cell 2).trans rfl,h.frozen 2⟩
theorem BK.c4 {w:World}{b:Nat}{x0 x1 x2 x3:Value}{t:TypeId}(h:BK w b #[x0,x1,x2,x3] t):w.cell? ⟨b,0,none⟩=some x0∧w.frozen? ⟨b,0,none⟩=false∧w.cell? ⟨b,1,none⟩=some x1∧w.frozen? ⟨b,1,none⟩=false∧w.cell? ⟨b,2,none⟩=some x2∧w.frozen? ⟨b,2,none⟩=false∧w.cell? ⟨b,3,none⟩=some x3∧w.frozen? ⟨b,3,none⟩=false:=⟨(h.cell 0).trans rfl,h.frozen 0,(h.cell 1).trans rfl,h.frozen 1,(h.cell 2).trans rfl,h.frozen 2,(h.cell 3).trans rfl,h.frozen 3⟩
theorem BK.c6 {w:World}{b:Nat}{x0 x1 x2 x3 x4 x5:Value}{t:TypeId}(h:BK w b #[x0,x1,x2,x3,x4,x5] t):w.cell? ⟨b,0,none⟩=some x0∧w.frozen? ⟨b,0,none⟩=false∧w.cell? ⟨b,1,none⟩=some x1∧w.frozen? ⟨b,1,none⟩=false∧w.cell? ⟨b,2,none⟩=some x2∧w.frozen? ⟨b,2,none⟩=false∧w.cell? ⟨b,3,none⟩=some x3∧w.frozen? ⟨b,3,none⟩=false∧w.cell? ⟨b,4,none⟩=some x4∧w.frozen? ⟨b,4,none⟩=false∧w.cell? ⟨b,5,none⟩=some x5∧w.frozen? ⟨b,5,none⟩=false:=⟨(h.cell 0).trans rfl,h.frozen 0,(h.cell 1).trans rfl,h.frozen 1,(h.cell 2).trans rfl,h.frozen 2,(h.cell 3).trans rfl,h.frozen 3,(h.cell 4).trans rfl,h.frozen 4,(h.cell 5).trans rfl,h.frozen 5⟩
theorem BK.c9 {w:World}{b:Nat}{x0 x1 x2 x3 x4 x5 x6 x7 x8:Value}{t:TypeId}(h:BK w b #[x0,x1,x2,x3,x4,x5,x6,x7,x8] t):w.cell? ⟨b,0,none⟩=some x0∧w.frozen? ⟨b,0,none⟩=false∧w.cell? ⟨b,1,none⟩=some x1∧w.frozen? ⟨b,1,none⟩=false∧w.cell? ⟨b,2,none⟩=some x2∧w.frozen? ⟨b,2,none⟩=false∧w.cell? ⟨b,3,none⟩=some x3∧w.frozen? ⟨b,3,none⟩=false∧w.cell? ⟨b,4,none⟩=some x4∧w.frozen? ⟨b,4,none⟩=false∧w.cell? ⟨b,5,none⟩=some x5∧w.frozen? ⟨b,5,none⟩=false∧w.cell? ⟨b,6,none⟩=some x6∧w.frozen? ⟨b,6,none⟩=false∧w.cell? ⟨b,7,none⟩=some x7∧w.frozen? ⟨b,7,none⟩=false∧w.cell? ⟨b,8,none⟩=some x8∧w.frozen? ⟨b,8,none⟩=false:=⟨(h.cell 0).trans rfl,h.frozen 0,(h.cell 1).trans rfl,h.frozen 1,(h.cell 2).trans rfl,h.frozen 2,(h.cell 3).trans rfl,h.frozen 3,(h.cell 4).trans rfl,h.frozen 4,(h.cell 5).trans rfl,h.frozen 5,(h.cell 6).trans rfl,h.frozen 6,(h.cell 7).trans rfl,h.frozen 7,(h.cell 8).trans rfl,h.frozen 8⟩
theorem BK.c13 {w:World}{b:Nat}{x0 x1 x2 x3 x4 x5 x6 x7 x8 x9 x10 x11 x12:Value}{t:TypeId}(h:BK w b #[x0,x1,x2,x3,x4,x5,x6,x7,x8,x9,x10,x11,x12] t):w.cell? ⟨b,0,none⟩=some x0∧w.frozen? ⟨b,0,none⟩=false∧w.cell? ⟨b,1,none⟩=some x1∧w.frozen? ⟨b,1,none⟩=false∧w.cell? ⟨b,2,none⟩=some x2∧w.frozen? ⟨b,2,none⟩=false∧w.cell? ⟨b,3,none⟩=some x3∧w.frozen? ⟨b,3,none⟩=false∧w.cell? ⟨b,4,none⟩=some x4∧w.frozen? ⟨b,4,none⟩=false∧w.cell? ⟨b,5,none⟩=some x5∧w.frozen? ⟨b,5,none⟩=false∧w.cell? ⟨b,6,none⟩=some x6∧w.frozen? ⟨b,6,none⟩=false∧w.cell? ⟨b,7,none⟩=some x7∧w.frozen? ⟨b,7,none⟩=false∧w.cell? ⟨b,8,none⟩=some x8∧w.frozen? ⟨b,8,none⟩=false∧w.cell? ⟨b,9,none⟩=some x9∧w.frozen? ⟨b,9,none⟩=false∧w.cell? ⟨b,10,none⟩=some x10∧w.frozen? ⟨b,10,none⟩=false∧w.cell? ⟨b,11,none⟩=some x11∧w.frozen? ⟨b,11,none⟩=false∧w.cell? ⟨b,12,none⟩=some x12∧w.frozen? ⟨b,12,none⟩=false:=⟨(h.cell 0).trans rfl,h.frozen 0,(h.cell 1).trans rfl,h.frozen 1,(h.cell 2).trans rfl,h.frozen 2,(h.cell 3).trans rfl,h.frozen 3,(h.cell 4).trans rfl,h.frozen 4,(h.cell 5).trans rfl,h.frozen 5,(h.cell 6).trans rfl,h.frozen 6,(h.cell 7).trans rfl,h.frozen 7,(h.cell 8).trans rfl,h.frozen 8,(h.cell 9).trans rfl,h.frozen 9,(h.cell 10).trans rfl,h.frozen 10,(h.cell 11).trans rfl,h.frozen 11,(h.cell 12).trans rfl,h.frozen 12⟩

theorem Own.bkNe {w:World}{base:Nat}{p:Option Addr}{l c:Nat}{xs:List Int}(h:Own w base (.slice p l c) xs){b:Nat}{C:Array Value}{t:TypeId}(hb:BK w b C t)(ht:t≠120):∀a,p=some a->a.block≠b:=by
 intro a f e
 rcases h.2 with⟨d,-⟩|⟨g,i,k,d,m,j,-⟩
 ·simp at d;rw[d.1]at f;cases f
 ·simp at d
  rw[d.1]at f
  obtain rfl:=Option.some.inj f
  simp at e
  subst e
  unfold BK at hb
  rw[j]at hb
  simp at hb
  exact ht hb.2.symm
theorem Own.setB {w:World}{base:Nat}{p:Option Addr}{l c:Nat}{xs:List Int}(h:Own w base (.slice p l c) xs){b:Nat}{C:Array Value}{t:TypeId}(hb:BK w b C t)(ht:t≠120)(i:Nat)(u:Value):Own (w.setCell ⟨b,i,none⟩ u) base (.slice p l c) xs:=by
 have n:=h.bkNe hb ht
 refine⟨h.1, ?_⟩
 rcases h.2 with⟨a,d⟩|⟨g,j,f,a,d,m,o⟩
 ·exact Or.inl ⟨a,d⟩
 ·refine Or.inr ⟨g,j,f,a,d, ?_,o⟩
  have k:g≠b:=by
   simp at a
   exact n ⟨g,0,none⟩ a.1
  rw[heap_setCell_other w ⟨b,i,none⟩ g u k]
  exact m
theorem VP.setB {base:Nat}{w:World}{s:Bool}{p:Option Addr}{l c:Nat}{q:Option Addr}{k d:Nat}{V:Int}(h:VP base w s p l c q k d V){b:Nat}{C:Array Value}{t:TypeId}(hb:BK w b C t)(ht:t≠120)(i:Nat)(u:Value):VP base (w.setCell ⟨b,i,none⟩ u) s p l c q k d V:=by
 obtain⟨x,y,a,f,g⟩:=h
 exact⟨x,y,a.setB hb ht i u,f.setB hb ht i u,g⟩
set_option linter.all false

theorem Dv:Iv false 0=0:=by decide +kernel
def Hw (ia Va:Int)(oa:Bool)(ib Vb:Int)(ob:Bool)(W:World)(v:Value):Prop:=∃(s:Bool)(p:Option Addr)(l c:Nat)(q:Option Addr)(k d:Nat)(s2:Bool)(p2:Option Addr)(l2 c2:Nat)(q2:Option Addr)(k2 d2:Nat),v=.agg #[.bool false,.int .i64 ia,.bool s,.slice p l c,.slice q k d,.int .i64 1,.bool oa,.int .i64 ib,.bool s2,.slice p2 l2 c2,.slice q2 k2 d2,.int .i64 1,.bool ob]∧VP 0 W s p l c q k d Va∧VP 0 W s2 p2 l2 c2 q2 k2 d2 Vb
def cB (X inf V:Int):Int:=if inf=0 then (if X=9218868437227405312 then 1 else if X = -9218868437227405312 then -1 else eh (Iv (decide (X<0)) X.natAbs) V) else eh X (inf*9218868437227405312)
theorem yp (i:Int)(w:World):Calls prog 60 #[.int .i64 i] w fun e w'=>∃s p l c q k d,e=.returned (.agg #[.int .i64 i,.bool s,.slice p l c,.slice q k d,.int .i64 1,.bool true])∧VP 0 w' s p l c q k d 0∧Kp w w':=by
 go_enter func60,ntmps60
 go_wp2_with (first|(go_at_call 118;refine(mS _).mono ?_;rintro e j ⟨s,p,l,c,q,k,d,rfl,z,b⟩;have a:=(BK.new w #[.int .i64 0,.bool false,.slice none 0 0,.slice none 0 0,.int .i64 0,.bool false] 59).kp b;obtain⟨t,o,h,g,m,x,r,u,A,n,B,f⟩:=a.c6;skip))
 have y:VP 0 j s p l c q k d 0:=Dv ▸ (z.vp).mono (aW _)
 exact BR (v:=.agg #[.int .i64 i,.bool s,.slice p l c,.slice q k d,.int .i64 1,.bool true]) ⟨s,p,l,c,q,k,d,rfl,((((((y.setB a (by decide) 0 _).setB (a.put 0 _) (by decide) 1 _).setB ((a.put 0 _).put 1 _) (by decide) 2 _).setB (((a.put 0 _).put 1 _).put 2 _) (by decide) 3 _).setB ((((a.put 0 _).put 1 _).put 2 _).put 3 _) (by decide) 4 _).setB (((((a.put 0 _).put 1 _).put 2 _).put 3 _).put 4 _) (by decide) 5 _),Er ((Kp.trans ((Kp.refl w).alloc _) b)) (ao _)⟩ (by simp[results,results60,go_sem,t,h,m,r,A,B])
theorem F7 (i:Int) s p l c q k d (t1:(i != 0)=true)(w:World):Calls prog 102 #[.agg #[.int .i64 i,.bool s,.slice p l c,.slice q k d]] w fun e w'=>∃s2 p2 l2 c2 q2 k2 d2,e=.returned (.agg #[.int .i64 i,.bool s2,.slice p2 l2 c2,.slice q2 k2 d2,.int .i64 1,.bool true])∧VP 0 w' s2 p2 l2 c2 q2 k2 d2 0∧Kp w w':=by
 go_enter func102,ntmps102
 go_wp2_with (first|(go_at_call 60;refine(yp i _).mono ?_;rintro e B ⟨s2,p2,l2,c2,q2,k2,d2,rfl,y,f⟩;have a:=(BK.newAt (w:=(w.alloc (.cells #[.int .i64 i,.bool s,.slice p l c,.slice q k d] 64))) (b:=w.heap.size+1) (by simp) #[.int .i64 0,.bool false,.slice none 0 0,.slice none 0 0,.int .i64 0,.bool false] 59).kp f;obtain⟨t,o,j,h,m,x,r,u,z,n,A,g⟩:=a.c6;skip))
 exact BR (v:=.agg #[.int .i64 i,.bool s2,.slice p2 l2 c2,.slice q2 k2 d2,.int .i64 1,.bool true]) ⟨s2,p2,l2,c2,q2,k2,d2,rfl,((((((y.setB a (by decide) 0 _).setB (a.put 0 _) (by decide) 1 _).setB ((a.put 0 _).put 1 _) (by decide) 2 _).setB (((a.put 0 _).put 1 _).put 2 _) (by decide) 3 _).setB ((((a.put 0 _).put 1 _).put 2 _).put 3 _) (by decide) 4 _).setB (((((a.put 0 _).put 1 _).put 2 _).put 3 _).put 4 _) (by decide) 5 _),Er ((Kp.trans (((Kp.refl w).alloc _).alloc _) f)) (by omega)⟩ (by simp[results,results102,go_sem,t,j,m,r,z,A])
theorem F6 s p l c q k d (w:World):Calls prog 102 #[.agg #[.int .i64 0,.bool s,.slice p l c,.slice q k d]] w (RT (.agg #[.int .i64 0,.bool s,.slice p l c,.slice q k d,.int .i64 1,.bool false]) w):=by
 go_enter func102,ntmps102
 go_wp2
 exact BR (v:=.agg #[.int .i64 0,.bool s,.slice p l c,.slice q k d,.int .i64 1,.bool false]) ⟨rfl,(by repeat(with_reducible(first|exact Kp.refl _|apply Kp.alloc)))⟩
theorem BP (i V:Int) s p l c q k d (hi:i=0∨V=0)(B1:Nat)(w:World)(h:VP B1 w s p l c q k d V):Calls prog 102 #[.agg #[.int .i64 i,.bool s,.slice p l c,.slice q k d]] w fun e w'=>∃s2 p2 l2 c2 q2 k2 d2,e=.returned (.agg #[.int .i64 i,.bool s2,.slice p2 l2 c2,.slice q2 k2 d2,.int .i64 1,.bool (decide (i≠0))])∧VP 0 w' s2 p2 l2 c2 q2 k2 d2 V∧Kp w w':=by
 by_cases a:i=0
 ·subst a
  refine(F6 s p l c q k d w).mono ?_
  rintro e w' ⟨rfl,g⟩
  exact⟨s,p,l,c,q,k,d,rfl,(h.kp g).mono (aW _),g⟩
 ·have e:decide (i≠0)=true:=af a
  rw[e]
  rcases hi with hi|hi
  ·exact absurd hi a
  ·rw[hi];exact F7 i s p l c q k d (by simpa using a) w
theorem vA (X i i5 R:Int)(isx o:Bool)(N5:Bool)(M5:Nat) s p l c q k d (hii:SC 183 #[.int .u64 X] (.bool isx))(tx:isx=true∨(isx=false∧(i != 0)=true))(w:World)(hbo:∀w:World,Calls prog 105 #[.int .u64 X] w fun e w'=>∃s5 p5 l5 c5 q5 k5 d5,e=.returned (.agg #[.int .i64 i5,.bool s5,.slice p5 l5 c5,.slice q5 k5 d5])∧RP w.heap.size w' s5 p5 l5 c5 q5 k5 d5 N5 M5∧Kp w w')(hcm:∀(W:World) s5 p5 l5 c5 q5 k5 d5,Kp w W->RP 0 W s5 p5 l5 c5 q5 k5 d5 N5 M5->Calls prog 73 #[.agg #[.int .i64 i5,.bool s5,.slice p5 l5 c5,.slice q5 k5 d5],.agg #[.int .i64 i,.bool s,.slice p l c,.slice q k d]] W (RT (.int .i64 R) W)):Calls prog 145 #[.int .u64 X,.agg #[.int .i64 i,.bool s,.slice p l c,.slice q k d,.int .i64 1,.bool o]] w (RT (.int .i64 R) w):=by
 rcases tx with rfl|⟨rfl,t2⟩
 all_goals (
  go_enter func145,ntmps145
  go_wp2_with (first|(go_at_call 183;refine(hii _).mono ?_;rintro e w' ⟨rfl,rfl⟩))
  obtain⟨W,j,G,n⟩:=Eu w #[.int .i64 i,.bool s,.slice p l c,.slice q k d,.int .i64 1,.bool o] 59
  rw[<-j];clear j
  have b:W.cell? ⟨w.heap.size,0,none⟩=some (.int .i64 i):=(n.cell 0).trans rfl
  have E:W.drew.cell? ⟨w.heap.size,0,none⟩=some (.int .i64 i):=b
  have g:W.cell? ⟨w.heap.size,1,none⟩=some (.bool s):=(n.cell 1).trans rfl
  have B:W.drew.cell? ⟨w.heap.size,1,none⟩=some (.bool s):=g
  have a:W.cell? ⟨w.heap.size,2,none⟩=some (.slice p l c):=(n.cell 2).trans rfl
  have A:W.drew.cell? ⟨w.heap.size,2,none⟩=some (.slice p l c):=a
  have f:W.cell? ⟨w.heap.size,3,none⟩=some (.slice q k d):=(n.cell 3).trans rfl
  have z:W.drew.cell? ⟨w.heap.size,3,none⟩=some (.slice q k d):=f
  go_region_held3 (fun w'=>w'.cell? ⟨w.heap.size,0,none⟩=some (.int .i64 i)∧w'.cell? ⟨w.heap.size,1,none⟩=some (.bool s)∧w'.cell? ⟨w.heap.size,2,none⟩=some (.slice p l c)∧w'.cell? ⟨w.heap.size,3,none⟩=some (.slice q k d)) (first|(with_reducible exact⟨E,B,A,z⟩)|(with_reducible exact⟨C,u,x,F⟩)|(with_reducible exact⟨y,r,D,t⟩)) (first|(go_at_call 105;refine(hbo _).mono ?_;rintro e K ⟨s5,p5,l5,c5,q5,k5,d5,rfl,J,H⟩;have h:Kp W K:=Kp.trans (Kp.drew (Kp.refl _)) H;have C:=ac h b;have u:=ac h g;have x:=ac h a;have F:=ac h f)|(go_at_call 73;refine(hcm _ s5 p5 l5 c5 q5 k5 d5 (Kp.trans G h) (J.mono (aW _))).mono ?_;rintro e I ⟨rfl,L⟩;have m:Kp W I:=Kp.trans h L;have y:=ac m b;have r:=ac m g;have D:=ac m a;have t:=ac m f))
  go_wp2
  exact BR ⟨rfl,(Kp.trans G m)⟩)
theorem lz (X R S T9:Int)(isx o:Bool)(N5:Bool)(M5:Nat) s p l c q k d (hii:SC 183 #[.int .u64 X] (.bool isx))(tx:isx=false)(w:World)(hfb:∀w:World,Calls prog 152 #[.int .u64 X] w fun e w'=>∃s5 p5 l5 c5 q5 k5 d5,e=.returned (.agg #[.bool s5,.slice p5 l5 c5,.slice q5 k5 d5])∧RP w.heap.size w' s5 p5 l5 c5 q5 k5 d5 N5 M5∧Kp w w')(hs:∀(W:World) s5 p5 l5 c5 q5 k5 d5,RP 0 W s5 p5 l5 c5 q5 k5 d5 N5 M5->Calls prog 133 #[.agg #[.bool s5,.slice p5 l5 c5,.slice q5 k5 d5]] W (RT (.int .i64 S) W))(ht:KW w 133 #[.agg #[.bool s,.slice p l c,.slice q k d]] (.int .i64 T9))(hc:((S != T9)=true∧wrap64 (S-T9)=R)∨(T9=S∧(S == 0)=true∧R=0)∨(T9=S∧(S == 0)=false∧∃X8 C8:Int,bits .andNot .u64 X 9223372036854775808=X8∧(KW w 184 #[.int .u64 X8,.int .i64 1,.agg #[.bool false,.slice p l c,.slice q k d]] (.int .i64 C8))∧wrap64 (S*C8)=R)):Calls prog 145 #[.int .u64 X,.agg #[.int .i64 0,.bool s,.slice p l c,.slice q k d,.int .i64 1,.bool o]] w (RT (.int .i64 R) w):=by
 subst tx
 have n:BK (w.alloc (.cells #[.int .i64 0,.bool s,.slice p l c,.slice q k d,.int .i64 1,.bool o] 59)) w.heap.size #[.int .i64 0,.bool s,.slice p l c,.slice q k d,.int .i64 1,.bool o] 59:=BK.new w _ _
 rcases hc with⟨t1,e1⟩|⟨rfl,t1,e1⟩|⟨rfl,t1,X8,C8,e8,hpw,e1⟩
 iterate 2 (
  go_enter func145,ntmps145
  go_wp2_with (first|(go_at_call 183;refine(hii _).mono ?_;rintro e w' ⟨rfl,rfl⟩)|(have V:=i;go_at_call 133;refine(ht _ (by repeat(with_reducible(first|exact Kp.refl _|apply Kp.alloc|(refine Kp.trans ?_ (by assumption)))))).mono ?_;rintro e j ⟨rfl,A⟩;have z:Kp r j:=Kp.trans i A;have g:=a.kp z;obtain⟨y0,P,y1,G,y2,T,y3,y,y4,Y,y5,H⟩:=g.c6;skip)|(have V:=f;go_at_call 133;refine(hs _ s5 p5 l5 c5 q5 k5 d5 (RP.mono (RP.kp f (by repeat(with_reducible(first|exact Kp.refl _|apply Kp.alloc)))) (aW _))).mono ?_;rintro e M ⟨rfl,Q⟩;have i:Kp r M:=Kp.trans (by repeat(with_reducible(first|exact Kp.refl _|apply Kp.alloc))) Q;have h:=a.kp i;obtain⟨u0,C,u1,u,u2,B,u3,F,u4,J,u5,E⟩:=h.c6;skip)|(go_at_call 152;refine(hfb _).mono ?_;rintro e r ⟨s5,p5,l5,c5,q5,k5,d5,rfl,f,L⟩;have a:=n.kp L;obtain⟨r0,N,r1,K,r2,O,r3,I,r4,D,r5,t⟩:=a.c6;skip))
  exact BR (v:=.int .i64 R) ⟨rfl,(by repeat(with_reducible(first|exact Kp.refl _|apply Kp.alloc|(refine Kp.trans ?_ (by assumption)))))⟩ (by simp[results,results145,go_sem,e1])
  )
 go_enter func145,ntmps145
 go_upto_region 10 with(first|(go_at_call 183;refine(hii _).mono ?_;rintro e w' ⟨rfl,rfl⟩)|(have V:=i;go_at_call 133;refine(ht _ (by repeat(with_reducible(first|exact Kp.refl _|apply Kp.alloc|(refine Kp.trans ?_ (by assumption)))))).mono ?_;rintro e j ⟨rfl,A⟩;have z:Kp r j:=Kp.trans i A;have g:=a.kp z;obtain⟨y0,P,y1,G,y2,T,y3,y,y4,Y,y5,H⟩:=g.c6;skip)|(have V:=f;go_at_call 133;refine(hs _ s5 p5 l5 c5 q5 k5 d5 (RP.mono (RP.kp f (by repeat(with_reducible(first|exact Kp.refl _|apply Kp.alloc)))) (aW _))).mono ?_;rintro e M ⟨rfl,Q⟩;have i:Kp r M:=Kp.trans (by repeat(with_reducible(first|exact Kp.refl _|apply Kp.alloc))) Q;have h:=a.kp i;obtain⟨u0,C,u1,u,u2,B,u3,F,u4,J,u5,E⟩:=h.c6;skip)|(go_at_call 152;refine(hfb _).mono ?_;rintro e r ⟨s5,p5,l5,c5,q5,k5,d5,rfl,f,L⟩;have a:=n.kp L;obtain⟨r0,N,r1,K,r2,O,r3,I,r4,D,r5,t⟩:=a.c6;skip))
 obtain⟨U,b⟩:=aA (j.alloc (.cells #[.bool false,.slice p l c,.slice q k d] 57))
 have Z:Kp j U:=by subst b;exact(Kp.refl j).alloc _
 have x:=g.kp Z
 have hQ:BK U j.heap.size #[.bool false,.slice p l c,.slice q k d] 57:=by subst b;exact BK.new _ _ _
 have m:Kp w U:=by subst b;exact Kp.trans (by repeat(with_reducible(first|exact Kp.refl _|apply Kp.alloc|(refine Kp.trans ?_ (by assumption))))) Z
 rw[<-b];clear b
 obtain⟨v0,aj,v1,an,v2,bn,v3,ab,v4,bl,v5,aa⟩:=x.c6;skip
 obtain⟨x0,aw,x1,bm,x2,a7⟩:=hQ.c3;skip
 go_wp2_with (first|(go_at_call 184;refine(hpw _ m).mono ?_;rintro e w4 ⟨rfl,g4⟩))
 exact BR ⟨rfl,(Kp.trans m g4)⟩ (by simp[results,results145,go_sem,e1])
theorem ww (p:Option Addr)(c m:Nat)(xs:List Int)(w:World)(hx:Arr w p xs)(hwx:Wd xs)(lx:xs.length<=16777216)(ha:1<=val xs)(hK:aS (val xs^m)<=16777216)(hm9:m<=1048576) :
  Calls prog 216 #[.slice p xs.length c,.int .i64 (m:Int)] w fun e w'=>∃v,e=.returned v∧Own w' w.heap.size v (az (val xs^m))∧Kp w w':=by
 have s:=fun w' (k:Kp w w')=>iy p c xs w' (hx.grown k) (by omega)
 have aa:∀(x y:Nat)(D q:Option Addr)(L c2:Nat)(w':World),aS x<=16777216->aS y<=16777216->Arr w' D (az x)->Arr w' q (az y) ->
   Calls prog 135 #[.slice D (az x).length L,.slice q (az y).length c2] w' fun e w''=>∃v,e=.returned v∧Own w'' w'.heap.size v (az (x*y))∧Kp w' w'':=fun x y D q L c2 w' hx hy h1 I=>by
  have:=oI D q L c2 (az x) (az y) w' h1 I (bC _) (bC _) hx hy
  rw[aV,aV]at this
  exact this
 have Z:Hid (∀(x y:Nat)(D q:Option Addr)(L c2:Nat)(w':World),aS x<=16777216->aS y<=16777216->Arr w' D (az x)->Arr w' q (az y) ->
   Calls prog 135 #[.slice D (az x).length L,.slice q (az y).length c2] w' fun e w''=>∃v,e=.returned v∧Own w'' w'.heap.size v (az (x*y))∧Kp w' w''):=aa
 rw[eZ xs hwx]at s
 obtain⟨a,hA⟩:=aA (val xs)
 obtain⟨N,hN⟩:=aA xs.length
 rw[<-hA]at s ha hK|-
 rw[<-hN]at s|-
 obtain⟨R,hR⟩:=aA (a^m)
 rw[<-hR]at hK|-
 have ab:=zB w
 have H:Kp w (w.alloc (.cells #[.int .u32 1] 120)):=(Kp.refl w).alloc _
 have h1:=s _ H
 have V:Hid (R=a^m∧aS R<=16777216∧1<=a):=⟨hR,hK,ha⟩
 clear aa s hx hwx lx hA hN hR hK ha
 go_enter func216,ntmps216
 go_wp2_with fail
 refine h1.mono ?_;rintro e w1 ⟨v1,rfl,b,S⟩
 have HO:Hid (Own w1 w.heap.size (.slice (some ⟨w.heap.size,0,none⟩) 1 1) (az 1)∧Own w1 w.heap.size v1 (az a)∧Kp w w1):=⟨by rw[pj];exact ab.kp S,b.mono H.size,H.trans S⟩
 clear h1 b S ab H
 go_wp2
 go_loopw [1,5,6] (fun nn pp xx wr=>∃(k P X:Nat)(v u:Value),nn=.int .i64 (k:Int)∧v=pp∧u=xx∧Own wr w.heap.size v (az P)∧Own wr w.heap.size u (az X)∧P*X^k=R∧1<=P∧1<=X∧Kp w wr∧k<=m) (fun nn _ _ _=>(intOf nn).toNat)
 case atStart=>exact⟨m,1,a,_,_,rfl,rfl,rfl,HO.out.1,HO.out.2.1,by rw[aN];exact V.out.1.symm,ao _,V.out.2.2,HO.out.2.2,ao _⟩
 case round =>
  clear HO
  obtain⟨k,P,X,v,u,rfl,rfl,rfl,A,b,f,hP,hX,i,bt⟩:=hrel
  by_cases ck:k=0
  ·subst ck
   rw[aB,aG]at f
   subst f
   clear Z V hP hX b
   go_wp2
   exact BR ⟨_,rfl,A,i⟩
  ·have t1:(0:Int)<(k:Int):=by omega
   have G:=V.out.2.1
   have M:X<=X^k:=by
    have:=al (by omega:0<X) (by omega:1<=k)
    rw[fV]at this;exact this
   have B:1<=X^k:=aP (by omega)
   have U:P<=R:=by rw[<-f];exact fu _ B
   have T:X<=R:=by rw[<-f];exact aT M (cw _ hP)
   have lP:aS P<=16777216:=aT (fA U) G
   have W:aS X<=16777216:=aT (fA T) G
   obtain⟨h,hh⟩:=aA (k/2)
   have fh:(k:Int)/2=(h:Int):=by omega
   have bu:h<=1048576:=by omega
   obtain⟨D,L,rfl,Q,_⟩:=A.arr
   obtain⟨q,c2,rfl,t,_⟩:=b.arr
   have E:X*X=X^2:=by rw[aF,fV]
   have Y:1<=X*X:=aT hX (cw _ (by omega))
   have bv:h<k:=by omega
   have r:=fun w' (k':Kp wr w')=>Z.out X X q q c2 c2 w' W W (t.grown k') (t.grown k')
   obtain⟨DX,d⟩:=aA ((az X).length)
   rcases(by omega:k%2=0∨k%2=1)with ce|ce
   ·have fm:(k:Int)%2=0:=by omega
    have n:P*(X*X)^h=R:=by rw[E,<-Nat.pow_mul,show 2*h=k from by omega];exact f
    rw[<-d]at r
    obtain⟨DP,j⟩:=aA ((az P).length)
    have K:Own wr w.heap.size (.slice D DP L) (az P):=by rw[j];exact A
    have l:Own wr w.heap.size (.slice q DX c2) (az X):=by rw[d];exact b
    rw[<-d,<-j]
    clear A b d j V M B U T lP W Q t G Z f
    have a8:h≠0:=by omega
    clear hh
    by_cases c0:h=0
    ·exact absurd c0 a8
    ·have t2:(0:Int)<(h:Int):=by omega
     have I:=r wr (Kp.refl _)
     clear r E
     go_wp2_with fail
     refine I.mono ?_;rintro e w3 ⟨v3,rfl,C,g⟩
     have z:Own w3 w.heap.size v3 (az (X*X)):=C.mono i.size
     have F:=K.kp g
     have o:=i.trans g
     clear C g i K l I
     go_wp2
     exact⟨⟨h,P,X*X,_,_,by go_num,rfl,rfl,F,z,n,hP,Y,o,by omega⟩,by simp[intOf];omega⟩
   ·have fm:(k:Int)%2=1:=by omega
    have n:(P*X)*(X*X)^h=R:=by
     rw[E,<-Nat.pow_mul,ak,ap X,<-aF,show(2*h).succ=k from by omega];exact f
    have I:=Z.out P X D q L c2 wr lP W Q t
    rw[<-d]at r I
    obtain⟨DP,j⟩:=aA ((az P).length)
    rw[<-j]at I
    have l:Own wr w.heap.size (.slice q DX c2) (az X):=by rw[d];exact b
    rw[<-d,<-j]
    have J:1<=P*X:=aQ hP (by omega)
    clear hh
    clear A b d j V M B U T lP W Q t G Z f
    go_wp2_with fail
    refine I.mono ?_;rintro e w3 ⟨v3,rfl,C,g⟩
    have h4:=r w3 g
    have z:Own w3 w.heap.size v3 (az (P*X)):=C.mono i.size
    have F:=l.kp g
    have o:=i.trans g
    clear C g i l I r E
    by_cases c0:h=0
    ·have t2:¬((0:Int)<(h:Int)):=by omega
     clear h4
     go_wp2
     exact⟨⟨h,P*X,X,_,_,by go_num,rfl,rfl,z,F,by rw[<-n,c0,aB,aB],J,hX,o,by omega⟩,by simp[intOf];omega⟩
    ·have t2:(0:Int)<(h:Int):=by omega
     go_wp2_with fail
     refine h4.mono ?_;rintro e w4 ⟨v4,rfl,ad,O⟩
     have a7:Own w4 w.heap.size v4 (az (X*X)):=ad.mono o.size
     have a3:=z.kp O
     have a1:=o.trans O
     clear ad O o z F h4
     go_wp2
     exact⟨⟨h,P*X,X*X,_,_,by go_num,rfl,rfl,a3,a7,n,J,Y,a1,by omega⟩,by simp[intOf];omega⟩
end Go.Proofs.YtmpjcknaelgnoaaGreatDoor
