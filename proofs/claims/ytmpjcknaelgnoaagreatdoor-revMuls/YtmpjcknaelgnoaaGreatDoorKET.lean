import Derived.Test.YtmpjcknaelgnoaaGreatDoorKH4Q
import Derived.Test.YtmpjcknaelgnoaaGreatDoorKMEs
set_option maxHeartbeats 2000000
set_option maxRecDepth 20000
namespace Go.Proofs.YtmpjcknaelgnoaaGreatDoor
set_option linter.all false
open Go.RowKit Tryz

def RF (s:Bool)(a b:Nat)(n:Bool)(m:Nat):Prop:=∀K:Nat,K=1074->b≠0∧a*2^K=Fq.vV Ieee.double m*b∧Iv n m=(if s then -((Fq.vV Ieee.double m:Nat):Int) else ((Fq.vV Ieee.double m:Nat):Int))∧aq a<=1500∧aq b<=1500
def RP (base:Nat)(w:World)(s:Bool)(p:Option Addr)(l c:Nat)(q:Option Addr)(k d:Nat)(n:Bool)(m:Nat):Prop:=∃a b,Own w base (.slice p l c) (az a)∧Own w base (.slice q k d) (az b)∧RF s a b n m
theorem RP.kp {base:Nat}{w w':World}{s:Bool}{p:Option Addr}{l c:Nat}{q:Option Addr}{k d:Nat}{n:Bool}{m:Nat}(h:RP base w s p l c q k d n m)(g:Kp w w'):RP base w' s p l c q k d n m:=by
 obtain⟨a,b,f,j,i⟩:=h
 exact⟨a,b,f.kp g,j.kp g,i⟩
theorem RP.mono {base base':Nat}{w:World}{s:Bool}{p:Option Addr}{l c:Nat}{q:Option Addr}{k d:Nat}{n:Bool}{m:Nat}(h:RP base w s p l c q k d n m)(g:base'<=base):RP base' w s p l c q k d n m:=by
 obtain⟨a,b,f,j,i⟩:=h
 exact⟨a,b,f.mono g,j.mono g,i⟩
theorem RP.set {base:Nat}{w:World}{s:Bool}{p:Option Addr}{l c:Nat}{q:Option Addr}{k d:Nat}{n:Bool}{m:Nat}(h:RP base w s p l c q k d n m){x:Addr}(hx:x.block<base)(u:Value):RP base (w.setCell x u) s p l c q k d n m:=by
 obtain⟨a,b,f,i,g⟩:=h
 exact⟨a,b,f.setOther hx u,i.setOther hx u,g⟩
theorem yn (n:Bool)(m:Nat)(hm:m<9218868437227405312)(w:World):Calls prog 152 #[.int .u64 ((Fq.wD n m:Nat):Int)] w fun e w'=>∃s p l c q k d,e=.returned (.agg #[.bool s,.slice p l c,.slice q k d])∧RP w.heap.size w' s p l c q k d n m∧Kp w w':=by
 have h:=uZ n m hm w
 refine Calls.mono (show Calls prog 152 #[.int .u64 ((Fq.wD n m:Nat):Int)] w _ from h) ?_
 rintro e w' ⟨C,vd,a,b,s,rfl,r,t,⟨u,x⟩,g⟩
 obtain⟨p,c,rfl,-,-⟩:=r.arr
 obtain⟨q,d,rfl,-,-⟩:=t.arr
 obtain⟨z,A,F,D,E⟩:=Fq.Hf m hm
 have f:fJ (Fq.uy m) 1 (Fq.vi m) a b:=u
 have o:Fq.uy m≠0->s=n:=x
 have i:Fq.vV Ieee.double m=Fq.uy m*2^(Fq.vi m+1074).toNat:=z.symm
 refine⟨s,p,_,c,q,_,d,rfl,⟨a,b,r,t,fun K hK=>⟨f.1, ?_, ?_, ?_, ?_⟩⟩,g⟩
 ·by_cases j:Fq.uy m=0
  ·rw[i,j,f.2.1.2 j];simp
  ·rw[i]
   exact sF (Fq.uy m) (Fq.vi m) a b K (Fq.vi m+1074).toNat f j (by omega)
 ·unfold Iv
  by_cases j:Fq.uy m=0
  ·have:Fq.vV Ieee.double m=0:=by rw[i,j];simp
   rw[this];cases n<;>cases s<;>simp
  ·rw[o j]
 ·have B:=f.2.2.2.1
  have y:aq (Fq.uy m)<=53:=by rw[ay,show(2:Nat)^53=9007199254740992 from by decide];exact A
  omega
 ·have B:=f.2.2.2.2
  have y:aq 1=1:=ed 1 0 (by decide) (by decide)
  omega
theorem vk:az 0=[]:=by decide +kernel
theorem kI:az 1=[1]:=by decide +kernel
theorem mS (w:World):Calls prog 118 #[.int .i64 0] w fun e w'=>∃s p l c q k d,e=.returned (.agg #[.bool s,.slice p l c,.slice q k d])∧RP w.heap.size w' s p l c q k d false 0∧Kp w w':=by
 obtain⟨B,t⟩:=aA w.heap.size
 obtain⟨f,m⟩:=aA (w.alloc (.cells #[.bool false,.slice none 0 0,.slice none 0 0] 57))
 have kw:Kp w f:=by rw[m];exact(Kp.refl w).alloc _
 obtain⟨r,E,C,Q,N,O⟩:f.cell? ⟨B,0,none⟩=some (.bool false)∧f.cell? ⟨B,1,none⟩=some (.slice none 0 0)∧f.cell? ⟨B,2,none⟩=some (.slice none 0 0)∧f.frozen? ⟨B,0,none⟩=false∧f.frozen? ⟨B,1,none⟩=false∧f.frozen? ⟨B,2,none⟩=false:=by rw[m,t];simp[go_sem]
 have g:=be r
 have hs:=mc 0 (by decide) f
 have I:Hid (f=w.alloc (.cells #[.bool false,.slice none 0 0,.slice none 0 0] 57)∧B=w.heap.size∧Kp w f):=⟨m,t,kw⟩
 clear m t kw
 go_enter func118,ntmps118
 go_wp2_with fail
 rw[<-I.out.2.1]
 try rw[<-I.out.1]
 refine hs.mono ?_;rintro e y ⟨v,rfl,ho,k1⟩
 obtain⟨pv,cv,rfl,G,A⟩:=ho.arr
 obtain⟨L,U⟩:=aA ((az 0).length)
 rw[<-U]
 obtain⟨R,o⟩:=aA y.heap.size
 obtain⟨z,j⟩:=aA (y.alloc (.cells #[.int .u32 1] 120))
 have X:Kp y z:=by rw[j];exact(Kp.refl _).alloc _
 have D:Arr z (some ⟨R,0,none⟩) (az 1):=by
  have h:=(EP y 1).all rfl
  rw[<-j,<-o]at h
  rw[kI]
  exact h
 have h:=tW false (.slice pv (az 0).length cv) (.slice (some ⟨R,0,none⟩) (az 1).length 1) (az 0) (az 1) 0 z ⟨pv,cv,rfl,G.grown X,A⟩ ⟨some ⟨R,0,none⟩,1,rfl,D,by rw[kI];decide⟩ (bC _) (bC _) (by rw[vk];decide) (by rw[kI];decide) (by rw[aV];decide) (by decide)
 rw[aV,aV]at h
 rw[show(az 1).length=1 from by rw[kI];rfl]at h
 rw[<-U]at h
 have b:=k1.trans X
 have W:Hid (R=y.heap.size∧z=y.alloc (.cells #[.int .u32 1] 120)):=⟨o,j⟩
 replace r:=ac b r
 replace E:=ac b E
 replace C:=ac b C
 replace Q:=(dC b g).trans Q
 replace N:=(dC b g).trans N
 replace O:=(dC b g).trans O
 have HK:Hid (Kp f z∧B<f.heap.size):=⟨b,g⟩
 have a:=be r
 clear hs ho G A U o j X D k1 b g
 go_wp2_with fail
 rw[<-W.out.1,<-W.out.2]
 refine h.mono ?_;rintro e Z ⟨vn,vd,H,F,ng,rfl,V,Y,u,n⟩
 obtain⟨S,T,rfl,an,ln⟩:=V.arr
 obtain⟨P,J,rfl,ad,ld⟩:=Y.arr
 replace r:=ac n r
 replace E:=ac n E
 replace C:=ac n C
 replace Q:=(dC n a).trans Q
 replace N:=(dC n a).trans N
 replace O:=(dC n a).trans O
 have hp:RP z.heap.size Z ng S (az H).length T P (az F).length J false 0:=by
  refine⟨H,F,V,Y,fun K hK=>⟨u.1.1, ?_, ?_, ?_, ?_⟩⟩
  ·rw[u.1.2.1.2 rfl,Fq.gj];simp
  ·unfold Iv;rw[Fq.gj];cases ng<;>rfl
  ·have:=u.1.2.2.2.1;rw[u.1.2.1.2 rfl];rw[cP];omega
  ·have:=u.1.2.2.2.2
   have h2:aq 1=1:=ed 1 0 (by decide) (by decide)
   simp at this;omega
 have M:=(((hp.set (x:=⟨B,0,none⟩) a (.bool ng)).set (x:=⟨B,1,none⟩) a (.slice S (az H).length T)).set (x:=⟨B,2,none⟩) a (.slice P (az F).length J)).mono (base':=w.heap.size) (by have h1:=Below.size I.out.2.2;have h2:=Below.size HK.out.1;omega)
 have i:Kp w (((Z.setCell ⟨B,0,none⟩ (.bool ng)).setCell ⟨B,1,none⟩ (.slice S (az H).length T)).setCell ⟨B,2,none⟩ (.slice P (az F).length J)):=by
  have t:=I.out.2.1
  exact((((I.out.2.2.trans HK.out.1).trans n).setCell (by rw[t];exact ao _) _).setCell (by rw[t];exact ao _) _).setCell (by rw[t];exact ao _) _
 generalize (az H).length=La at M i|-
 generalize (az F).length=Lb at M i|-
 have HO:Hid (_∧_):=⟨M,i⟩
 clear h hp M i V Y u n an ln ad ld a W
 go_wp2
 exact BR ⟨ng,S,La,T,P,Lb,J,rfl,HO.out.1,HO.out.2⟩ (by simp[results,results118,go_sem,r,E,C])
theorem AN (w:World):Calls prog 105 #[.int .u64 9218868437227405312] w fun e w'=>∃s p l c q k d,e=.returned (.agg #[.int .i64 1,.bool s,.slice p l c,.slice q k d])∧RP w.heap.size w' s p l c q k d false 0∧Kp w w':=by
 go_enter func105,ntmps105
 go_wp2_with (first|(go_at_call 118;refine(mS _).mono ?_;rintro e r ⟨s,p,l,c,q,k,d,rfl,o,a⟩;obtain⟨j,h,f,b,g,n,i,m⟩:=rt a (w.heap.size) (.int .i64 0) (.bool false) (.slice none 0 0) (.slice none 0 0) (by simp[go_sem])))
 exact BR (v:=.agg #[.int .i64 1,.bool s,.slice p l c,.slice q k d]) ⟨s,p,l,c,q,k,d,rfl,RP.mono (((((o).set (x:=⟨w.heap.size,0,none⟩) (by simp) (.int .i64 1)).set (x:=⟨w.heap.size,1,none⟩) (by simp) (.bool s)).set (x:=⟨w.heap.size,2,none⟩) (by simp) (.slice p l c)).set (x:=⟨w.heap.size,3,none⟩) (by simp) (.slice q k d)) (by simp),yK ((Kp.trans ((Kp.refl w).alloc _) a)) (ao _)⟩ (by simp[results,results105,go_sem,j,f,g,i])
theorem AM (w:World):Calls prog 105 #[.int .u64 18442240474082181120] w fun e w'=>∃s p l c q k d,e=.returned (.agg #[.int .i64 (-1),.bool s,.slice p l c,.slice q k d])∧RP w.heap.size w' s p l c q k d false 0∧Kp w w':=by
 go_enter func105,ntmps105
 go_wp2_with (first|(go_at_call 118;refine(mS _).mono ?_;rintro e r ⟨s,p,l,c,q,k,d,rfl,o,a⟩;obtain⟨j,h,f,b,g,n,i,m⟩:=rt a (w.heap.size) (.int .i64 0) (.bool false) (.slice none 0 0) (.slice none 0 0) (by simp[go_sem])))
 exact BR (v:=.agg #[.int .i64 (-1),.bool s,.slice p l c,.slice q k d]) ⟨s,p,l,c,q,k,d,rfl,RP.mono (((((o).set (x:=⟨w.heap.size,0,none⟩) (by simp) (.int .i64 (-1))).set (x:=⟨w.heap.size,1,none⟩) (by simp) (.bool s)).set (x:=⟨w.heap.size,2,none⟩) (by simp) (.slice p l c)).set (x:=⟨w.heap.size,3,none⟩) (by simp) (.slice q k d)) (by simp),yK ((Kp.trans ((Kp.refl w).alloc _) a)) (ao _)⟩ (by simp[results,results105,go_sem,j,f,g,i])
theorem AO (n:Bool)(m:Nat)(hm:m<9218868437227405312)(ht:Fq.wD n m≠9223372036854775808)(w:World):Calls prog 105 #[.int .u64 ((Fq.wD n m:Nat):Int)] w fun e w'=>∃s p l c q k d,e=.returned (.agg #[.int .i64 0,.bool s,.slice p l c,.slice q k d])∧RP w.heap.size w' s p l c q k d n m∧Kp w w':=by
 have f:=yn n m hm
 have a:=Fq.mC n m (by omega)
 rw[show Fq.kL (Fq.wD n m)=Fq.wD n m from by unfold Fq.kL;rw[if_neg ht]]at a
 have A:(((Fq.wD n m:Nat):Int) == 9218868437227405312)=false:=by
  have:Fq.wD n m≠9218868437227405312:=by unfold Fq.wD;cases n<;>simp<;>omega
  simp;omega
 have z:(((Fq.wD n m:Nat):Int) == 18442240474082181120)=false:=by
  have:Fq.wD n m≠18442240474082181120:=by unfold Fq.wD;cases n<;>simp<;>omega
  simp;omega
 generalize ((Fq.wD n m:Nat):Int)=X at f a A z|-
 clear hm ht
 go_enter func105,ntmps105
 go_wp2_with (first|(go_at_call 149;refine(a _).mono ?_;rintro e w' ⟨rfl,rfl⟩)|(go_at_call 152;refine(f _).mono ?_;rintro e B ⟨s,p,l,c,q,k,d,rfl,y,b⟩;obtain⟨r,j,h,g,i,u,o,t⟩:=rt b (w.heap.size) (.int .i64 0) (.bool false) (.slice none 0 0) (.slice none 0 0) (by simp[go_sem])))
 exact BR (v:=.agg #[.int .i64 0,.bool s,.slice p l c,.slice q k d]) ⟨s,p,l,c,q,k,d,rfl,RP.mono (((((y).set (x:=⟨w.heap.size,0,none⟩) (by simp) (.int .i64 0)).set (x:=⟨w.heap.size,1,none⟩) (by simp) (.bool s)).set (x:=⟨w.heap.size,2,none⟩) (by simp) (.slice p l c)).set (x:=⟨w.heap.size,3,none⟩) (by simp) (.slice q k d)) (by simp),yK ((Kp.trans ((Kp.refl w).alloc _) b)) (ao _)⟩ (by simp[results,results105,go_sem,r,h,i,o])
def dT (n:Bool)(m:Nat):Int:=if m=9218868437227405312 then (if n then -1 else 1) else 0
def fN (n:Bool)(m:Nat):Bool:=if m=9218868437227405312 then false else n
def fM (m:Nat):Nat:=if m=9218868437227405312 then 0 else m
theorem sH (n:Bool)(m:Nat)(hm:m<=9218868437227405312)(ht:Fq.wD n m≠9223372036854775808)(w:World):Calls prog 105 #[.int .u64 ((Fq.wD n m:Nat):Int)] w fun e w'=>∃s p l c q k d,e=.returned (.agg #[.int .i64 (dT n m),.bool s,.slice p l c,.slice q k d])∧RP w.heap.size w' s p l c q k d (fN n m) (fM m)∧Kp w w':=by
 unfold dT fN fM
 by_cases c:m=9218868437227405312
 ·rw[if_pos c,if_pos c,if_pos c,c]
  cases n
  ·exact AN w
  ·exact AM w
 ·rw[if_neg c,if_neg c,if_neg c]
  exact AO n m (by omega) ht w

theorem RF.iv {s:Bool}{a b:Nat}{n:Bool}{m:Nat}(h:RF s a b n m)(K:Nat)(hK:K=1074):fC s a*((2^K:Nat):Int)=Iv n m*(b:Int):=by
 obtain⟨g,d,f,-,-⟩:=h K hK
 rw[f]
 have c:((a*2^K:Nat):Int)=((Fq.vV Ieee.double m*b:Nat):Int):=by rw[d]
 unfold fC
 rw[aK,aK]at c
 cases s
 ·simpa using c
 ·simp only[if_true,bF];rw[c]
theorem gW (x y k:Int)(hk:0<k):eh (x*k) (y*k)=eh x y:=by
 unfold eh
 have a:x*k<y*k ↔ x<y:=⟨fun h=>eM h (bT hk),fun h=>bW h hk⟩
 have b:y*k<x*k ↔ y<x:=⟨fun h=>eM h (bT hk),fun h=>bW h hk⟩
 simp only[a,b]
theorem zp (B1 B2:Nat)(n n':Bool)(m m':Nat) s p l c q k d s2 p2 l2 c2 q2 k2 d2 (w:World)(h1:RP B1 w s p l c q k d n m)(h2:RP B2 w s2 p2 l2 c2 q2 k2 d2 n' m'):Calls prog 77 #[.agg #[.bool s,.slice p l c,.slice q k d],.agg #[.bool s2,.slice p2 l2 c2,.slice q2 k2 d2]] w (RT (.int .i64 (eh (Iv n m) (Iv n' m'))) w):=by
 obtain⟨a,b,A,t,g⟩:=h1
 obtain⟨x,y,o,j,i⟩:=h2
 obtain⟨K,f⟩:∃K:Nat,K=1074:=⟨_,rfl⟩
 have z:=g.iv K f
 have r:=i.iv K f
 obtain⟨D,-,-,F,G⟩:=g K f
 obtain⟨u,-,-,E,H⟩:=i K f
 have h:=wK s p l c q k d s2 p2 l2 c2 q2 k2 d2 a b x y B1 B2 w A t o j D u (by omega) (by omega) (by omega) (by omega)
 have e:eh (fC s a*(y:Int)) (fC s2 x*(b:Int))=eh (Iv n m) (Iv n' m'):=by
  have C:(0:Int)<((2^K:Nat):Int):=by have:=ah K;omega
  have B:(0:Int)<(b:Int)*(y:Int):=dj (by omega) (by omega)
  rw[<-gW _ _ _ C,<-gW (Iv n m) (Iv n' m') _ B]
  rw[Int.mul_right_comm,z,Int.mul_right_comm (fC s2 x),r,fd,fd,Int.mul_comm (y:Int) (b:Int)]
 rw[e]at h
 exact h
theorem D6 (n n':Bool)(m m':Nat):eh (Iv n m) (Iv n' m')=eh (Fq.gU n m) (Fq.gU n' m'):=by
 unfold eh
 simp only[Ds]
theorem AH (x y:Int):eh x y<=0 ↔ x<=y:=by
 unfold eh
 by_cases a:x<y
 ·rw[if_pos a];omega
 ·rw[if_neg a]
  by_cases c2:y<x
  ·rw[if_pos c2];omega
  ·rw[if_neg c2];omega
theorem fc (x y:Int)(h:x<y):eh x y = -1:=by unfold eh;rw[if_pos h]
theorem eK (x y:Int)(h:y<x):eh x y=1:=by unfold eh;rw[if_neg (by omega),if_pos h]
theorem jL (x:Int):eh x x=0:=by unfold eh;rw[if_neg (by omega),if_neg (by omega)]
theorem lR (B1 B2:Nat)(n n':Bool)(m m':Nat)(hm:m<=9218868437227405312)(hm':m'<=9218868437227405312) s p l c q k d s2 p2 l2 c2 q2 k2 d2 (w:World)(h1:RP B1 w s p l c q k d (fN n m) (fM m))(h2:RP B2 w s2 p2 l2 c2 q2 k2 d2 (fN n' m') (fM m')):Calls prog 73 #[.agg #[.int .i64 (dT n m),.bool s,.slice p l c,.slice q k d],.agg #[.int .i64 (dT n' m'),.bool s2,.slice p2 l2 c2,.slice q2 k2 d2]] w (RT (.int .i64 (eh (Fq.gU n m) (Fq.gU n' m'))) w):=by
 have h:Fq.gU n m=if n then -(m:Int) else m:=by unfold Fq.gU;cases n<;>rfl
 have f:Fq.gU n' m'=if n' then -(m':Int) else m':=by unfold Fq.gU;cases n'<;>rfl
 by_cases j:m=9218868437227405312
 ·by_cases b:m'=9218868437227405312
  ·subst j b
   have i:dT n 9218868437227405312=if n then -1 else 1:=by unfold dT;rw[if_pos rfl]
   have a:dT n' 9218868437227405312=if n' then -1 else 1:=by unfold dT;rw[if_pos rfl]
   rw[i,a]
   cases n<;>cases n'
   ·rw[jL];exact t7 1 s p l c q k d s2 p2 l2 c2 q2 k2 d2 (by decide) w
   ·rw[eK _ _ (by rw[h,f];decide)];exact mV 1 (-1) s p l c q k d s2 p2 l2 c2 q2 k2 d2 (by decide) (by decide) w
   ·rw[fc _ _ (by rw[h,f];decide)];exact nS (-1) 1 s p l c q k d s2 p2 l2 c2 q2 k2 d2 (by decide) (by decide) w
   ·rw[jL];exact t7 (-1) s p l c q k d s2 p2 l2 c2 q2 k2 d2 (by decide) w
  ·have i:dT n m=if n then -1 else 1:=by unfold dT;rw[if_pos j]
   have a:dT n' m'=0:=by unfold dT;rw[if_neg b]
   rw[i,a]
   cases n
   ·rw[eK _ _ (by rw[h,f];cases n'<;>simp<;>omega)];exact mV 1 0 s p l c q k d s2 p2 l2 c2 q2 k2 d2 (by decide) (by decide) w
   ·rw[fc _ _ (by rw[h,f];cases n'<;>simp<;>omega)];exact nS (-1) 0 s p l c q k d s2 p2 l2 c2 q2 k2 d2 (by decide) (by decide) w
 ·have i:dT n m=0:=by unfold dT;rw[if_neg j]
  by_cases b:m'=9218868437227405312
  ·have a:dT n' m'=if n' then -1 else 1:=by unfold dT;rw[if_pos b]
   rw[i,a]
   cases n'
   ·rw[fc _ _ (by rw[h,f];cases n<;>simp<;>omega)];exact nS 0 1 s p l c q k d s2 p2 l2 c2 q2 k2 d2 (by decide) (by decide) w
   ·rw[eK _ _ (by rw[h,f];cases n<;>simp<;>omega)];exact mV 0 (-1) s p l c q k d s2 p2 l2 c2 q2 k2 d2 (by decide) (by decide) w
  ·have a:dT n' m'=0:=by unfold dT;rw[if_neg b]
   have o:fN n m=n∧fM m=m:=by unfold fN fM;rw[if_neg j,if_neg j];exact⟨rfl,rfl⟩
   have r:fN n' m'=n'∧fM m'=m':=by unfold fN fM;rw[if_neg b,if_neg b];exact⟨rfl,rfl⟩
   rw[o.1,o.2]at h1
   rw[r.1,r.2]at h2
   rw[i,a,<-D6]
   exact yt _ s p l c q k d s2 p2 l2 c2 q2 k2 d2 w (fun W g=>zp B1 B2 n n' m m' s p l c q k d s2 p2 l2 c2 q2 k2 d2 W (h1.kp g) (h2.kp g))
set_option linter.unusedSimpArgs false
theorem te (p:Option Addr)(l c:Nat)(q:Option Addr)(k d:Nat)(a b:Nat)(w:World)(h1:Own w 0 (.slice p l c) (az a))(h2:Own w 0 (.slice q k d) (az b))(la:aq a<=100000)(lb:aq b<=100000):Calls prog 75 #[.agg #[.bool true,.slice p l c,.slice q k d]] w fun e w'=>∃(p2:Option Addr)(l2 c2:Nat)(q2:Option Addr)(k2 d2:Nat),e=.returned (.agg #[.bool false,.slice p2 l2 c2,.slice q2 k2 d2])∧Own w' w.heap.size (.slice p2 l2 c2) (az a)∧Own w' w.heap.size (.slice q2 k2 d2) (az b)∧Kp w w':=by
 have n:∀(E:Option Addr)(C D:Nat)(x:Nat),Own w 0 (.slice E C D) (az x)->aq x<=100000->∀W:World,Kp w W->Calls prog 130 #[.slice E C D] W fun e w'=>∃(p2:Option Addr)(l2 c2:Nat),e=.returned (.slice p2 l2 c2)∧Own w' W.heap.size (.slice p2 l2 c2) (az x)∧Kp W w':=by
  intro E C D x h hx W g
  have hl:(az x).length<=1048576:=aT (show aS x<=4000 from dZ x 4000 (by omega)) (by decide)
  have h:=qC (.slice E C D) (az x) W (h.kp g).ls (bC _) hl
  rw[aV]at h
  refine h.mono ?_
  rintro e w' ⟨v',rfl,Y,g2⟩
  obtain⟨p2,c2,rfl,-,-⟩:=Y.arr
  exact⟨p2,_,c2,rfl,Y,g2⟩
 have G:=n p l c a h1 la
 have P:=n q k d b h2 lb
 clear n h1 h2 la lb
 go_enter func75,ntmps75
 go_wp2
 generalize hW:((w.alloc (.cells #[.bool true,.slice p l c,.slice q k d] 57)).alloc (.cells #[.bool false,.slice none 0 0,.slice none 0 0] 57))=W
 have Q:Kp w W:=by rw[<-hW];exact((Kp.refl w).alloc _).alloc _
 have o:W.cell? ⟨w.heap.size,0,none⟩=some (.bool true):=by rw[<-hW];simp[go_sem]
 have T:W.drew.cell? ⟨w.heap.size,0,none⟩=some (.bool true):=o
 have r:W.cell? ⟨w.heap.size,1,none⟩=some (.slice p l c):=by rw[<-hW];simp[go_sem]
 have O:W.drew.cell? ⟨w.heap.size,1,none⟩=some (.slice p l c):=r
 have m:W.cell? ⟨w.heap.size,2,none⟩=some (.slice q k d):=by rw[<-hW];simp[go_sem]
 have N:W.drew.cell? ⟨w.heap.size,2,none⟩=some (.slice q k d):=m
 obtain⟨X,I,r1,H,r2,J⟩:W.cell? ⟨w.heap.size+1,0,none⟩=some (.bool false)∧W.frozen? ⟨w.heap.size+1,0,none⟩=false∧W.cell? ⟨w.heap.size+1,1,none⟩=some (.slice none 0 0)∧W.frozen? ⟨w.heap.size+1,1,none⟩=false∧W.cell? ⟨w.heap.size+1,2,none⟩=some (.slice none 0 0)∧W.frozen? ⟨w.heap.size+1,2,none⟩=false:=by rw[<-hW];simp[go_sem]
 have j:w.heap.size+1<W.heap.size:=be X
 have s:w.heap.size+1≠w.heap.size:=by omega
 clear hW
 refine wp_region_held_drew (S:=(fun w'=>w'.cell? ⟨w.heap.size,0,none⟩=some (.bool true)∧w'.cell? ⟨w.heap.size,1,none⟩=some (.slice p l c)∧w'.cell? ⟨w.heap.size,2,none⟩=some (.slice q k d))) (by kernel_rfl) ?_ (fun hHeld=>?_)
 ·exact⟨T,O,N⟩
 refine wpAnyH_take (i:=0) (v:=.pointer (some ⟨w.heap.size,0,none⟩)) rfl (by kernel_rfl) (by kernel_rfl) (by kernel_rfl) (fun _ _ _ h=>h) (Or.inl ⟨by rfl, ?_⟩) (by assumption) ?_
 ·intro w f
  (try dsimp only at f)
  go_simp
 try simp only[Act.put,aJ,aC,aD,ax,aO,aL]
 refine wpAnyH_take (i:=1) (v:=.bool true) rfl (by kernel_rfl) (by kernel_rfl) (by kernel_rfl) (fun _ _ _ h=>h) (Or.inl ⟨by rfl, ?_⟩) (by assumption) ?_
 ·intro w f
  (try dsimp only at f)
  go_simp
 try simp only[Act.put,aJ,aC,aD,ax,aO,aL]
 refine wpAnyH_take (i:=2) (v:=.bool false) rfl (by kernel_rfl) (by kernel_rfl) (by kernel_rfl) (fun _ _ _ h=>h) (Or.inl ⟨by rfl, ?_⟩) (by assumption) ?_
 ·intro w f
  (try dsimp only at f)
  go_simp
 try simp only[Act.put,aJ,aC,aD,ax,aO,aL]
 refine wpAnyH_take (i:=3) (v:=.bool false) rfl (by kernel_rfl) (by kernel_rfl) (by kernel_rfl) (fun _ _ _ h=>h) (Or.inl ⟨by rfl, ?_⟩) (by assumption) ?_
 ·intro w f
  (try dsimp only at f)
  go_simp
 try simp only[Act.put,aJ,aC,aD,ax,aO,aL]
 refine wpAnyH_take (i:=4) (v:=undef) rfl (by kernel_rfl) (by kernel_rfl) (by kernel_rfl) (fun _ _ _ h=>h) (Or.inr ⟨by rfl,rfl⟩) (by assumption) ?_
 try simp only[Act.put,aJ,aC,aD,ax,aO,aL]
 refine wpAnyH_take (i:=5) (v:=undef) rfl (by kernel_rfl) (by kernel_rfl) (by kernel_rfl) (fun _ _ _ h=>h) (Or.inr ⟨by rfl,rfl⟩) (by assumption) ?_
 try simp only[Act.put,aJ,aC,aD,ax,aO,aL]
 refine wpAnyH_take (i:=6) (v:=undef) rfl (by kernel_rfl) (by kernel_rfl) (by kernel_rfl) (fun _ _ _ h=>h) (Or.inr ⟨by rfl,rfl⟩) (by assumption) ?_
 try simp only[Act.put,aJ,aC,aD,ax,aO,aL]
 refine wpAnyH_take (i:=7) (v:=undef) rfl (by kernel_rfl) (by kernel_rfl) (by kernel_rfl) (fun _ _ _ h=>h) (Or.inr ⟨by rfl,rfl⟩) (by assumption) ?_
 try simp only[Act.put,aJ,aC,aD,ax,aO,aL]
 refine wpAnyH_take (i:=8) (v:=.bool false) rfl (by kernel_rfl) (by kernel_rfl) (by kernel_rfl) (fun _ _ _ h=>h) (Or.inl ⟨by rfl, ?_⟩) (by assumption) ?_
 ·intro w f
  (try dsimp only at f)
  go_simp
 try simp only[Act.put,aJ,aC,aD,ax,aO,aL]
 refine wpAnyH_take (i:=9) (v:=.pointer (some ⟨w.heap.size,1,none⟩)) rfl (by kernel_rfl) (by kernel_rfl) (by kernel_rfl) (fun _ _ _ h=>h) (Or.inl ⟨by rfl, ?_⟩) (by assumption) ?_
 ·intro w f
  (try dsimp only at f)
  go_simp
 try simp only[Act.put,aJ,aC,aD,ax,aO,aL]
 refine wpAnyH_take (i:=10) (v:=.slice p l c) rfl (by kernel_rfl) (by kernel_rfl) (by kernel_rfl) (fun _ _ _ h=>h) (Or.inl ⟨by rfl, ?_⟩) (by assumption) ?_
 ·intro w f
  (try dsimp only at f)
  go_simp
 try simp only[Act.put,aJ,aC,aD,ax,aO,aL]
 refine wpAnyH_take (i:=12) (v:=.pointer (some ⟨w.heap.size,2,none⟩)) rfl (by kernel_rfl) (by kernel_rfl) (by kernel_rfl) (fun _ _ _ h=>h) (Or.inl ⟨by rfl, ?_⟩) (by assumption) ?_
 ·intro w f
  (try dsimp only at f)
  go_simp
 try simp only[Act.put,aJ,aC,aD,ax,aO,aL]
 refine wpAnyH_take (i:=13) (v:=.slice q k d) rfl (by kernel_rfl) (by kernel_rfl) (by kernel_rfl) (fun _ _ _ h=>h) (Or.inl ⟨by rfl, ?_⟩) (by assumption) ?_
 ·intro w f
  (try dsimp only at f)
  go_simp
 try simp only[Act.put,aJ,aC,aD,ax,aO,aL]
 refine wpAnyH_ready (rs:=[11]) (by kernel_rfl) (by simp) ?_
 refine AllReadyH.cons rfl (fun K hK=>?_) AllReadyH.nil
 go_simp
 go_at_call_of 130 (Value.slice p l c);refine(G _ ?q0).mono ?_;(case q0=>exact Q.drew);rintro e wl ⟨p2,l2,c2,rfl,L,gl⟩;have t:Kp W wl:=Kp.trans (Kp.drew (Kp.refl _)) gl;have U:=ac t o;have F:=ac t r;have V:=ac t m
 go_wp2_with fail
 refine hK.out _ _ ?_ (fun hHeld=>?_)
 ·exact⟨U,F,V⟩
 clear hK K
 try simp only[Act.put,aJ,aC,aD,ax,aO,aL]
 refine wpAnyH_ready (rs:=[14]) (by kernel_rfl) (by simp) ?_
 refine AllReadyH.cons rfl (fun K hK=>?_) AllReadyH.nil
 go_simp
 go_at_call_of 130 (Value.slice q k d);refine(P _ ?q0).mono ?_;(case q0=>exact Q.trans t);rintro e M ⟨q2,k2,d2,rfl,R,Z⟩;have B:Kp W M:=Kp.trans t Z;have A:=ac B o;have y:=ac B r;have u:=ac B m;obtain⟨R0,a4,R1,a3,R2,ad⟩:=G9 B ⟨X,I,r1,H,r2,J⟩
 go_wp2_with fail
 refine hK.out _ _ ?_ (fun hHeld=>?_)
 ·exact⟨A,y,u⟩
 clear hK K
 try simp only[Act.put,aJ,aC,aD,ax,aO,aL]
 refine wpAnyH_take (i:=15) (v:=.agg #[.bool false,.slice p2 l2 c2,.slice q2 k2 d2]) rfl (by kernel_rfl) (by kernel_rfl) (by kernel_rfl) (fun _ _ _ h=>h) (Or.inl ⟨by rfl, ?_⟩) (by assumption) ?_
 ·intro w f
  (try dsimp only at f)
  go_simp
 try simp only[Act.put,aJ,aC,aD,ax,aO,aL]
 refine wpAnyH_ready (rs:=[16]) (by kernel_rfl) (by simp) ?_
 refine AllReadyH.cons rfl (fun K hK=>?_) AllReadyH.nil
 go_simp
 refine hK.out _ _ ?_ (fun hHeld=>?_)
 ·exact⟨(AW s A),(AW s y),(AW s u)⟩
 clear hK K
 try simp only[Act.put,aJ,aC,aD,ax,aO,aL]
 refine wpAnyH_done (by kernel_rfl) ?_ _
 all_goals go_wp2
 all_goals (
  have z:w.heap.size<=W.heap.size:=by omega
  have O1:Own M W.heap.size (.slice p2 l2 c2) (az a):=(L.mono (base':=W.heap.size) (ao _)).kp Z
  have O2:Own M W.heap.size (.slice q2 k2 d2) (az b):=R.mono (base':=W.heap.size) (Below.size t)
  exact BR (v:=.agg #[.bool false,.slice p2 l2 c2,.slice q2 k2 d2]) ⟨p2,l2,c2,q2,k2,d2,rfl,(((O1.setOther (a:=⟨w.heap.size+1,0,none⟩) j _).setOther (a:=⟨w.heap.size+1,1,none⟩) j _).setOther (a:=⟨w.heap.size+1,2,none⟩) j _).mono z,(((O2.setOther (a:=⟨w.heap.size+1,0,none⟩) j _).setOther (a:=⟨w.heap.size+1,1,none⟩) j _).setOther (a:=⟨w.heap.size+1,2,none⟩) j _).mono z,G4 ((Kp.trans Q B)) (by omega)⟩ (by simp[results,results75,go_sem,R0,R1,R2]))
theorem Cu (p:Option Addr)(l c:Nat)(q:Option Addr)(k d:Nat)(a b:Nat)(w:World)(h1:Own w 0 (.slice p l c) (az a))(h2:Own w 0 (.slice q k d) (az b))(la:aq a<=1500)(lb:aq b<=1500):Calls prog 75 #[.agg #[.bool true,.slice p l c,.slice q k d]] w fun e w'=>∃(p2:Option Addr)(l2 c2:Nat)(q2:Option Addr)(k2 d2:Nat),e=.returned (.agg #[.bool false,.slice p2 l2 c2,.slice q2 k2 d2])∧Own w' w.heap.size (.slice p2 l2 c2) (az a)∧Own w' w.heap.size (.slice q2 k2 d2) (az b)∧Kp w w' :=
 te p l c q k d a b w h1 h2 (aT la (by decide)) (aT lb (by decide))
theorem tf (p:Option Addr)(l c:Nat)(q:Option Addr)(k d:Nat)(a b:Nat)(w:World)(h1:Own w 0 (.slice p l c) (az a))(h2:Own w 0 (.slice q k d) (az b))(la:aq a<=100000)(lb:aq b<=100000)(t1:0<l):Calls prog 75 #[.agg #[.bool false,.slice p l c,.slice q k d]] w fun e w'=>∃(p2:Option Addr)(l2 c2:Nat)(q2:Option Addr)(k2 d2:Nat),e=.returned (.agg #[.bool true,.slice p2 l2 c2,.slice q2 k2 d2])∧Own w' w.heap.size (.slice p2 l2 c2) (az a)∧Own w' w.heap.size (.slice q2 k2 d2) (az b)∧Kp w w':=by
 have j:∀(C:Option Addr)(A B:Nat)(x:Nat),Own w 0 (.slice C A B) (az x)->aq x<=100000->∀W:World,Kp w W->Calls prog 130 #[.slice C A B] W fun e w'=>∃(p2:Option Addr)(l2 c2:Nat),e=.returned (.slice p2 l2 c2)∧Own w' W.heap.size (.slice p2 l2 c2) (az x)∧Kp W w':=by
  intro C A B x h hx W g
  have Z:(az x).length<=1048576:=aT (show aS x<=4000 from dZ x 4000 (by omega)) (by decide)
  have h:=qC (.slice C A B) (az x) W (h.kp g).ls (bC _) Z
  rw[aV]at h
  refine h.mono ?_
  rintro e w' ⟨v',rfl,T,g2⟩
  obtain⟨p2,c2,rfl,-,-⟩:=T.arr
  exact⟨p2,_,c2,rfl,T,g2⟩
 have E:=j p l c a h1 la
 have M:=j q k d b h2 lb
 clear j h1 h2 la lb
 go_enter func75,ntmps75
 go_wp2
 generalize hW:((w.alloc (.cells #[.bool false,.slice p l c,.slice q k d] 57)).alloc (.cells #[.bool false,.slice none 0 0,.slice none 0 0] 57))=W
 have N:Kp w W:=by rw[<-hW];exact((Kp.refl w).alloc _).alloc _
 have m:W.cell? ⟨w.heap.size,0,none⟩=some (.bool false):=by rw[<-hW];simp[go_sem]
 have P:W.drew.cell? ⟨w.heap.size,0,none⟩=some (.bool false):=m
 have n:W.cell? ⟨w.heap.size,1,none⟩=some (.slice p l c):=by rw[<-hW];simp[go_sem]
 have L:W.drew.cell? ⟨w.heap.size,1,none⟩=some (.slice p l c):=n
 have i:W.cell? ⟨w.heap.size,2,none⟩=some (.slice q k d):=by rw[<-hW];simp[go_sem]
 have K:W.drew.cell? ⟨w.heap.size,2,none⟩=some (.slice q k d):=i
 obtain⟨S,G,r1,F,X,H⟩:W.cell? ⟨w.heap.size+1,0,none⟩=some (.bool false)∧W.frozen? ⟨w.heap.size+1,0,none⟩=false∧W.cell? ⟨w.heap.size+1,1,none⟩=some (.slice none 0 0)∧W.frozen? ⟨w.heap.size+1,1,none⟩=false∧W.cell? ⟨w.heap.size+1,2,none⟩=some (.slice none 0 0)∧W.frozen? ⟨w.heap.size+1,2,none⟩=false:=by rw[<-hW];simp[go_sem]
 have f:w.heap.size+1<W.heap.size:=be S
 have o:w.heap.size+1≠w.heap.size:=by omega
 clear hW
 go_region_held3 (fun w'=>w'.cell? ⟨w.heap.size,0,none⟩=some (.bool false)∧w'.cell? ⟨w.heap.size,1,none⟩=some (.slice p l c)∧w'.cell? ⟨w.heap.size,2,none⟩=some (.slice q k d)) (first|(with_reducible exact⟨P,L,K⟩)|(with_reducible exact⟨Q,D,R⟩)|(with_reducible exact⟨y,t,s⟩)|(exact⟨(AW o y),(AW o t),(AW o s)⟩)) (first|(go_at_call_of 130 (Value.slice p l c);refine(E _ ?q0).mono ?_;(case q0=>exact N.drew);rintro e wl ⟨p2,l2,c2,rfl,I,gl⟩;have r:Kp W wl:=Kp.trans (Kp.drew (Kp.refl _)) gl;have Q:=ac r m;have D:=ac r n;have R:=ac r i)|(go_at_call_of 130 (Value.slice q k d);refine(M _ ?q0).mono ?_;(case q0=>exact N.trans r);rintro e J ⟨q2,k2,d2,rfl,O,U⟩;have z:Kp W J:=Kp.trans r U;have y:=ac z m;have t:=ac z n;have s:=ac z i;obtain⟨R0,a0,R1,aA,V,Y⟩:=G9 z ⟨S,G,r1,F,X,H⟩))
 all_goals go_wp2
 all_goals (
  have u:w.heap.size<=W.heap.size:=by omega
  have O1:Own J W.heap.size (.slice p2 l2 c2) (az a):=(I.mono (base':=W.heap.size) (ao _)).kp U
  have O2:Own J W.heap.size (.slice q2 k2 d2) (az b):=O.mono (base':=W.heap.size) (Below.size r)
  exact BR (v:=.agg #[.bool true,.slice p2 l2 c2,.slice q2 k2 d2]) ⟨p2,l2,c2,q2,k2,d2,rfl,(((O1.setOther (a:=⟨w.heap.size+1,0,none⟩) f _).setOther (a:=⟨w.heap.size+1,1,none⟩) f _).setOther (a:=⟨w.heap.size+1,2,none⟩) f _).mono u,(((O2.setOther (a:=⟨w.heap.size+1,0,none⟩) f _).setOther (a:=⟨w.heap.size+1,1,none⟩) f _).setOther (a:=⟨w.heap.size+1,2,none⟩) f _).mono u,G4 ((Kp.trans N z)) (by omega)⟩ (by simp[results,results75,go_sem,R0,R1,V]))
theorem Cv (p:Option Addr)(l c:Nat)(q:Option Addr)(k d:Nat)(a b:Nat)(w:World)(h1:Own w 0 (.slice p l c) (az a))(h2:Own w 0 (.slice q k d) (az b))(la:aq a<=1500)(lb:aq b<=1500)(t1:0<l):Calls prog 75 #[.agg #[.bool false,.slice p l c,.slice q k d]] w fun e w'=>∃(p2:Option Addr)(l2 c2:Nat)(q2:Option Addr)(k2 d2:Nat),e=.returned (.agg #[.bool true,.slice p2 l2 c2,.slice q2 k2 d2])∧Own w' w.heap.size (.slice p2 l2 c2) (az a)∧Own w' w.heap.size (.slice q2 k2 d2) (az b)∧Kp w w' :=
 tf p l c q k d a b w h1 h2 (aT la (by decide)) (aT lb (by decide)) t1
theorem td (p:Option Addr)(l c:Nat)(q:Option Addr)(k d:Nat)(a b:Nat)(w:World)(h1:Own w 0 (.slice p l c) (az a))(h2:Own w 0 (.slice q k d) (az b))(la:aq a<=100000)(lb:aq b<=100000)(t1:¬(0<l)):Calls prog 75 #[.agg #[.bool false,.slice p l c,.slice q k d]] w fun e w'=>∃(p2:Option Addr)(l2 c2:Nat)(q2:Option Addr)(k2 d2:Nat),e=.returned (.agg #[.bool false,.slice p2 l2 c2,.slice q2 k2 d2])∧Own w' w.heap.size (.slice p2 l2 c2) (az a)∧Own w' w.heap.size (.slice q2 k2 d2) (az b)∧Kp w w':=by
 have j:∀(C:Option Addr)(A B:Nat)(x:Nat),Own w 0 (.slice C A B) (az x)->aq x<=100000->∀W:World,Kp w W->Calls prog 130 #[.slice C A B] W fun e w'=>∃(p2:Option Addr)(l2 c2:Nat),e=.returned (.slice p2 l2 c2)∧Own w' W.heap.size (.slice p2 l2 c2) (az x)∧Kp W w':=by
  intro C A B x h hx W g
  have Z:(az x).length<=1048576:=aT (show aS x<=4000 from dZ x 4000 (by omega)) (by decide)
  have h:=qC (.slice C A B) (az x) W (h.kp g).ls (bC _) Z
  rw[aV]at h
  refine h.mono ?_
  rintro e w' ⟨v',rfl,T,g2⟩
  obtain⟨p2,c2,rfl,-,-⟩:=T.arr
  exact⟨p2,_,c2,rfl,T,g2⟩
 have E:=j p l c a h1 la
 have M:=j q k d b h2 lb
 clear j h1 h2 la lb
 go_enter func75,ntmps75
 go_wp2
 generalize hW:((w.alloc (.cells #[.bool false,.slice p l c,.slice q k d] 57)).alloc (.cells #[.bool false,.slice none 0 0,.slice none 0 0] 57))=W
 have N:Kp w W:=by rw[<-hW];exact((Kp.refl w).alloc _).alloc _
 have m:W.cell? ⟨w.heap.size,0,none⟩=some (.bool false):=by rw[<-hW];simp[go_sem]
 have P:W.drew.cell? ⟨w.heap.size,0,none⟩=some (.bool false):=m
 have n:W.cell? ⟨w.heap.size,1,none⟩=some (.slice p l c):=by rw[<-hW];simp[go_sem]
 have L:W.drew.cell? ⟨w.heap.size,1,none⟩=some (.slice p l c):=n
 have i:W.cell? ⟨w.heap.size,2,none⟩=some (.slice q k d):=by rw[<-hW];simp[go_sem]
 have K:W.drew.cell? ⟨w.heap.size,2,none⟩=some (.slice q k d):=i
 obtain⟨S,G,r1,F,X,H⟩:W.cell? ⟨w.heap.size+1,0,none⟩=some (.bool false)∧W.frozen? ⟨w.heap.size+1,0,none⟩=false∧W.cell? ⟨w.heap.size+1,1,none⟩=some (.slice none 0 0)∧W.frozen? ⟨w.heap.size+1,1,none⟩=false∧W.cell? ⟨w.heap.size+1,2,none⟩=some (.slice none 0 0)∧W.frozen? ⟨w.heap.size+1,2,none⟩=false:=by rw[<-hW];simp[go_sem]
 have f:w.heap.size+1<W.heap.size:=be S
 have o:w.heap.size+1≠w.heap.size:=by omega
 clear hW
 go_region_held3 (fun w'=>w'.cell? ⟨w.heap.size,0,none⟩=some (.bool false)∧w'.cell? ⟨w.heap.size,1,none⟩=some (.slice p l c)∧w'.cell? ⟨w.heap.size,2,none⟩=some (.slice q k d)) (first|(with_reducible exact⟨P,L,K⟩)|(with_reducible exact⟨Q,D,R⟩)|(with_reducible exact⟨y,t,s⟩)|(exact⟨(AW o y),(AW o t),(AW o s)⟩)) (first|(go_at_call_of 130 (Value.slice p l c);refine(E _ ?q0).mono ?_;(case q0=>exact N.drew);rintro e wl ⟨p2,l2,c2,rfl,I,gl⟩;have r:Kp W wl:=Kp.trans (Kp.drew (Kp.refl _)) gl;have Q:=ac r m;have D:=ac r n;have R:=ac r i)|(go_at_call_of 130 (Value.slice q k d);refine(M _ ?q0).mono ?_;(case q0=>exact N.trans r);rintro e J ⟨q2,k2,d2,rfl,O,U⟩;have z:Kp W J:=Kp.trans r U;have y:=ac z m;have t:=ac z n;have s:=ac z i;obtain⟨R0,a0,R1,aA,V,Y⟩:=G9 z ⟨S,G,r1,F,X,H⟩))
 all_goals go_wp2
 all_goals (
  have u:w.heap.size<=W.heap.size:=by omega
  have O1:Own J W.heap.size (.slice p2 l2 c2) (az a):=(I.mono (base':=W.heap.size) (ao _)).kp U
  have O2:Own J W.heap.size (.slice q2 k2 d2) (az b):=O.mono (base':=W.heap.size) (Below.size r)
  exact BR (v:=.agg #[.bool false,.slice p2 l2 c2,.slice q2 k2 d2]) ⟨p2,l2,c2,q2,k2,d2,rfl,(((O1.setOther (a:=⟨w.heap.size+1,0,none⟩) f _).setOther (a:=⟨w.heap.size+1,1,none⟩) f _).setOther (a:=⟨w.heap.size+1,2,none⟩) f _).mono u,(((O2.setOther (a:=⟨w.heap.size+1,0,none⟩) f _).setOther (a:=⟨w.heap.size+1,1,none⟩) f _).setOther (a:=⟨w.heap.size+1,2,none⟩) f _).mono u,G4 ((Kp.trans N z)) (by omega)⟩ (by simp[results,results75,go_sem,R0,R1,V]))

theorem Ct (p:Option Addr)(l c:Nat)(q:Option Addr)(k d:Nat)(a b:Nat)(w:World)(h1:Own w 0 (.slice p l c) (az a))(h2:Own w 0 (.slice q k d) (az b))(la:aq a<=1500)(lb:aq b<=1500)(t1:¬(0<l)):Calls prog 75 #[.agg #[.bool false,.slice p l c,.slice q k d]] w fun e w'=>∃(p2:Option Addr)(l2 c2:Nat)(q2:Option Addr)(k2 d2:Nat),e=.returned (.agg #[.bool false,.slice p2 l2 c2,.slice q2 k2 d2])∧Own w' w.heap.size (.slice p2 l2 c2) (az a)∧Own w' w.heap.size (.slice q2 k2 d2) (az b)∧Kp w w' :=
 td p l c q k d a b w h1 h2 (aT la (by decide)) (aT lb (by decide)) t1

theorem RP.zero {base:Nat}{w:World}{s:Bool}{p:Option Addr}{l c:Nat}{q:Option Addr}{k d:Nat}{n:Bool}(n':Bool)(h:RP base w s p l c q k d n 0):RP base w s p l c q k d n' 0:=by
 obtain⟨a,b,m,f,r⟩:=h
 refine⟨a,b,m,f,fun K hK=>?_⟩
 obtain⟨g,i,t,o,j⟩:=r K hK
 refine⟨g,i, ?_,o,j⟩
 unfold Iv;rw[Fq.gj];cases n'<;>cases s<;>rfl
theorem Cw (n:Bool)(m:Nat) s p l c q k d (B1:Nat)(w:World)(h:RP B1 w s p l c q k d n m):Calls prog 75 #[.agg #[.bool s,.slice p l c,.slice q k d]] w fun e w'=>∃s2 p2 l2 c2 q2 k2 d2,e=.returned (.agg #[.bool s2,.slice p2 l2 c2,.slice q2 k2 d2])∧RP w.heap.size w' s2 p2 l2 c2 q2 k2 d2 (!n) m∧Kp w w':=by
 obtain⟨a,b,i,o,C⟩:=h
 have I:l=(az a).length:=by
  obtain⟨O,N,L,-,-⟩:=i.arr
  injection L
 have f:∀(s2:Bool),(a≠0->s2 = !s)->RF s2 a b (!n) m:=by
  intro s2 M K G
  obtain⟨A,u,D,F,E⟩:=C K G
  refine⟨A,u, ?_,F,E⟩
  have J:Iv (!n) m = - Iv n m:=by unfold Iv;cases n<;>simp
  rw[J,D]
  by_cases B:a=0
  ·have H:Fq.vV Ieee.double m=0:=by
    rw[B,aM]at u
    rcases Nat.mul_eq_zero.1 u.symm with h|h
    ·exact h
    ·exact absurd h A
   rw[H];cases s<;>cases s2<;>rfl
  ·rw[M B];cases s<;>simp
 have j:=C 1074 rfl
 have x:a≠0->0<l:=fun h0=>by
  rw[I]
  rcases bS (az a).length with z|z
  ·have:=List.eq_nil_of_length_eq_zero z
   have e:=aV a
   rw[this]at e
   exact absurd e.symm h0
  ·exact z
 have i:=i.mono (aW B1)
 have o:=o.mono (aW B1)
 cases s
 ·by_cases y:0<l
  ·refine(Cv p l c q k d a b w i o j.2.2.2.1 j.2.2.2.2 y).mono ?_
   rintro e w' ⟨p2,l2,c2,q2,k2,d2,rfl,r,t,g⟩
   exact⟨true,p2,l2,c2,q2,k2,d2,rfl,⟨a,b,r,t,f true (fun _=>rfl)⟩,g⟩
  ·refine(Ct p l c q k d a b w i o j.2.2.2.1 j.2.2.2.2 y).mono ?_
   rintro e w' ⟨p2,l2,c2,q2,k2,d2,rfl,r,t,g⟩
   exact⟨false,p2,l2,c2,q2,k2,d2,rfl,⟨a,b,r,t,f false (fun h0=>absurd (x h0) y)⟩,g⟩
 ·refine(Cu p l c q k d a b w i o j.2.2.2.1 j.2.2.2.2).mono ?_
  rintro e w' ⟨p2,l2,c2,q2,k2,d2,rfl,r,t,g⟩
  exact⟨false,p2,l2,c2,q2,k2,d2,rfl,⟨a,b,r,t,f false (fun _=>rfl)⟩,g⟩
def G7 (N:Bool) (M:Nat) (s:Bool)(p:Option Addr)(l c:Nat)(q:Option Addr)(k d:Nat) (w:World):Prop:=∀W:World,Kp w W->Calls prog 75 #[.agg #[.bool s,.slice p l c,.slice q k d]] W fun e w'=>∃s2 p2 l2 c2 q2 k2 d2,e=.returned (.agg #[.bool s2,.slice p2 l2 c2,.slice q2 k2 d2])∧RP W.heap.size w' s2 p2 l2 c2 q2 k2 d2 N M∧Kp W w'
set_option maxHeartbeats 20000000 in
theorem ov:(∀(N:Bool)(M:Nat) s p l c q k d (w:World)(hs:G7 N M s p l c q k d w),Calls prog 106 #[.agg #[.int .i64 0,.bool s,.slice p l c,.slice q k d]] w fun e w'=>∃s2 p2 l2 c2 q2 k2 d2,e=.returned (.agg #[.int .i64 0,.bool s2,.slice p2 l2 c2,.slice q2 k2 d2])∧RP w.heap.size w' s2 p2 l2 c2 q2 k2 d2 N M∧Kp w w')∧(∀(N:Bool)(M:Nat) s p l c q k d (w:World)(hs:G7 N M s p l c q k d w),Calls prog 106 #[.agg #[.int .i64 1,.bool s,.slice p l c,.slice q k d]] w fun e w'=>∃s2 p2 l2 c2 q2 k2 d2,e=.returned (.agg #[.int .i64 (-1),.bool s2,.slice p2 l2 c2,.slice q2 k2 d2])∧RP w.heap.size w' s2 p2 l2 c2 q2 k2 d2 N M∧Kp w w')∧(∀(N:Bool)(M:Nat) s p l c q k d (w:World)(hs:G7 N M s p l c q k d w),Calls prog 106 #[.agg #[.int .i64 (-1),.bool s,.slice p l c,.slice q k d]] w fun e w'=>∃s2 p2 l2 c2 q2 k2 d2,e=.returned (.agg #[.int .i64 1,.bool s2,.slice p2 l2 c2,.slice q2 k2 d2])∧RP w.heap.size w' s2 p2 l2 c2 q2 k2 d2 N M∧Kp w w'):=by
 refine⟨?_,?_,?_⟩
 case' refine_1=>intro N M s p l c q k d w hs;have u:=trivial
 case' refine_2=>intro N M s p l c q k d w hs;have r:=trivial
 case' refine_3=>intro N M s p l c q k d w hs;have A:=trivial
 all_goals (
  go_enter func106,ntmps106
  go_wp2
  first
  |(have f:=u;clear f;generalize hW:((w.alloc (.cells #[.int .i64 0,.bool s,.slice p l c,.slice q k d] 64)).alloc (.cells #[.int .i64 0,.bool false,.slice none 0 0,.slice none 0 0] 64))=W)
  |(have f:=r;clear f;generalize hW:((w.alloc (.cells #[.int .i64 1,.bool s,.slice p l c,.slice q k d] 64)).alloc (.cells #[.int .i64 0,.bool false,.slice none 0 0,.slice none 0 0] 64))=W)
  |(have f:=A;clear f;generalize hW:((w.alloc (.cells #[.int .i64 (-1),.bool s,.slice p l c,.slice q k d] 64)).alloc (.cells #[.int .i64 0,.bool false,.slice none 0 0,.slice none 0 0] 64))=W)
  have J:Kp w W:=by rw[<-hW];exact((Kp.refl w).alloc _).alloc _
  first
  |(
    have f:=u;clear f
    have j:W.cell? ⟨w.heap.size,0,none⟩=some (.int .i64 0):=by rw[<-hW];simp[go_sem]
    have o:W.drew.cell? ⟨w.heap.size,0,none⟩=some (.int .i64 0):=j)
  |(
    have f:=r;clear f
    have j:W.cell? ⟨w.heap.size,0,none⟩=some (.int .i64 1):=by rw[<-hW];simp[go_sem]
    have o:W.drew.cell? ⟨w.heap.size,0,none⟩=some (.int .i64 1):=j)
  |(
    have f:=A;clear f
    have j:W.cell? ⟨w.heap.size,0,none⟩=some (.int .i64 (-1)):=by rw[<-hW];simp[go_sem]
    have o:W.drew.cell? ⟨w.heap.size,0,none⟩=some (.int .i64 (-1)):=j)
  have z:W.cell? ⟨w.heap.size,1,none⟩=some (.bool s):=by rw[<-hW];simp[go_sem]
  have H:W.drew.cell? ⟨w.heap.size,1,none⟩=some (.bool s):=z
  have t:W.cell? ⟨w.heap.size,2,none⟩=some (.slice p l c):=by rw[<-hW];simp[go_sem]
  have G:W.drew.cell? ⟨w.heap.size,2,none⟩=some (.slice p l c):=t
  have y:W.cell? ⟨w.heap.size,3,none⟩=some (.slice q k d):=by rw[<-hW];simp[go_sem]
  have F:W.drew.cell? ⟨w.heap.size,3,none⟩=some (.slice q k d):=y
  obtain⟨Y,C,r1,B,Z,D,r3,I⟩:W.cell? ⟨w.heap.size+1,0,none⟩=some (.int .i64 0)∧W.frozen? ⟨w.heap.size+1,0,none⟩=false∧W.cell? ⟨w.heap.size+1,1,none⟩=some (.bool false)∧W.frozen? ⟨w.heap.size+1,1,none⟩=false∧W.cell? ⟨w.heap.size+1,2,none⟩=some (.slice none 0 0)∧W.frozen? ⟨w.heap.size+1,2,none⟩=false∧W.cell? ⟨w.heap.size+1,3,none⟩=some (.slice none 0 0)∧W.frozen? ⟨w.heap.size+1,3,none⟩=false:=by rw[<-hW];simp[go_sem]
  have a:w.heap.size+1<W.heap.size:=be Y
  have b:w.heap.size+1≠w.heap.size:=by omega
  clear hW
  first
  |(have f:=u;clear f;go_region_held3 (fun w'=>w'.cell? ⟨w.heap.size,0,none⟩=some (.int .i64 0)∧w'.cell? ⟨w.heap.size,1,none⟩=some (.bool s)∧w'.cell? ⟨w.heap.size,2,none⟩=some (.slice p l c)∧w'.cell? ⟨w.heap.size,3,none⟩=some (.slice q k d)) (first|(with_reducible exact⟨o,H,G,F⟩)|(with_reducible exact⟨m,h,n,i⟩)|(exact⟨(vF b m),(vF b h),(vF b n),(vF b i)⟩)) (first|(go_at_call 75;refine(hs _ ?q0).mono ?_;(case q0=>exact J.drew);rintro e R ⟨s2,p2,l2,c2,q2,k2,d2,rfl,O,P⟩;have g:Kp W R:=Kp.trans (Kp.drew (Kp.refl _)) P;have m:=ac g j;have h:=ac g z;have n:=ac g t;have i:=ac g y;obtain⟨Q,U,S,T,K,L,X,V⟩:=GA g ⟨Y,C,r1,B,Z,D,r3,I⟩)))
  |(have f:=r;clear f;go_region_held3 (fun w'=>w'.cell? ⟨w.heap.size,0,none⟩=some (.int .i64 1)∧w'.cell? ⟨w.heap.size,1,none⟩=some (.bool s)∧w'.cell? ⟨w.heap.size,2,none⟩=some (.slice p l c)∧w'.cell? ⟨w.heap.size,3,none⟩=some (.slice q k d)) (first|(with_reducible exact⟨o,H,G,F⟩)|(with_reducible exact⟨m,h,n,i⟩)|(exact⟨(vF b m),(vF b h),(vF b n),(vF b i)⟩)) (first|(go_at_call 75;refine(hs _ ?q0).mono ?_;(case q0=>exact J.drew);rintro e R ⟨s2,p2,l2,c2,q2,k2,d2,rfl,O,P⟩;have g:Kp W R:=Kp.trans (Kp.drew (Kp.refl _)) P;have m:=ac g j;have h:=ac g z;have n:=ac g t;have i:=ac g y;obtain⟨Q,U,S,T,K,L,X,V⟩:=GA g ⟨Y,C,r1,B,Z,D,r3,I⟩)))
  |(have f:=A;clear f;go_region_held3 (fun w'=>w'.cell? ⟨w.heap.size,0,none⟩=some (.int .i64 (-1))∧w'.cell? ⟨w.heap.size,1,none⟩=some (.bool s)∧w'.cell? ⟨w.heap.size,2,none⟩=some (.slice p l c)∧w'.cell? ⟨w.heap.size,3,none⟩=some (.slice q k d)) (first|(with_reducible exact⟨o,H,G,F⟩)|(with_reducible exact⟨m,h,n,i⟩)|(exact⟨(vF b m),(vF b h),(vF b n),(vF b i)⟩)) (first|(go_at_call 75;refine(hs _ ?q0).mono ?_;(case q0=>exact J.drew);rintro e R ⟨s2,p2,l2,c2,q2,k2,d2,rfl,O,P⟩;have g:Kp W R:=Kp.trans (Kp.drew (Kp.refl _)) P;have m:=ac g j;have h:=ac g z;have n:=ac g t;have i:=ac g y;obtain⟨Q,U,S,T,K,L,X,V⟩:=GA g ⟨Y,C,r1,B,Z,D,r3,I⟩)))
  go_wp2
  have E:w.heap.size<=W.heap.size:=by omega
  first
  |(have f:=u;clear f;exact BR (v:=.agg #[.int .i64 0,.bool s2,.slice p2 l2 c2,.slice q2 k2 d2]) ⟨s2,p2,l2,c2,q2,k2,d2,rfl,RP.mono ((((((O.mono (base':=W.heap.size) (ao _))).set (x:=⟨w.heap.size+1,0,none⟩) a (.int .i64 0)).set (x:=⟨w.heap.size+1,1,none⟩) a (.bool s2)).set (x:=⟨w.heap.size+1,2,none⟩) a (.slice p2 l2 c2)).set (x:=⟨w.heap.size+1,3,none⟩) a (.slice q2 k2 d2)) E,yK ((Kp.trans J g)) (by omega)⟩ (by simp[results,results106,go_sem,Q,S,K,X]<;>decide +kernel))
  |(have f:=r;clear f;exact BR (v:=.agg #[.int .i64 (-1),.bool s2,.slice p2 l2 c2,.slice q2 k2 d2]) ⟨s2,p2,l2,c2,q2,k2,d2,rfl,RP.mono ((((((O.mono (base':=W.heap.size) (ao _))).set (x:=⟨w.heap.size+1,0,none⟩) a (.int .i64 (-1))).set (x:=⟨w.heap.size+1,1,none⟩) a (.bool s2)).set (x:=⟨w.heap.size+1,2,none⟩) a (.slice p2 l2 c2)).set (x:=⟨w.heap.size+1,3,none⟩) a (.slice q2 k2 d2)) E,yK ((Kp.trans J g)) (by omega)⟩ (by simp[results,results106,go_sem,Q,S,K,X]<;>decide +kernel))
  |(have f:=A;clear f;exact BR (v:=.agg #[.int .i64 1,.bool s2,.slice p2 l2 c2,.slice q2 k2 d2]) ⟨s2,p2,l2,c2,q2,k2,d2,rfl,RP.mono ((((((O.mono (base':=W.heap.size) (ao _))).set (x:=⟨w.heap.size+1,0,none⟩) a (.int .i64 1)).set (x:=⟨w.heap.size+1,1,none⟩) a (.bool s2)).set (x:=⟨w.heap.size+1,2,none⟩) a (.slice p2 l2 c2)).set (x:=⟨w.heap.size+1,3,none⟩) a (.slice q2 k2 d2)) E,yK ((Kp.trans J g)) (by omega)⟩ (by simp[results,results106,go_sem,Q,S,K,X]<;>decide +kernel)))
theorem sT (n:Bool)(m:Nat) s p l c q k d (B1:Nat)(w:World)(h:RP B1 w s p l c q k d (fN n m) (fM m)):Calls prog 106 #[.agg #[.int .i64 (dT n m),.bool s,.slice p l c,.slice q k d]] w fun e w'=>∃s2 p2 l2 c2 q2 k2 d2,e=.returned (.agg #[.int .i64 (dT (!n) m),.bool s2,.slice p2 l2 c2,.slice q2 k2 d2])∧RP w.heap.size w' s2 p2 l2 c2 q2 k2 d2 (fN (!n) m) (fM m)∧Kp w w':=by
 have a:=fun W (g:Kp w W)=>Cw (fN n m) (fM m) s p l c q k d B1 W (h.kp g)
 unfold dT fN fM at *
 by_cases b:m=9218868437227405312
 ·simp only[if_pos b]at a|-
  have f:∀W:World,Kp w W->Calls prog 75 #[.agg #[.bool s,.slice p l c,.slice q k d]] W fun e w'=>∃s2 p2 l2 c2 q2 k2 d2,e=.returned (.agg #[.bool s2,.slice p2 l2 c2,.slice q2 k2 d2])∧RP W.heap.size w' s2 p2 l2 c2 q2 k2 d2 false 0∧Kp W w':=fun W g=>(a W g).mono (fun e w' ⟨s2,p2,l2,c2,q2,k2,d2,e1,hp,g2⟩=>⟨s2,p2,l2,c2,q2,k2,d2,e1,hp.zero false,g2⟩)
  cases n
  ·exact ov.2.1 false 0 s p l c q k d w f
  ·exact ov.2.2 false 0 s p l c q k d w f
 ·simp only[if_neg b]at a|-
  exact ov.1 (!n) m s p l c q k d w a
theorem zQ (i j i2 j2:Int)(N1 N2:Bool)(M1 M2:Nat) s p l c q k d s2 p2 l2 c2 q2 k2 d2 (w:World)(hs1:∀W:World,Kp w W->Calls prog 106 #[.agg #[.int .i64 i,.bool s,.slice p l c,.slice q k d]] W fun e w'=>∃s5 p5 l5 c5 q5 k5 d5,e=.returned (.agg #[.int .i64 i2,.bool s5,.slice p5 l5 c5,.slice q5 k5 d5])∧RP W.heap.size w' s5 p5 l5 c5 q5 k5 d5 N1 M1∧Kp W w')(hs2:∀W:World,Kp w W->Calls prog 106 #[.agg #[.int .i64 j,.bool s2,.slice p2 l2 c2,.slice q2 k2 d2]] W fun e w'=>∃s5 p5 l5 c5 q5 k5 d5,e=.returned (.agg #[.int .i64 j2,.bool s5,.slice p5 l5 c5,.slice q5 k5 d5])∧RP W.heap.size w' s5 p5 l5 c5 q5 k5 d5 N2 M2∧Kp W w'):Calls prog 48 #[.agg #[.bool false,.int .i64 i,.bool s,.slice p l c,.slice q k d,.int .i64 j,.bool s2,.slice p2 l2 c2,.slice q2 k2 d2]] w fun e w'=>∃(s5:Bool)(p5:Option Addr)(l5 c5:Nat)(q5:Option Addr)(k5 d5:Nat)(s6:Bool)(p6:Option Addr)(l6 c6:Nat)(q6:Option Addr)(k6 d6:Nat),e=.returned (.agg #[.bool false,.int .i64 j2,.bool s5,.slice p5 l5 c5,.slice q5 k5 d5,.int .i64 i2,.bool s6,.slice p6 l6 c6,.slice q6 k6 d6])∧RP w.heap.size w' s5 p5 l5 c5 q5 k5 d5 N2 M2∧RP w.heap.size w' s6 p6 l6 c6 q6 k6 d6 N1 M1∧Kp w w':=by
 go_enter func48,ntmps48
 go_wp2
 generalize hW:((w.alloc (.cells #[.bool false,.int .i64 i,.bool s,.slice p l c,.slice q k d,.int .i64 j,.bool s2,.slice p2 l2 c2,.slice q2 k2 d2] 66)).alloc (.cells #[.bool false,.int .i64 0,.bool false,.slice none 0 0,.slice none 0 0,.int .i64 0,.bool false,.slice none 0 0,.slice none 0 0] 66))=W
 have kw:Kp w W:=by rw[<-hW];exact((Kp.refl w).alloc _).alloc _
 have r:W.cell? ⟨w.heap.size,1,none⟩=some (.int .i64 i):=by rw[<-hW];simp[go_sem]
 have au:W.drew.cell? ⟨w.heap.size,1,none⟩=some (.int .i64 i):=r
 have m:W.cell? ⟨w.heap.size,2,none⟩=some (.bool s):=by rw[<-hW];simp[go_sem]
 have an:W.drew.cell? ⟨w.heap.size,2,none⟩=some (.bool s):=m
 have o:W.cell? ⟨w.heap.size,3,none⟩=some (.slice p l c):=by rw[<-hW];simp[go_sem]
 have M:W.drew.cell? ⟨w.heap.size,3,none⟩=some (.slice p l c):=o
 have h:W.cell? ⟨w.heap.size,4,none⟩=some (.slice q k d):=by rw[<-hW];simp[go_sem]
 have aj:W.drew.cell? ⟨w.heap.size,4,none⟩=some (.slice q k d):=h
 have u:W.cell? ⟨w.heap.size,5,none⟩=some (.int .i64 j):=by rw[<-hW];simp[go_sem]
 have ad:W.drew.cell? ⟨w.heap.size,5,none⟩=some (.int .i64 j):=u
 have y:W.cell? ⟨w.heap.size,6,none⟩=some (.bool s2):=by rw[<-hW];simp[go_sem]
 have L:W.drew.cell? ⟨w.heap.size,6,none⟩=some (.bool s2):=y
 have n:W.cell? ⟨w.heap.size,7,none⟩=some (.slice p2 l2 c2):=by rw[<-hW];simp[go_sem]
 have T:W.drew.cell? ⟨w.heap.size,7,none⟩=some (.slice p2 l2 c2):=n
 have t:W.cell? ⟨w.heap.size,8,none⟩=some (.slice q2 k2 d2):=by rw[<-hW];simp[go_sem]
 have J:W.drew.cell? ⟨w.heap.size,8,none⟩=some (.slice q2 k2 d2):=t
 obtain⟨r0,aa,r1,V,r2,ab,r3,Q,r4,O,r5,I,r6,N,r7,X,r8,a0⟩:W.cell? ⟨w.heap.size+1,0,none⟩=some (.bool false)∧W.frozen? ⟨w.heap.size+1,0,none⟩=false∧W.cell? ⟨w.heap.size+1,1,none⟩=some (.int .i64 0)∧W.frozen? ⟨w.heap.size+1,1,none⟩=false∧W.cell? ⟨w.heap.size+1,2,none⟩=some (.bool false)∧W.frozen? ⟨w.heap.size+1,2,none⟩=false∧W.cell? ⟨w.heap.size+1,3,none⟩=some (.slice none 0 0)∧W.frozen? ⟨w.heap.size+1,3,none⟩=false∧W.cell? ⟨w.heap.size+1,4,none⟩=some (.slice none 0 0)∧W.frozen? ⟨w.heap.size+1,4,none⟩=false∧W.cell? ⟨w.heap.size+1,5,none⟩=some (.int .i64 0)∧W.frozen? ⟨w.heap.size+1,5,none⟩=false∧W.cell? ⟨w.heap.size+1,6,none⟩=some (.bool false)∧W.frozen? ⟨w.heap.size+1,6,none⟩=false∧W.cell? ⟨w.heap.size+1,7,none⟩=some (.slice none 0 0)∧W.frozen? ⟨w.heap.size+1,7,none⟩=false∧W.cell? ⟨w.heap.size+1,8,none⟩=some (.slice none 0 0)∧W.frozen? ⟨w.heap.size+1,8,none⟩=false:=by rw[<-hW];simp[go_sem]
 have a:w.heap.size+1<W.heap.size:=be r0
 have b:w.heap.size+1≠w.heap.size:=by omega
 clear hW
 go_region_held3 (fun w'=>w'.cell? ⟨w.heap.size,1,none⟩=some (.int .i64 i)∧w'.cell? ⟨w.heap.size,2,none⟩=some (.bool s)∧w'.cell? ⟨w.heap.size,3,none⟩=some (.slice p l c)∧w'.cell? ⟨w.heap.size,4,none⟩=some (.slice q k d)∧w'.cell? ⟨w.heap.size,5,none⟩=some (.int .i64 j)∧w'.cell? ⟨w.heap.size,6,none⟩=some (.bool s2)∧w'.cell? ⟨w.heap.size,7,none⟩=some (.slice p2 l2 c2)∧w'.cell? ⟨w.heap.size,8,none⟩=some (.slice q2 k2 d2)) (first|(with_reducible exact⟨au,an,M,aj,ad,L,T,J⟩)|(with_reducible exact⟨aw,U,S,K,aA,R,P,Z⟩)|(with_reducible exact⟨H,B,E,C,A,G,F,z⟩)|(exact⟨(jB b H),(jB b B),(jB b E),(jB b C),(jB b A),(jB b G),(jB b F),(jB b z)⟩)) (first|(go_at_call_of 106 (Value.slice p2 l2 c2);refine(hs2 _ ?q0).mono ?_;(case q0=>exact kw.drew);rintro e wl ⟨s5,p5,l5,c5,q5,k5,d5,rfl,hp,gl⟩;have f:Kp W wl:=Kp.trans (Kp.drew (Kp.refl _)) gl;have aw:=ac f r;have U:=ac f m;have S:=ac f o;have K:=ac f h;have aA:=ac f u;have R:=ac f y;have P:=ac f n;have Z:=ac f t)|(go_at_call_of 106 (Value.slice p l c);refine(hs1 _ ?q0).mono ?_;(case q0=>exact kw.trans f);rintro e wh ⟨s6,p6,l6,c6,q6,k6,d6,rfl,Y,gh⟩;have g:Kp W wh:=Kp.trans f gh;have H:=ac g r;have B:=ac g m;have E:=ac g o;have C:=ac g h;have A:=ac g u;have G:=ac g y;have F:=ac g n;have z:=ac g t;obtain⟨R0,bp,R1,bn,R2,a7,R3,bq,R4,bR,R5,a3,R6,bL,R7,bb,R8,bB⟩:=BQ g ⟨r0,aa,r1,V,r2,ab,r3,Q,r4,O,r5,I,r6,N,r7,X,r8,a0⟩))
 go_wp2
 have D:w.heap.size<=W.heap.size:=by omega
 exact BR (v:=.agg #[.bool false,.int .i64 j2,.bool s5,.slice p5 l5 c5,.slice q5 k5 d5,.int .i64 i2,.bool s6,.slice p6 l6 c6,.slice q6 k6 d6]) ⟨s5,p5,l5,c5,q5,k5,d5,s6,p6,l6,c6,q6,k6,d6,rfl,RP.mono ((((((((((((hp.mono (base':=W.heap.size) (ao _)).kp gh)).set (x:=⟨w.heap.size+1,0,none⟩) a (.bool false)).set (x:=⟨w.heap.size+1,1,none⟩) a (.int .i64 j2)).set (x:=⟨w.heap.size+1,2,none⟩) a (.bool s5)).set (x:=⟨w.heap.size+1,3,none⟩) a (.slice p5 l5 c5)).set (x:=⟨w.heap.size+1,4,none⟩) a (.slice q5 k5 d5)).set (x:=⟨w.heap.size+1,5,none⟩) a (.int .i64 i2)).set (x:=⟨w.heap.size+1,6,none⟩) a (.bool s6)).set (x:=⟨w.heap.size+1,7,none⟩) a (.slice p6 l6 c6)).set (x:=⟨w.heap.size+1,8,none⟩) a (.slice q6 k6 d6)) D,RP.mono (((((((((((Y.mono (base':=W.heap.size) (Below.size f))).set (x:=⟨w.heap.size+1,0,none⟩) a (.bool false)).set (x:=⟨w.heap.size+1,1,none⟩) a (.int .i64 j2)).set (x:=⟨w.heap.size+1,2,none⟩) a (.bool s5)).set (x:=⟨w.heap.size+1,3,none⟩) a (.slice p5 l5 c5)).set (x:=⟨w.heap.size+1,4,none⟩) a (.slice q5 k5 d5)).set (x:=⟨w.heap.size+1,5,none⟩) a (.int .i64 i2)).set (x:=⟨w.heap.size+1,6,none⟩) a (.bool s6)).set (x:=⟨w.heap.size+1,7,none⟩) a (.slice p6 l6 c6)).set (x:=⟨w.heap.size+1,8,none⟩) a (.slice q6 k6 d6)) D,yR ((Kp.trans kw g)) (by omega)⟩ (by simp[results,results48,go_sem,R0,R1,R2,R3,R4,R5,R6,R7,R8])
theorem zR (i j:Int) s p l c q k d s2 p2 l2 c2 q2 k2 d2 (w:World):Calls prog 48 #[.agg #[.bool true,.int .i64 i,.bool s,.slice p l c,.slice q k d,.int .i64 j,.bool s2,.slice p2 l2 c2,.slice q2 k2 d2]] w (RT (.agg #[.bool true,.int .i64 i,.bool s,.slice p l c,.slice q k d,.int .i64 j,.bool s2,.slice p2 l2 c2,.slice q2 k2 d2]) w):=by
 go_enter func48,ntmps48
 go_wp2
 exact BR (v:=.agg #[.bool true,.int .i64 i,.bool s,.slice p l c,.slice q k d,.int .i64 j,.bool s2,.slice p2 l2 c2,.slice q2 k2 d2]) ⟨rfl,(by repeat(with_reducible(first|exact Kp.refl _|apply Kp.alloc)))⟩

def QP (base:Nat)(w:World)(s:Bool)(p:Option Addr)(l c:Nat)(q:Option Addr)(k d:Nat)(Z:Int->Nat):Prop:=∃a b,Own w base (.slice p l c) (az a)∧Own w base (.slice q k d) (az b)∧b≠0∧aq a<=4194304∧aq b<=4194304∧∀dd:Int,mE 53 1074 2098 9218868437227405311 0 dd s a b=Z dd
theorem QP.kp {base:Nat}{w w':World}{s:Bool}{p:Option Addr}{l c:Nat}{q:Option Addr}{k d:Nat}{Z:Int->Nat}(h:QP base w s p l c q k d Z)(g:Kp w w'):QP base w' s p l c q k d Z:=by
 obtain⟨a,b,f,j,i⟩:=h
 exact⟨a,b,f.kp g,j.kp g,i⟩
theorem RP.qp {base:Nat}{w:World}{s:Bool}{p:Option Addr}{l c:Nat}{q:Option Addr}{k d:Nat}{n:Bool}{m:Nat}(h:RP base w s p l c q k d n m):QP base w s p l c q k d (fun dd=>fg dd (Iv n m)):=by
 obtain⟨a,b,t,o,u⟩:=h
 obtain⟨K,i⟩:∃K:Nat,K=1074:=⟨_,rfl⟩
 obtain⟨g,r,j,y,x⟩:=u K i
 refine⟨a,b,t,o,g,by omega,by omega,fun dd=>?_⟩
 refine uG dd (Iv n m) a b a b K s i g ⟨g,Iff.rfl,fun d' p' t' _=>by rw[Int.add_zero],by omega,by omega⟩ ?_ s (fun _=>rfl) ?_
 ·rw[r]
  congr 1
  unfold Iv;cases n<;>simp
 ·intro f
  rw[j]at f|-
  cases s<;>simp at f|-<;>omega

theorem mI s p l c q k d (Z:Int->Nat)(dd:Int)(B1:Nat)(w:World)(h:QP B1 w s p l c q k d Z):Calls prog 150 #[.int .i64 dd,.agg #[.bool s,.slice p l c,.slice q k d]] w (RT (.int .u64 ((Z dd:Nat):Int)) w):=by
 obtain⟨a,b,i,m,g,f,j,n⟩:=h
 have h:=CG dd s (.slice p l c) (.slice q k d) a b w i.ls m.ls g f j
 rw[n dd]at h
 exact h
end Go.Proofs.YtmpjcknaelgnoaaGreatDoor
