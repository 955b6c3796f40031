import Derived.Test.YtmpjcknaelgnoaaGreatDoorKET
set_option maxHeartbeats 1000000
namespace Go.Proofs.YtmpjcknaelgnoaaGreatDoor
open Go.RowKit Tryz
def VF (s:Bool)(a b:Nat)(V:Int):Prop:=∀K:Nat,K=1074->b≠0∧a*2^K=V.natAbs*b∧(V≠0->s=decide (V<0))∧aq a<=100000∧aq b<=100000
def VP (base:Nat)(w:World)(s:Bool)(p:Option Addr)(l c:Nat)(q:Option Addr)(k d:Nat)(V:Int):Prop:=∃a b,Own w base (.slice p l c) (az a)∧Own w base (.slice q k d) (az b)∧VF s a b V
theorem VP.kp {base:Nat}{w:World}{s:Bool}{p:Option Addr}{l c:Nat}{q:Option Addr}{k d:Nat}{V:Int}{w':World}(h:VP base w s p l c q k d V)(g:Kp w w'):VP base w' s p l c q k d V:=by
 obtain⟨a,b,f,j,i⟩:=h
 exact⟨a,b,f.kp g,j.kp g,i⟩
theorem VP.mono {base:Nat}{w:World}{s:Bool}{p:Option Addr}{l c:Nat}{q:Option Addr}{k d:Nat}{V:Int}{base':Nat}(h:VP base w s p l c q k d V)(g:base'<=base):VP base' w s p l c q k d V:=by
 obtain⟨a,b,f,j,i⟩:=h
 exact⟨a,b,f.mono g,j.mono g,i⟩
theorem RP.vp {base:Nat}{w:World}{s:Bool}{p:Option Addr}{l c:Nat}{q:Option Addr}{k d:Nat}{n:Bool}{m:Nat}(h:RP base w s p l c q k d n m):VP base w s p l c q k d (Iv n m):=by
 obtain⟨a,b,r,i,t⟩:=h
 refine⟨a,b,r,i,fun K hK=>?_⟩
 obtain⟨j,o,g,x,u⟩:=t K hK
 refine⟨j, ?_, ?_,by omega,by omega⟩
 ·rw[o];congr 1
  unfold Iv;cases n<;>simp
 ·intro f
  rw[g]at f|-
  cases s<;>simp at f|-<;>omega
theorem B4 s p l c q k d (V:Int)(B1:Nat)(w:World)(h:VP B1 w s p l c q k d V):Calls prog 133 #[.agg #[.bool s,.slice p l c,.slice q k d]] w (RT (.int .i64 (eh V 0)) w):=by
 obtain⟨a,b,r,A,n⟩:=h
 obtain⟨K,o⟩:∃K:Nat,K=1074:=⟨_,rfl⟩
 obtain⟨t,f,m,y,u⟩:=n K o
 have h:=mB s (.slice p l c) (.slice q k d) a w r.ls (by omega)
 have j:a=0 ↔ V=0:=by
  have z:=ah K
  constructor
  ·intro i;rw[i,aM]at f
   rcases Nat.mul_eq_zero.1 f.symm with g|g<;>omega
  ·intro i;rw[i,Int.natAbs_zero,aM]at f
   rcases Nat.mul_eq_zero.1 f with g|g
   ·exact g
   ·omega
 have e:(if a=0 then 0 else if s then (-1:Int) else 1)=eh V 0:=by
  by_cases c:V=0
  ·rw[if_pos (j.2 c),c,jL]
  ·rw[if_neg (fun x=>c (j.1 x)),m c]
   by_cases c2:V<0
   ·rw[af c2,if_pos rfl,fc _ _ c2]
   ·rw[ae c2,if_neg (by decide),eK _ _ (by omega)]
 rw[e]at h
 exact h
theorem lG {E e a b:Nat}(h1:2^a*2^e<2^E)(h2:2^E<2^b*2^e):a+e<E∧E<b+e:=by
 rw[<-ag]at h1 h2
 exact⟨(bK (by decide)).1 h1,(bK (by decide)).1 h2⟩
theorem Hl:(2:Nat)^26=67108864:=by decide
theorem Fd:(2:Nat)^27=134217728:=by decide
theorem Hk:(2:Nat)^28=268435456:=by decide
theorem Hj:(2:Nat)^29=536870912:=by decide
theorem pK {T U:Nat}(hT:∃E,T=2^E)(hU:∃e,U=2^e)(h1:67108864*U<T)(h2:T<536870912*U):T=134217728*U∨T=268435456*U:=by
 obtain⟨E,rfl⟩:=hT
 obtain⟨e,rfl⟩:=hU
 rw[<-Hl]at h1
 rw[<-Hj]at h2
 obtain⟨a,b⟩:=lG h1 h2
 have:E=27+e∨E=28+e:=by omega
 rcases this with h|h
 ·left;rw[h,ag,Fd]
 ·right;rw[h,ag,Hk]
theorem ig {v:Int}{U:Nat}(hU:∃e,U=2^e)(h1:(U:Int) ∣ v)(h2:v.natAbs<=9007199254740992*U):FL v:=by
 obtain⟨e,rfl⟩:=hU
 exact⟨e,by rw[<-fQ];exact h1,h2⟩
theorem fj {U:Nat}(hU:∃e,U=2^e)(k:Nat):∃e,2^k*U=2^e:=by
 obtain⟨e,rfl⟩:=hU
 exact⟨k+e,(ag 2 k e).symm⟩
theorem jO {x c g h l:Int}{T0 T1 T2 T3 U:Nat}(hU:∃e,U=2^e)(hx:(U:Int) ∣ x)(h1:4503599627370496*(U:Int)<=x)(h2:x<9007199254740992*(U:Int))
  (k0:Nr (134217729*x) c T0)(k1:Nr (c-x) g T1)(k2:Nr (c-g) h T2)(k3:Nr (x-h) l T3) :
  ((134217728*U:Nat):Int) ∣ h∧l=x-h∧(U:Int) ∣ l∧l.natAbs<=67108864*U:=by
 have C:0<U:=by obtain⟨e,rfl⟩:=hU;exact ah e
 have y:x<=9007199254740992*(U:Int)-U:=by
  have m:(U:Int) ∣ (9007199254740992*(U:Int)-x):=bY (cT _ _) hx
  by_cases c:x<=9007199254740992*(U:Int)-U
  ·exact c
  ·have:=fH (by omega) m (by omega)
   omega
 have d:T0=134217728*U∨T0=268435456*U:=by
  have o:=k0.lt
  have a:=k0.low
  refine pK k0.two hU (by omega) ?_
  rcases a with a|a<;>omega
 have p:((134217728*U:Nat):Int) ∣ c:=by
  have:=k0.dvd
  rcases d with e|e
  ·rw[<-e];exact this
  ·refine cF ?_ this
   rw[e];exact⟨2,by omega⟩
 have A:604462909807314587353088*(U:Int)<=c-x∧c-x<=1208925819614629174706176*(U:Int):=by
  have o:=k0.near
  have a:=k0.low
  by_cases q:x=4503599627370496*(U:Int)
  ·have n:FL (134217729*x):=by
    refine ig (fj hU 52) ?_ ?_
    ·rw[q,show(2:Nat)^52=4503599627370496 from by decide];exact⟨134217729,by omega⟩
    ·rw[q,show(2:Nat)^52=4503599627370496 from by decide];omega
   have:=k0.fix n
   omega
  ·have B:4503599627370496*(U:Int)+U<=x:=by
    have m:(U:Int) ∣ (x-4503599627370496*(U:Int)):=bY hx (cT _ _)
    by_cases c:4503599627370496*(U:Int)+U<=x
    ·exact c
    ·have:=fH (by omega) m (by omega)
     omega
   rcases d with e|e<;>rw[e]at o a<;>omega
 have s:((134217728*U:Nat):Int) ∣ g∧(c-x-g).natAbs<=67108864*U:=by
  by_cases k:c-x=1208925819614629174706176*(U:Int)
  ·have n:FL (c-x):=by
    refine ig (fj hU 52) ?_ ?_
    ·rw[k,show(2:Nat)^52=4503599627370496 from by decide];exact⟨268435456,by omega⟩
    ·rw[k,show(2:Nat)^52=4503599627370496 from by decide];omega
   have:=k1.fix n
   rw[this]
   exact⟨by rw[k];exact⟨9007199254740992,by omega⟩,by omega⟩
  ·have o:=k1.lt
   have a:=k1.low
   have D:=k1.near
   have i:T1=134217728*U∨T1=268435456*U:=by
    refine pK k1.two hU (by omega) ?_
    rcases a with a|a<;>omega
   have z:T1=134217728*U:=by
    rcases i with e|e
    ·exact e
    ·exfalso;rcases a with a|a<;>omega
   exact⟨by rw[<-z];exact k1.dvd,by omega⟩
 have b:((134217728*U:Nat):Int) ∣ (c-g):=bY p s.1
 have u:=s.2
 have t:h=c-g:=k2.fix (ig (U:=134217728*U) (by rw[<-Fd];exact fj hU 27) b (by omega))
 have j:(U:Int) ∣ ((134217728*U:Nat):Int):=⟨134217728,by omega⟩
 have f:(U:Int) ∣ (x-h):=bY hx (cF j (by rw[t];exact b))
 have r:l=x-h:=k3.fix (ig hU f (by omega))
 exact⟨by rw[t];exact b,r,by rw[r];exact f,by omega⟩
theorem yW {T W:Nat}(hT:∃E,T=2^E)(hW:∃e,W=2^e)(h1:2251799813685248*W<T)(h2:T<18014398509481984*W):T=4503599627370496*W∨T=9007199254740992*W:=by
 obtain⟨E,rfl⟩:=hT
 obtain⟨e,rfl⟩:=hW
 rw[show(2251799813685248:Nat)=2^51 from by decide]at h1
 rw[show(18014398509481984:Nat)=2^54 from by decide]at h2
 obtain⟨a,b⟩:=lG h1 h2
 have:E=52+e∨E=53+e:=by omega
 rcases this with h|h
 ·left;rw[h,ag]
 ·right;rw[h,ag]
theorem DZ {P wp wq wr wt s r1 r2 r3 o:Int}{T0 T1 T2 T3 T4 W:Nat}(hW:∃e,W=2^e)(dp:(W:Int) ∣ wp)(dq:(W:Int) ∣ wq)(dr:(W:Int) ∣ wr)(dt:(W:Int) ∣ wt)
  (bp:wp.natAbs<=4503599627370496*W)(bq:wq.natAbs<=4503599627370496*W)(br:wr.natAbs<=4503599627370496*W)(bt:wt.natAbs<=4503599627370496*W)
  (hP:P=18014398509481984*wp+134217728*(wq+wr)+wt)(h1:20282409603651670423947251286016*W<=P.natAbs)(h2:P.natAbs<81129638414606681695789005144064*W)
  (k0:Nr P s T0)(k1:Nr (s-18014398509481984*wp) r1 T1)(k2:Nr (r1-134217728*wq) r2 T2)(k3:Nr (r2-134217728*wr) r3 T3)(k4:Nr (wt-r3) o T4):o=P-s:=by
 have l:0<W:=by obtain⟨e,rfl⟩:=hW;exact ah e
 have h:T0=4503599627370496*W∨T0=9007199254740992*W:=by
  have r:=k0.lt
  have i:=k0.low
  refine yW k0.two hW (by omega) ?_
  rcases i with i|i<;>omega
 have d:((4503599627370496*W:Nat):Int) ∣ s:=by
  have:=k0.dvd
  rcases h with e|e
  ·rw[<-e];exact this
  ·refine cF ?_ this
   rw[e];exact⟨2,by omega⟩
 have t:(P-s).natAbs<=4503599627370496*W:=by
  have:=k0.near
  rcases h with e|e<;>omega
 have f:(4503599627370496:Nat)=2^52:=by decide
 have c:(134217728:Nat)=2^27:=by decide
 have a:((4503599627370496*W:Nat):Int) ∣ 18014398509481984*wp:=by
  obtain⟨z,rfl⟩:=dp
  exact⟨4*z,by rw[aK];simp only[fd,Int.mul_left_comm (W:Int)];omega⟩
 have b:∀v:Int,(W:Int) ∣ v->((134217728*W:Nat):Int) ∣ 134217728*v:=fun v hv=>by
  rw[aK];exact Int.mul_dvd_mul (Int.dvd_refl _) hv
 have g:((134217728*W:Nat):Int) ∣ ((4503599627370496*W:Nat):Int):=⟨33554432,by omega⟩
 have n:(W:Int) ∣ ((134217728*W:Nat):Int):=⟨134217728,by omega⟩
 have j:r1=s-18014398509481984*wp:=k1.fix (ig (U:=4503599627370496*W) (by rw[f];exact fj hW 52) (bY d a) (by omega))
 have m:r2=r1-134217728*wq:=k2.fix (ig (U:=134217728*W) (by rw[c];exact fj hW 27) (bY (by rw[j];exact cF g (bY d a)) (b _ dq)) (by omega))
 have k:((134217728*W:Nat):Int) ∣ r2:=by
  rw[m,j];exact bY (cF g (bY d a)) (b _ dq)
 have p:r3=r2-134217728*wr:=k3.fix (ig (U:=134217728*W) (by rw[c];exact fj hW 27) (bY k (b _ dr)) (by omega))
 have q:(W:Int) ∣ r3:=by
  rw[p];exact cF n (bY k (b _ dr))
 have u:o=wt-r3:=k4.fix (ig hW (bY dt q) (by omega))
 omega
theorem vQ {x c g h l:Int}{T0 T1 T2 T3 U:Nat}(hU:∃e,U=2^e)(hx:(U:Int) ∣ x)(h1:4503599627370496*U<=x.natAbs)(h2:x.natAbs<9007199254740992*U)
  (k0:Nr (134217729*x) c T0)(k1:Nr (c-x) g T1)(k2:Nr (c-g) h T2)(k3:Nr (x-h) l T3) :
  ((134217728*U:Nat):Int) ∣ h∧l=x-h∧(U:Int) ∣ l∧l.natAbs<=67108864*U:=by
 rcases cC x 0 with c0|c0
 ·have d:=k0.neg
  have k:=k1.neg
  have i:=k2.neg
  have j:=k3.neg
  rw[show -(134217729*x)=134217729*(-x)from by omega]at d
  rw[show -(c-x) = -c - -x from by omega]at k
  rw[show -(c-g) = -c - -g from by omega]at i
  rw[show -(x-h) = -x - -h from by omega]at j
  obtain⟨a,b,e,f⟩:=jO hU (Int.dvd_neg.2 hx) (by omega) (by omega) d k i j
  exact⟨Int.dvd_neg.1 a,by omega,Int.dvd_neg.1 e,by omega⟩
 ·exact jO hU hx (by omega) (by omega) k0 k1 k2 k3
theorem rX (neg:Bool)(a j:Nat)(p:Int)(ha:a≠0):Ieee.double.nearest neg (a*2^j) p=Ieee.double.nearest neg a (p+j):=by
 have l:=ah j
 have i:a*2^j≠0:=fun h=>by rcases Nat.mul_eq_zero.1 h with h|h<;>omega
 have g:(a*2^j).log2=a.log2+j:=by
  have m:=du a j ha
  rw[jx _ i,jx _ ha]at m
  omega
 rw[jk _ _ _ _ i,jk _ _ _ _ ha,xE,DQ,Fq.D9,Fq.yc,g]
 obtain⟨b,k⟩:∃b:Int,b=max (p+((a.log2+j:Nat):Int)-((52:Nat):Int)) (-1074):=⟨_,rfl⟩
 have f:max (p+(j:Int)+((a.log2:Nat):Int)-((52:Nat):Int)) (-1074)=b:=by rw[k];congr 1;omega
 rw[<-k,f]
 congr 3
 rw[mW,mW,dw,dw]
 by_cases o:b<=p
 ·rw[show(b-p).toNat=0 from by omega,show(b-(p+(j:Int))).toNat=0 from by omega,show(p+(j:Int)-b).toNat=j+(p-b).toNat from by omega,ag,ak]
 ·rw[show(p-b).toNat=0 from by omega,aB,aG]
  by_cases c2:b<=p+(j:Int)
  ·rw[show(b-(p+(j:Int))).toNat=0 from by omega]
   obtain⟨c,d⟩:=aA ((b-p).toNat)
   rw[<-d,show(p+(j:Int)-b).toNat=j-c from by omega]
   have n:a*2^j=a*2^(j-c)*2^c:=by rw[ak,<-ag];congr 2;omega
   rw[n,eg _ (ah c),Nat.mul_mod_left,eC _ _ _ (ah c),aB,fy,fW,eC _ _ _ (by omega)]
  ·rw[show(p+(j:Int)-b).toNat=0 from by omega,aB,aG]
   obtain⟨c,d⟩:=aA ((b-(p+(j:Int))).toNat)
   rw[<-d,show(b-p).toNat=c+j from by omega,ag,cQ _ _ l,cI,iE _ _ _ _ _ l]
theorem Dd (neg:Bool)(mag P K t:Nat)(place:Int)(ht:(t:Int)=place+1074+K)(hP:mag*2^t=P*2^K):Ieee.double.nearest neg mag place=Fq.wD neg (dK 53 2098 9218868437227405311 9218868437227405312 0 (rU 0 53 P 1)):=by
 by_cases c:K<=t
 ·have e:mag*2^(t-K)=P:=by
   have a:mag*2^(t-K)*2^K=P*2^K:=by
    rw[ak,<-ag,show t-K+K=t from by omega,hP]
   exact Nat.eq_of_mul_eq_mul_right (ah K) a
  rw[mL neg mag place (t-K) (by omega),e]
 ·have e:mag=P*2^(K-t):=by
   have a:mag*2^t=P*2^(K-t)*2^t:=by
    rw[hP,ak,<-ag,show K-t+t=K from by omega]
   exact Nat.eq_of_mul_eq_mul_right (ah t) a
  by_cases b:P=0
  ·have d:mag=0:=by rw[e,b,aM]
   have a:=mL neg 0 (-1074) 0 (by omega)
   rw[aM]at a
   rw[b,<-a,d]
   unfold Ieee.Format.nearest
   rw[if_pos rfl,if_pos rfl]
  ·rw[e,rX neg P (K-t) place b,mL neg P _ 0 (by omega),aB,aG]
theorem nM (n n':Bool)(m m':Nat)(h:m<9218868437227405312)(h':m'<9218868437227405312)(K:Nat)(V:Int)(hK:K=1074)(hV:V*((2^K:Nat):Int)=Iv n m*Iv n' m') :
  FloatKind.f64.format.mul (Fq.wD n m) (Fq.wD n' m')=some (Fq.wD (if V=0 then n ^^ n' else decide (V<0)) (dK 53 2098 9218868437227405311 9218868437227405312 0 (rU 0 53 V.natAbs 1))):=by
 have d:V.natAbs*2^K=Fq.vV Ieee.double m*Fq.vV Ieee.double m':=by
  have l:=congrArg Int.natAbs hV
  rw[bI,bI,aU,gg,gg]at l
  exact l
 have i:V≠0->(n ^^ n')=decide (V<0):=fun hv=>by
  have j:(0:Int)<((2^K:Nat):Int):=by have:=ah K;omega
  obtain⟨q,o⟩:∃q:Int,q=((2^K:Nat):Int):=⟨_,rfl⟩
  rw[<-o]at hV j
  have A:V*q≠0:=fun h=>by rcases Int.mul_eq_zero.1 h with h|h<;>omega
  have z:V<0 ↔ V*q<0:=by
   constructor
   ·intro h;exact bQ h j
   ·intro h
    rcases cC V 0 with c|c
    ·exact c
    ·have:=b8 c (bT j);omega
  obtain⟨x,p⟩:∃x:Int,x=((Fq.vV Ieee.double m:Nat):Int):=⟨_,rfl⟩
  obtain⟨y,r⟩:∃y:Int,y=((Fq.vV Ieee.double m':Nat):Int):=⟨_,rfl⟩
  have t:0<=x*y:=b8 (by omega) (by omega)
  unfold Iv at hV
  rw[<-p,<-r]at hV
  cases n<;>cases n'<;>simp only[if_true,if_false,Bool.false_eq_true,bF,Int.mul_neg,eW]at hV<;>by_cases c:V<0<;>simp[c]<;>omega
 show Ieee.double.mul _ _=_
 unfold Ieee.Format.mul
 rw[Fq.jZ _ _ (by rw[Fq.Em n m (by omega),Fq.yc];exact h),Fq.jZ _ _ (by rw[Fq.Em n' m' (by omega),Fq.yc];exact h'),Fq.Em n m (by omega),Fq.Em n' m' (by omega),Fq.Hm n m (by omega),Fq.Hm n' m' (by omega),xE]
 unfold Ieee.Datum.product
 unfold Fq.vV at d
 obtain⟨e,f⟩:=aA (Fq.eE Ieee.double m)
 obtain⟨u,b⟩:=aA (Fq.eE Ieee.double m')
 obtain⟨a,k⟩:=aA (Fq.mM Ieee.double m)
 obtain⟨s,g⟩:=aA (Fq.mM Ieee.double m')
 rw[<-f,<-b,<-k,<-g]at d
 rw[<-f,<-b,<-k,<-g]
 simp only[Option.map_some]
 unfold Ieee.Format.write
 simp only
 rw[Dd (n ^^ n') (a*s) V.natAbs K (e+u) _ (by omega) (by rw[d,ag];simp only[ak,aZ])]
 congr 2
 by_cases c:V=0
 ·rw[if_pos c]
 ·rw[if_neg c];exact i c
theorem jw (n:Bool)(m:Nat)(h1:2580562586483294208<=m)(h2:m<=6633802251116740608):∃e:Nat,572<=e∧e<=1472∧((2^e:Nat):Int) ∣ Iv n m∧4503599627370496*2^e<=(Iv n m).natAbs∧(Iv n m).natAbs<9007199254740992*2^e:=by
 have b:¬m<4503599627370496:=by omega
 refine⟨m/4503599627370496-1,by omega,by omega, ?_⟩
 have a:(Iv n m).natAbs=(4503599627370496+m%4503599627370496)*2^(m/4503599627370496-1):=by
  rw[gg];unfold Fq.vV Fq.mM Fq.eE;rw[Fq.D9,if_neg b,if_neg b]
 refine⟨Int.dvd_natAbs.1 (by rw[a];exact Int.natCast_dvd_natCast.2 (Nat.dvd_mul_left _ _)), ?_, ?_⟩
 ·rw[a];exact ai _ (by omega)
 ·rw[a];exact am (by omega) (ah _)
theorem Du (K:Nat)(hK:K=1074):Iv false 4728779608772575232=134217729*((2^K:Nat):Int):=by
 unfold Iv Fq.vV Fq.mM Fq.eE
 rw[Fq.D9,if_neg (by decide),if_neg (by decide),if_neg (by decide),show(4728779608772575232:Nat)/4503599627370496-1=1049 from by decide,show(4503599627370496:Nat)+4728779608772575232%4503599627370496=134217729*2^25 from by decide]
 obtain⟨j,a⟩:=aA 1049
 rw[<-a,ak,<-ag,show 25+j=K from by omega]
 simp
theorem sm (n:Bool)(m:Nat)(hm:m<9218868437227405312)(e:Nat)(he:e<=1960)(hU:((2^e:Nat):Int) ∣ Iv n m)(b1:4503599627370496*2^e<=(Iv n m).natAbs)(b2:(Iv n m).natAbs<9007199254740992*2^e) :
  ∃(c g h l:Bool)(cr gr hr lr:Nat),FloatKind.f64.format.mul (Fq.wD n m) (Fq.wD false 4728779608772575232)=some (Fq.wD c cr)∧FloatKind.f64.format.sub (Fq.wD c cr) (Fq.wD n m)=some (Fq.wD g gr)∧FloatKind.f64.format.sub (Fq.wD c cr) (Fq.wD g gr)=some (Fq.wD h hr)∧FloatKind.f64.format.sub (Fq.wD n m) (Fq.wD h hr)=some (Fq.wD l lr)∧hr<9218868437227405312∧lr<9218868437227405312∧∃a b:Int,Iv h hr=134217728*(((2^e:Nat):Int)*a)∧Iv l lr=((2^e:Nat):Int)*b∧Iv n m=Iv h hr+Iv l lr∧a.natAbs<=67108864∧b.natAbs<=67108864:=by
 obtain⟨K,R⟩:=aA 2020
 obtain⟨L,t⟩:=aA 1074
 have j:(Iv n m).natAbs<2^K:=by
  refine aE b2 ?_
  rw[show(9007199254740992:Nat)=2^53 from by decide,<-ag]
  exact al (by decide) (by omega)
 obtain⟨X,i⟩:=aA (Iv n m)
 have F:(134217729*X).natAbs<2^(K+28):=by
  rw[<-i]at j
  rw[ag,show(2:Nat)^28=268435456 from by decide]
  omega
 obtain⟨c,cr,S,A,q,D,_,_,z⟩:=fp (134217729*X) (n ^^ false) (K+28) (by omega) (by omega) F
 obtain⟨g,gr,W,C,H,x,_,_,O⟩:=fp (Iv c cr-Iv n m) (c && !n) (K+30) (by omega) (by omega) (gm z j (by omega)).2
 obtain⟨h,hr,V,B,p,E,_,_,I⟩:=fp (Iv c cr-Iv g gr) (c && !g) (K+32) (by omega) (by omega) (gI z O (by omega)).2
 obtain⟨l,lr,Q,N,J,u,_,_,T⟩:=fp (Iv n m-Iv h hr) (n && !h) (K+34) (by omega) (by omega) (gI j I (by omega)).2
 rw[<-i]at x u hU b1 b2
 obtain⟨o,Y,r,y⟩:=vQ ⟨e,rfl⟩ hU b1 b2 D x E u
 obtain⟨U,f⟩:=aA (2^e)
 have M:0<U:=by rw[f];exact ah e
 refine⟨c,g,h,l,cr,gr,hr,lr, ?_, ?_, ?_, ?_,p,J, ?_⟩
 ·rw[nM n false m _ hm (by decide) L (134217729*X) t (by rw[Du L t,<-i];simp only[fd,Int.mul_left_comm]),A]
 ·rw[ip c n cr m q hm _ rfl,C]
 ·rw[ip c g cr gr q H _ rfl,B]
 ·rw[ip n h m hr hm p _ rfl,N]
 ·rw[<-f]at o r y b2|-
  obtain⟨a,k⟩:=o
  obtain⟨b,s⟩:=r
  rw[aK,fd]at k
  refine⟨a,b,k,s,by rw[<-i];omega, ?_, ?_⟩
  ·have P:(Iv h hr).natAbs<9007199254740992*U+67108864*U+1:=by omega
   have G:(Iv h hr).natAbs=134217728*(U*a.natAbs):=by rw[k,bI,bI];rfl
   rw[G]at P
   rcases cO 67108864 a.natAbs with d|d
   ·exfalso
    have:=aR U d
    omega
   ·exact d
  ·rw[s,bI,aU]at y
   rcases cO 67108864 b.natAbs with d|d
   ·exfalso
    have:=aR U d
    omega
   ·exact d
theorem me {U U' W Z:Int}(hW:U*U'=W*Z)(c c' a a':Int):c*(U*a)*(c'*(U'*a'))=c*c'*(W*(a*a'))*Z:=by
 have e:c*(U*a)*(c'*(U'*a'))=c*c'*(U*U'*(a*a')):=by ac_rfl
 rw[e,hW];ac_rfl
theorem mh {a b:Int}{W:Nat}(ha:a.natAbs<=67108864)(hb:b.natAbs<=67108864):((W:Int)*(a*b)).natAbs<=4503599627370496*W:=by
 have h:=dB ha hb
 rw[bI,bI,aU,ap]
 exact ai _ (by omega)
theorem gY (c U V:Nat):c*U*(c*V)=c*c*(U*V):=by ac_rfl
theorem rN (n n' h l h' l':Bool)(m m' hr lr hr' lr' e e':Nat)(hm:m<9218868437227405312)(hm':m'<9218868437227405312)(f1:hr<9218868437227405312)(f2:lr<9218868437227405312)(f3:hr'<9218868437227405312)(f4:lr'<9218868437227405312)
  (e1:1074<=e+e')(e2:e+e'<=2944)(b1:4503599627370496*2^e<=(Iv n m).natAbs)(b2:(Iv n m).natAbs<9007199254740992*2^e)(b3:4503599627370496*2^e'<=(Iv n' m').natAbs)(b4:(Iv n' m').natAbs<9007199254740992*2^e')
  (a b a' b':Int)(ga:Iv h hr=134217728*(((2^e:Nat):Int)*a))(gb:Iv l lr=((2^e:Nat):Int)*b)(gx:Iv n m=Iv h hr+Iv l lr)(la:a.natAbs<=67108864)(lb:b.natAbs<=67108864)
  (ga':Iv h' hr'=134217728*(((2^e':Nat):Int)*a'))(gb':Iv l' lr'=((2^e':Nat):Int)*b')(gx':Iv n' m'=Iv h' hr'+Iv l' lr')(la':a'.natAbs<=67108864)(lb':b'.natAbs<=67108864)(L:Nat)(hL:L=1074) :
  ∃(V:Int)(s p1 q1 p2 q2 p3 q3 p4 o:Bool)(r pr1 qr1 pr2 qr2 pr3 qr3 pr4 ro K:Nat),V*((2^L:Nat):Int)=Iv n m*Iv n' m'∧FloatKind.f64.format.mul (Fq.wD n m) (Fq.wD n' m')=some (Fq.wD s r)∧FloatKind.f64.format.mul (Fq.wD h hr) (Fq.wD h' hr')=some (Fq.wD p1 pr1)∧FloatKind.f64.format.sub (Fq.wD s r) (Fq.wD p1 pr1)=some (Fq.wD q1 qr1)
   ∧ FloatKind.f64.format.mul (Fq.wD l lr) (Fq.wD h' hr')=some (Fq.wD p2 pr2)∧FloatKind.f64.format.sub (Fq.wD q1 qr1) (Fq.wD p2 pr2)=some (Fq.wD q2 qr2)∧FloatKind.f64.format.mul (Fq.wD h hr) (Fq.wD l' lr')=some (Fq.wD p3 pr3)∧FloatKind.f64.format.sub (Fq.wD q2 qr2) (Fq.wD p3 pr3)=some (Fq.wD q3 qr3)
   ∧ FloatKind.f64.format.mul (Fq.wD l lr) (Fq.wD l' lr')=some (Fq.wD p4 pr4)∧FloatKind.f64.format.sub (Fq.wD p4 pr4) (Fq.wD q3 qr3)=some (Fq.wD o ro)∧r<9218868437227405312∧ro<9218868437227405312∧r=fk 53 (rU 0 53 V.natAbs 1)∧s=(if V=0 then n ^^ n' else decide (V<0))∧Iv o ro=V-Iv s r∧53<=K∧K<=2096∧V.natAbs<2^K:=by
 obtain⟨W,z⟩:=aA (2^(e+e'-L))
 obtain⟨K,hK,bE⟩:∃K,1979<=K∧K<=1981:=⟨1980,by decide,by decide⟩
 obtain⟨Z,J⟩:∃Z:Nat,Z=2^L:=⟨_,rfl⟩
 have F:0<Z:=by rw[J];exact ah L
 have a3:0<W:=by rw[z];exact ah _
 have g:2^e*2^e'=W*Z:=by rw[z,J,<-ag,<-ag];congr 1;omega
 have G:162259276829213363391578010288128*W<=2^K:=by
  rw[z,show(162259276829213363391578010288128:Nat)=2^107 from by decide,<-ag]
  exact al (by decide) (by omega)
 have d:((2^e:Nat):Int)*((2^e':Nat):Int)=(W:Int)*(Z:Int):=by rw[<-aK,<-aK,g]
 obtain⟨u,k⟩:∃x:Int,x=(W:Int)*(a*a'):=⟨_,rfl⟩
 obtain⟨t,j⟩:∃x:Int,x=(W:Int)*(b*a'):=⟨_,rfl⟩
 obtain⟨wr,f⟩:∃x:Int,x=(W:Int)*(a*b'):=⟨_,rfl⟩
 obtain⟨p,i⟩:∃x:Int,x=(W:Int)*(b*b'):=⟨_,rfl⟩
 have B:18014398509481984*u*(Z:Int)=Iv h hr*Iv h' hr':=by
  rw[ga,ga',me d,<-k,show(134217728:Int)*134217728=18014398509481984 from by decide]
 have D:134217728*t*(Z:Int)=Iv l lr*Iv h' hr':=by
  have:=me d 1 134217728 b a'
  rw[Int.one_mul,Int.one_mul]at this
  rw[gb,ga',this,<-j]
 have H:134217728*wr*(Z:Int)=Iv h hr*Iv l' lr':=by
  have:=me d 134217728 1 a b'
  rw[Int.one_mul,Int.mul_one]at this
  rw[ga,gb',this,<-f]
 have I:p*(Z:Int)=Iv l lr*Iv l' lr':=by
  have:=me d 1 1 b b'
  rw[Int.one_mul,Int.one_mul,Int.one_mul,Int.one_mul]at this
  rw[gb,gb',this,<-i]
 obtain⟨V,hV⟩:∃V:Int,V=18014398509481984*u+134217728*(t+wr)+p:=⟨_,rfl⟩
 have A:V*(Z:Int)=Iv n m*Iv n' m':=by
  rw[gx,gx',Int.add_mul,Int.mul_add,Int.mul_add,<-B,<-D,<-H,<-I,hV]
  simp only[Int.add_mul,Int.mul_add]
  omega
 have bp:u.natAbs<=4503599627370496*W:=by rw[k];exact mh la la'
 have bq:t.natAbs<=4503599627370496*W:=by rw[j];exact mh lb la'
 have br:wr.natAbs<=4503599627370496*W:=by rw[f];exact mh la lb'
 have bt:p.natAbs<=4503599627370496*W:=by rw[i];exact mh lb lb'
 have T:(W:Int) ∣ u:=by rw[k];exact Int.dvd_mul_right _ _
 have dq:(W:Int) ∣ t:=by rw[j];exact Int.dvd_mul_right _ _
 have N:(W:Int) ∣ wr:=by rw[f];exact Int.dvd_mul_right _ _
 have dt:(W:Int) ∣ p:=by rw[i];exact Int.dvd_mul_right _ _
 have y:V.natAbs*Z=(Iv n m).natAbs*(Iv n' m').natAbs:=by
  have q:=congrArg Int.natAbs A
  rw[bI,bI,aU]at q
  exact q
 have v1:20282409603651670423947251286016*W<=V.natAbs:=by
  have q:=dB b1 b3
  rw[<-y,gY,show(4503599627370496:Nat)*4503599627370496=20282409603651670423947251286016 from by decide,g,<-ak]at q
  exact dM q F
 have v2:V.natAbs<81129638414606681695789005144064*W:=by
  have q:=Nat.mul_lt_mul'' b2 b4
  rw[<-y,gY,show(9007199254740992:Nat)*9007199254740992=81129638414606681695789005144064 from by decide,g,<-ak]at q
  exact bP q
 have c:∃x,W=2^x:=⟨_,z⟩
 clear y d g b1 b2 b3 b4 z k j f i la lb la' lb' ga gb ga' gb' gx gx' e1 e2
 have O:V.natAbs<2^K:=by omega
 have S:(18014398509481984*u).natAbs<2^K:=by omega
 have k2:(134217728*t).natAbs<2^K:=by omega
 have Y:(134217728*wr).natAbs<2^K:=by omega
 have Q:p.natAbs<2^K:=by omega
 have g1:FL (18014398509481984*u):=ig (U:=18014398509481984*W) (by rw[show(18014398509481984:Nat)=2^54 from by decide];exact fj c 54) (by rw[aK];exact Int.mul_dvd_mul (Int.dvd_refl _) T) (by omega)
 have g2:FL (134217728*t):=ig (U:=134217728*W) (by rw[<-Fd];exact fj c 27) (by rw[aK];exact Int.mul_dvd_mul (Int.dvd_refl _) dq) (by omega)
 have g3:FL (134217728*wr):=ig (U:=134217728*W) (by rw[<-Fd];exact fj c 27) (by rw[aK];exact Int.mul_dvd_mul (Int.dvd_refl _) N) (by omega)
 have g4:FL (p):=ig c dt (by omega)
 clear G
 obtain⟨s,r,T0,w0,X,n0,e0,C,l0⟩:=fp V (n ^^ n') K (by omega) (by omega) O
 obtain⟨p1,pr1,T1,w1,r1,n1,_,_,_⟩:=fp (18014398509481984*u) (h ^^ h') K (by omega) (by omega) S
 obtain⟨p2,pr2,T2,w2,r2,n2,_,_,_⟩:=fp (134217728*t) (l ^^ h') K (by omega) (by omega) k2
 obtain⟨p3,pr3,T3,w3,r3,n3,_,_,_⟩:=fp (134217728*wr) (h ^^ l') K (by omega) (by omega) Y
 obtain⟨p4,pr4,T4,w4,r4,n4,_,_,_⟩:=fp p (l ^^ l') K (by omega) (by omega) Q
 have M:Iv p1 pr1=18014398509481984*u:=n1.fix g1
 have R:Iv p2 pr2=134217728*t:=n2.fix g2
 have x3:Iv p3 pr3=134217728*wr:=n3.fix g3
 have P:Iv p4 pr4=p:=n4.fix g4
 have y1:(Iv p1 pr1).natAbs<2^K:=by rw[M];exact S
 have y2:(Iv p2 pr2).natAbs<2^K:=by rw[R];exact k2
 have y3:(Iv p3 pr3).natAbs<2^K:=by rw[x3];exact Y
 have y4:(Iv p4 pr4).natAbs<2^K:=by rw[P];exact Q
 obtain⟨q1,qr1,T5,w5,r5,n5,_,_,l5⟩:=fp (Iv s r-Iv p1 pr1) (s && !p1) (K+2) (by omega) (by omega) (gm l0 y1 (by omega)).2
 obtain⟨q2,qr2,T6,w6,r6,n6,_,_,l6⟩:=fp (Iv q1 qr1-Iv p2 pr2) (q1 && !p2) (K+4) (by omega) (by omega) (gm l5 y2 (by omega)).2
 obtain⟨q3,qr3,T7,w7,r7,n7,_,_,l7⟩:=fp (Iv q2 qr2-Iv p3 pr3) (q2 && !p3) (K+6) (by omega) (by omega) (gm l6 y3 (by omega)).2
 obtain⟨o,ro,T8,w8,r8,n8,_,_,l8⟩:=fp (Iv p4 pr4-Iv q3 qr3) (p4 && !q3) (K+8) (by omega) (by omega) (gI y4 l7 (by omega)).2
 have E:=DZ c T dq N dt bp bq br bt hV v1 v2 n0 (by rw[<-M];exact n5) (by rw[<-R];exact n6) (by rw[<-x3];exact n7) (by rw[<-P];exact n8)
 rw[J]at B D H I A
 refine⟨V,s,p1,q1,p2,q2,p3,q3,p4,o,r,pr1,qr1,pr2,qr2,pr3,qr3,pr4,ro,K,A, ?_, ?_, ?_, ?_, ?_, ?_, ?_, ?_, ?_,X,r8,e0,C,E,by omega,by omega,O⟩
 ·rw[nM n n' m m' hm hm' L V hL A,w0]
 ·rw[nM h h' hr hr' f1 f3 L _ hL B,w1]
 ·rw[ip s p1 r pr1 X r1 _ rfl,w5]
 ·rw[nM l h' lr hr' f2 f3 L _ hL D,w2]
 ·rw[ip q1 p2 qr1 pr2 r5 r2 _ rfl,w6]
 ·rw[nM h l' hr lr' f1 f4 L _ hL H,w3]
 ·rw[ip q2 p3 qr2 pr3 r6 r3 _ rfl,w7]
 ·rw[nM l l' lr lr' f2 f4 L _ hL I,w4]
 ·rw[ip p4 q3 pr4 qr3 r4 r7 _ rfl,w8]
end Go.Proofs.YtmpjcknaelgnoaaGreatDoor
