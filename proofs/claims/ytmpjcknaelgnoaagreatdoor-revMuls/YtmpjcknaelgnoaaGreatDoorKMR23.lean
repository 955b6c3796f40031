import Derived.Test.YtmpjcknaelgnoaaGreatDoorKMVa
import Derived.Test.YtmpjcknaelgnoaaGreatDoorKO6
set_option maxHeartbeats 2000000
namespace Go.Proofs.YtmpjcknaelgnoaaGreatDoor
open Go.RowKit
def uQ (d:Int)(ng:Bool)(P:Nat):Nat:=if P=0 then 0 else gO ng (dK 53 2098 9218868437227405311 9218868437227405312 (dU ng d) (rV (dU ng d) 53 P 1 (-1074)))
theorem C5 (d:Int)(ng:Bool)(c:Nat)(low:Int)(P:Nat)(h1:-2148<=low)(h2:low<=8192)(hb:aq c<=524288)(hP:P=c*2^(low+2148).toNat):tI d ng c low=uQ d ng P:=by
 have g:¬16384<aS c:=mt (jm c).2 (by omega)
 rw[C4]
 unfold ni uQ
 rw[if_neg (by rw[nN];omega),if_neg (by decide)]
 obtain⟨k,f⟩:=aA ((low+2148).toNat)
 rw[<-f]at hP
 by_cases a:c=0
 ·rw[if_pos a,if_pos (by rw[hP,a,aM])]
 ·have b:P≠0:=by rw[hP];exact fF a (dL (ah k))
  rw[if_neg a,if_neg b,hP,jD _ _ _ _ _ _ (by decide),show(-1074:Int)+(k:Int)=low+1074 from by omega]
theorem yZ (d V:Int)(ng:Bool)(P K:Nat)(hK:K=1074)(hP:V.natAbs*2^K=P)(hng:V≠0->ng=decide (V<0)):fg d V=uQ d ng P:=by
 unfold fg uQ
 by_cases c:V=0
 ·rw[if_pos c,if_pos (by rw[<-hP,c];simp)]
 ·have a:P≠0:=by rw[<-hP];exact fF (by omega) (dL (ah K))
  rw[if_neg c,if_neg a,<-hng c,<-hP,jD _ _ _ _ _ _ (by decide),show(-1074:Int)+(K:Int)=0 from by omega]
  unfold rV
  rw[show((0:Int)).toNat=0 from rfl,show(-(0:Int)).toNat=0 from rfl,aB,aG,aG]
theorem Gd (n n':Bool)(m m' K:Nat)(V:Int)(hV:V*((2^K:Nat):Int)=Iv n m*Iv n' m'):V.natAbs*2^K=Fq.vV Ieee.double m*Fq.vV Ieee.double m':=by
 have a:=congrArg Int.natAbs hV
 rw[bI,bI,aU,gg,gg]at a
 exact a
theorem gj (m:Nat):Fq.vV Ieee.double m=0 ↔ m=0:=by
 unfold Fq.vV Fq.mM Fq.eE
 rw[Fq.D9]
 have:=ah (if m<4503599627370496 then 0 else m/4503599627370496-1)
 constructor
 ·intro h
  rcases Nat.mul_eq_zero.1 h with h|h
  ·split at h<;>omega
  ·omega
 ·intro h;subst h;simp
theorem lZ {T U:Nat}(hT:∃E,T=2^E)(hU:∃e,U=2^e)(h:U<=T):U ∣ T:=by
 obtain⟨E,rfl⟩:=hT
 obtain⟨e,rfl⟩:=hU
 exact Nat.pow_dvd_pow 2 ((Nat.pow_le_pow_iff_right (by decide)).1 h)
theorem ms {T U:Nat}(hT:∃E,T=2^E)(hU:∃e,U=2^e)(h:T<2*U):T<=U:=by
 obtain⟨E,rfl⟩:=hT
 obtain⟨e,rfl⟩:=hU
 rw[ap,<-aF]at h
 have:=(bK (by decide)).1 h
 exact al (by decide) (by omega)
theorem sc {x V np op t1 off:Int}{W Tn T5 T6:Nat}(hW:∃e,W=2^e)(dx:(W:Int) ∣ x)(dV:(W:Int) ∣ V)(hu:(x-V).natAbs<=4503599627370496*W)(v1:20282409603651670423947251286016*W<=V.natAbs)(v2:V.natAbs<81129638414606681695789005144064*W)
  (k0:Nr V np Tn)(hop:op=V-np)(k1:Nr (x-np) t1 T5)(k2:Nr (t1-op) off T6):off=x-V:=by
 have d:0<W:=by obtain⟨e,rfl⟩:=hW;exact ah e
 have a:∃e,9007199254740992*W=2^e:=by
  have:=fj hW 53
  rwa [show(2:Nat)^53=9007199254740992 from by decide]at this
 have f:Tn<=9007199254740992*W:=ms k0.two a (by rcases k0.low with h|h<;>omega)
 have b:W ∣ Tn:=lZ k0.two hW (by have:=k0.lt;omega)
 have c:(W:Int) ∣ np:=cF (Int.natCast_dvd_natCast.2 b) k0.dvd
 have g:FL (x-np):=ig hW (bY dx c) (by have:=k0.near;omega)
 have k:=k1.fix g
 have i:FL (x-V):=ig hW (bY dx dV) (by omega)
 have j:t1-op=x-V:=by omega
 rw[j]at k2
 exact k2.fix i
theorem Cl (h q B R u:Int)(hB:0<B)(h0:0<=q)(h1:q<B)(hu:(q=0∧u=0)∨(0<q∧u=1)):(0<2*(h*B+q)-2*(R*B) ↔ 0<2*h+u-2*R)∧(2*(h*B+q)-2*(R*B)<0 ↔ 2*h+u-2*R<0):=by
 obtain⟨k,a⟩:=aA (h-R)
 have e:h*B-R*B=k*B:=by rw[a,Int.sub_mul]
 rcases bw k 0 with c|c|c
 ·have b:=bN (show k<=-1 by omega) (bT hB)
  omega
 ·rw[c,bV]at e
  omega
 ·have b:=bN (show 1<=k by omega) (bT hB)
  omega
theorem ET (A B h r H K:Nat)(hB:0<B)(hK:K+1=1074)(hN:A*2^K=h*B+r)(hr:r<B)(hH:H=2*h+(if r=0 then 0 else 1))(hbig:9007199254740992<=h)(d:Int):rU d 53 H 1=rV d 53 A B 1074:=by
 have b:=jG d 53 (A*2^K) B h r H 0 hB (by decide) (by decide) hN hr hH (Or.inr hbig)
 have c:rV d 53 (2*(A*2^K)) B 0=rV d 53 A B 1074:=by
  rw[show 2*(A*2^K)=A*2^(K+1)from by rw[aF];simp only[ap,aZ],jD _ _ _ _ _ _ hB]
  congr 1
  omega
 have a:rV d 53 H 1 0=rU d 53 H 1:=by
  unfold rV
  rw[show((0:Int)).toNat=0 from rfl,show(-(0:Int)).toNat=0 from rfl,aB,aG,aG]
 rw[<-a,<-b,c]
theorem FR (n n':Bool)(m m':Nat)(h1:2580562586483294208<=m)(h2:m<=6633802251116740608)(h3:2580562586483294208<=m')(h4:m'<=6633802251116740608)(H:Nat)(hH:∀d,rU d 53 H 1=rV d 53 (Fq.vV Ieee.double m) (Fq.vV Ieee.double m') 1074) :
  FloatKind.f64.format.div (Fq.wD n m) (Fq.wD n' m')=some (Fq.wD (n ^^ n') (dK 53 2098 9218868437227405311 9218868437227405312 0 (rU 0 53 H 1))):=by
 show Ieee.double.div _ _=_
 unfold Ieee.Format.div
 rw[hH]
 have u:¬m<4503599627370496:=by omega
 have C:¬m'<4503599627370496:=by omega
 rw[Fq.jZ _ _ (by rw[Fq.Em n m (by omega),Fq.yc];omega),Fq.jZ _ _ (by rw[Fq.Em n' m' (by omega),Fq.yc];omega),Fq.Em n m (by omega),Fq.Em n' m' (by omega),Fq.Hm n m (by omega),Fq.Hm n' m' (by omega),xE,DQ]
 unfold Fq.vV
 have o:Fq.eE Ieee.double m=m/4503599627370496-1:=by unfold Fq.eE;rw[Fq.D9,if_neg u]
 have p:Fq.eE Ieee.double m'=m'/4503599627370496-1:=by unfold Fq.eE;rw[Fq.D9,if_neg C]
 have l:Fq.mM Ieee.double m=4503599627370496+m%4503599627370496:=by unfold Fq.mM;rw[Fq.D9,if_neg u]
 have k:Fq.mM Ieee.double m'=4503599627370496+m'%4503599627370496:=by unfold Fq.mM;rw[Fq.D9,if_neg C]
 obtain⟨e,h⟩:=aA (Fq.eE Ieee.double m)
 obtain⟨s,f⟩:=aA (Fq.eE Ieee.double m')
 obtain⟨a,G⟩:=aA (Fq.mM Ieee.double m)
 obtain⟨b,i⟩:=aA (Fq.mM Ieee.double m')
 rw[<-h]at o
 rw[<-f]at p
 rw[<-G]at l
 rw[<-i]at k
 rw[<-h,<-f,<-G,<-i]
 have R:4503599627370496<=a:=by omega
 have Q:a<9007199254740992:=by omega
 have S:4503599627370496<=b:=by omega
 have K:b<9007199254740992:=by omega
 have W:572<=e:=by omega
 have U:s<=1472:=by omega
 have I:∀x:Nat,4503599627370496<=x->x<9007199254740992->x.log2=52:=fun x q1 q2=>by
  have V:=ed x 52 (by rw[show(2:Nat)^52=4503599627370496 from by decide];exact q1) (by rw[show(2:Nat)^(52+1)=9007199254740992 from by decide];exact q2)
  have:=jx x (by omega)
  omega
 have T:=I a R Q
 have P:=I b S K
 clear h f G i o p l k I hH h1 h2 h3 h4 u C
 unfold Ieee.Datum.quotient
 simp only
 rw[if_neg (by omega),T,P]
 simp only[Option.map_some]
 unfold Ieee.Format.write
 simp only
 rw[show 52+2+52-52=54 from rfl,dw]
 obtain⟨N,F⟩:=aA (a*2^54)
 rw[<-F]
 have J:N=a*18014398509481984:=F
 obtain⟨q,y⟩:=aA (N/b)
 obtain⟨r,z⟩:=aA (N%b)
 have B:N=q*b+r:=by rw[y,z,ap];exact(bU _ _).symm
 have A:r<b:=by rw[z];exact bZ _ (by omega)
 have D:9007199254740992<=q:=by
  rw[y,bj (by omega)];omega
 rw[<-y,<-z]
 obtain⟨mag,g⟩:=aA (2*q+(r != 0).toNat)
 have j:mag=2*q+(if r=0 then 0 else 1):=by
  rw[g]
  by_cases c:r=0
  ·rw[if_pos c,c];rfl
  ·rw[if_neg c];simp[c]
 rw[<-g]
 obtain⟨t,X⟩:∃t:Nat,(t:Int)=(e:Int)-s-54-1+1074:=⟨((e:Int)-s-54-1+1074).toNat,by omega⟩
 rw[mL _ _ _ t (by omega)]
 have E:=jG 0 53 N b q r mag (t:Int) (by omega) (by decide) (by decide) B A j (Or.inr D)
 have L:rV 0 53 mag 1 (t:Int)=rU 0 53 (mag*2^t) 1:=by
  unfold rV
  rw[show((t:Int)).toNat=t from by omega,show(-(t:Int)).toNat=0 from by omega,aB,aG]
 have O:rV 0 53 (2*N) b (t:Int)=rV 0 53 a b ((t:Int)+55):=by
  rw[show 2*N=a*2^55 from by rw[F];omega,jD _ _ _ _ _ _ (by omega)];rfl
 have M:rV 0 53 (a*2^e) (b*2^s) 1074=rV 0 53 a b ((t:Int)+55):=by
  rw[jD _ _ _ _ _ _ (aQ (by omega) (ah _)),ju _ _ _ _ _ _ (by omega)]
  congr 1
  omega
 rw[M,<-O,E,L]
def iO (d:Int)(ng:Bool)(A B:Nat):Nat:=if A=0 then 0 else gO ng (dK 53 2098 9218868437227405311 9218868437227405312 (dU ng d) (rV (dU ng d) 53 A B 1074))
theorem uN (n:Bool)(m:Nat)(h1:4503599627370496<=m):∃e:Nat,((2^e:Nat):Int) ∣ Iv n m∧4503599627370496*2^e<=(Iv n m).natAbs∧(Iv n m).natAbs<9007199254740992*2^e:=by
 have b:¬m<4503599627370496:=by omega
 refine⟨m/4503599627370496-1, ?_⟩
 have a:(Iv n m).natAbs=(4503599627370496+m%4503599627370496)*2^(m/4503599627370496-1):=by
  rw[gg];unfold Fq.vV Fq.mM Fq.eE;rw[Fq.D9,if_neg b,if_neg b]
 refine⟨Int.dvd_natAbs.1 (by rw[a];exact Int.natCast_dvd_natCast.2 (Nat.dvd_mul_left _ _)), ?_, ?_⟩
 ·rw[a];exact ai _ (by omega)
 ·rw[a];exact am (by omega) (ah _)
theorem zH (n:Bool)(m:Nat)(h:4503599627370496<=(Iv n m).natAbs):4503599627370496<=m:=by
 by_cases c:4503599627370496<=m
 ·exact c
 ·exfalso
  rw[gg]at h
  unfold Fq.vV Fq.mM Fq.eE at h
  rw[Fq.D9,if_pos (by omega),if_pos (by omega),aB,aG]at h
  omega
theorem sX (u p:Int)(hp:0<p):(u<0 ↔ u*p<0)∧(0<u ↔ 0<u*p):=by
 rcases bw u 0 with c|c|c
 ·have:=bQ c hp
  omega
 ·rw[c,bV];omega
 ·have:=dj c hp
  omega
theorem zv:(2:Nat)^52=4503599627370496:=by decide
theorem rL:(2:Nat)^53=9007199254740992:=by decide
theorem EY:(2:Nat)^110=1298074214633706907132624082305024:=by decide
theorem wT (A B H h q u R T ex ey e L:Nat)(hL:L=1074)(hA1:4503599627370496*2^ex<=A)(hA2:A<9007199254740992*2^ex)(hB1:4503599627370496*2^ey<=B)(hB2:B<9007199254740992*2^ey)(x1:572<=ex)(x2:ex<=1472)(y1:572<=ey)(y2:ey<=1472)
  (hN:A*2^L=2*(h*B+q))(hq:q<B)(hH:H=2*h+u)(hu:(q=0∧u=0)∨(0<q∧u=1))(hT:∃E,T=2^E)(dR:T ∣ R)(n1:2*H<=2*R+T)(n2:2*R<=2*H+T)(hlt:H<9007199254740992*T)(hlow:T=1∨4503599627370496*T<=H)
  (hR1:4503599627370496*2^e<=R)(hR2:R<9007199254740992*2^e)(Hbig:1298074214633706907132624082305024<=H) :
  L<=e+ey∧e+ey-L<=ex∧e<=1960∧e+ey<=2944∧2 ∣ R∧2*(A*2^L)<2*(R*B)+9007199254740993*2^(e+ey)∧2*(R*B)<2*(A*2^L)+9007199254740993*2^(e+ey):=by
 have x:144115188075855872<T:=by omega
 have z:=hlow.resolve_left (by omega)
 have N:4503599627370496*T<=R:=by
  obtain⟨k,hk⟩:=dR
  rcases cO k 4503599627370496 with c|c
  ·exfalso
   have K:T*k<=T*4503599627370495:=aR T (by omega)
   omega
  ·have K:=aR T c
   omega
 have C:T<=2^e:=ms hT ⟨e,rfl⟩ (by omega)
 have t:2 ∣ R:=by
  refine Nat.dvd_trans ?_ dR
  obtain⟨E,rfl⟩:=hT
  have:E≠0:=fun h0=>by rw[h0]at x;omega
  exact⟨2^(E-1),by rw[ap,<-aF];congr 1;omega⟩
 have F:=ai B n1
 have G:=ai B n2
 have y:H*B=2*(h*B)+u*B:=by rw[hH,aH,ak]
 have n:u*B=if q=0 then 0 else B:=by
  rcases hu with⟨c,d⟩|⟨c,d⟩
  ·rw[d,if_pos c,aM]
  ·rw[d,if_neg (by omega),aN]
 rw[aH,ak,ak]at F G
 obtain⟨m,b⟩:=aA (R*B)
 obtain⟨s,o⟩:=aA (T*B)
 obtain⟨HB,l⟩:=aA (H*B)
 obtain⟨Q,r⟩:=aA (h*B)
 obtain⟨p,f⟩:=aA (A*2^L)
 obtain⟨Z,j⟩:=aA (u*B)
 rw[<-b,<-o,<-l]at F G
 rw[<-l,<-r,<-j]at y
 rw[<-j]at n
 rw[<-f,<-r]at hN
 have P:2*p<2*m+(s+2*B):=by split at n<;>omega
 have Y:2*m<2*p+(s+2*B):=by split at n<;>omega
 have i:2^(e+ey)=2^e*2^ey:=ag _ _ _
 have I:s+2*B<=9007199254740993*2^(e+ey):=by
  have D:s<=2^e*B:=by rw[o];exact ai B C
  have M:2^e*B<=2^e*(9007199254740992*2^ey):=aR _ (by omega)
  rw[aZ,<-i]at M
  have S:144115188075855872*2^ey<=2^(e+ey):=by rw[i];exact ai _ (by omega)
  omega
 have J:s+2*B<=m:=by
  have D:(T+2)*B<=R*B:=ai B (by omega)
  rw[aH,<-o,<-b]at D
  omega
 have U:m<=2*p:=by omega
 have c2:p<=2*m:=by omega
 have V:2^(104+(e+ey))<=m:=by
  have g:=dB hR1 hB1
  rw[<-b,gY,<-i,<-zv,<-ag,<-ag]at g
  exact g
 have O:m<2^(106+(e+ey)):=by
  have g:=Nat.mul_lt_mul'' hR2 hB2
  rw[<-b,gY,<-i,<-rL,<-ag,<-ag]at g
  exact g
 have a1:2^(52+ex+L)<=p:=by
  have g:=ai (2^L) hA1
  rw[<-f,<-zv,<-ag,<-ag]at g
  exact g
 have a2:p<2^(53+ex+L):=by
  have g:=am hA2 (ah L)
  rw[<-f,<-rL,<-ag,<-ag]at g
  exact g
 have X:104+(e+ey)<54+ex+L:=by
  refine(bK (a:=2) (by decide)).1 ?_
  have:2^(54+ex+L)=2*2^(53+ex+L):=by rw[ap,<-aF];congr 1;omega
  omega
 have W:52+ex+L<107+(e+ey):=by
  refine(bK (a:=2) (by decide)).1 ?_
  have:2^(107+(e+ey))=2*2^(106+(e+ey)):=by rw[ap,<-aF];congr 1;omega
  omega
 rw[<-b,<-f]
 exact⟨by omega,by omega,by omega,by omega,t,by omega,by omega⟩
theorem wm {u:Int}{W k:Nat}(hW:0<W)(hd:(W:Int) ∣ u)(h:2*u.natAbs<(2*k+1)*W):u.natAbs<=k*W:=by
 obtain⟨c,rfl⟩:=hd
 rw[bI,aU]at h|-
 rw[ap k]
 refine aR W ?_
 rcases cO k c.natAbs with g|g
 ·exfalso
  have d:=aR W (show 2*k+2<=2*c.natAbs by omega)
  rw[ap (2*k+1)]at h
  have b:W*(2*k+2)=W*(2*k+1)+W:=by rw[show 2*k+2=2*k+1+1 from rfl,Nat.mul_succ]
  have a:W*(2*c.natAbs)=2*(W*c.natAbs):=aZ _ _ _
  omega
 ·exact g
theorem wU (n n':Bool)(m m':Nat)(h1:2580562586483294208<=m)(h2:m<=6633802251116740608)(h3:2580562586483294208<=m')(h4:m'<=6633802251116740608)(L:Nat)(hL:L=1074) :
  ∃(V:Int)(s:Bool)(r K e ey ex:Nat),FloatKind.f64.format.div (Fq.wD n m) (Fq.wD n' m')=some (Fq.wD s r)∧r<9218868437227405312∧r=fk 53 (rU 0 53 V.natAbs 1)∧s=(if V=0 then n ^^ n' else decide (V<0))∧53<=K∧K<=2096∧V.natAbs<2^K∧(∀d,fg d V=iO d (n ^^ n') (Fq.vV Ieee.double m) (Fq.vV Ieee.double m'))
   ∧ (e<=1960∧ey<=1960∧1074<=e+ey∧e+ey<=2944∧e+ey-L<=ex∧ex<=1472)∧(((2^e:Nat):Int) ∣ Iv s r∧4503599627370496*2^e<=(Iv s r).natAbs∧(Iv s r).natAbs<9007199254740992*2^e)∧(((2^ey:Nat):Int) ∣ Iv n' m'∧4503599627370496*2^ey<=(Iv n' m').natAbs∧(Iv n' m').natAbs<9007199254740992*2^ey)
   ∧ (Iv n m).natAbs<9007199254740992*2^ex∧∀V2:Int,V2*((2^L:Nat):Int)=Iv s r*Iv n' m'->(((2^(e+ey-L):Nat):Int) ∣ Iv n m∧((2^(e+ey-L):Nat):Int) ∣ V2∧(Iv n m-V2).natAbs<=4503599627370496*2^(e+ey-L)∧20282409603651670423947251286016*2^(e+ey-L)<=V2.natAbs∧V2.natAbs<81129638414606681695789005144064*2^(e+ey-L))
    ∧ ((if n' then -(Iv n m-V2) else Iv n m-V2)<0 ↔ V-Iv s r<0)∧(0<(if n' then -(Iv n m-V2) else Iv n m-V2) ↔ 0<V-Iv s r):=by
 obtain⟨ex,x1,x2,dx,X,y⟩:=jw n m h1 h2
 obtain⟨ey,y1,y2,dy,l,p⟩:=jw n' m' h3 h4
 obtain⟨A,hA⟩:=aA (Fq.vV Ieee.double m)
 obtain⟨B,hB⟩:=aA (Fq.vV Ieee.double m')
 have a3:(Iv n m).natAbs=A:=by rw[gg,hA]
 have z:(Iv n' m').natAbs=B:=by rw[gg,hB]
 rw[a3]at X y
 rw[z]at l p
 have aa:0<B:=by have:=ah ey;omega
 obtain⟨J,hJ⟩:∃J,J+1=L:=⟨L-1,by omega⟩
 obtain⟨h,hh⟩:=aA (A*2^J/B)
 obtain⟨q,hq⟩:=aA (A*2^J%B)
 have ar:A*2^J=h*B+q:=by rw[hh,hq];exact(Nat.div_add_mod' _ _).symm
 have a8:q<B:=by rw[hq];exact bZ _ aa
 obtain⟨u,hu⟩:∃u,u=if q=0 then 0 else 1:=⟨_,rfl⟩
 obtain⟨H,hH⟩:=aA (2*h+u)
 have hN:A*2^L=2*(h*B+q):=by rw[<-hJ,aF,<-ak,ar,ap]
 have bq:(q=0∧u=0)∨(0<q∧u=1):=by
  by_cases c:q=0
  ·left;exact⟨c,by rw[hu,if_pos c]⟩
  ·right;exact⟨by omega,by rw[hu,if_neg c]⟩
 have b1:1298074214633706907132624082305024<=h:=by
  rw[hh,bj aa,<-EY]
  have g1:2^110*B<=2^110*(9007199254740992*2^ey):=aR _ (by omega)
  have N:4503599627370496*2^ex*2^J<=A*2^J:=ai _ X
  rw[<-rL,<-ag,<-ag]at g1
  rw[<-zv,<-ag,<-ag]at N
  have S:2^(110+(53+ey))<=2^(52+ex+J):=al (by decide) (by omega)
  exact aT g1 (aT S N)
 have ab:=ET A B h q H J aa (by omega) ar a8 (by rw[hH,hu]) (by omega)
 obtain⟨K,hK⟩:∃K:Nat,K=1980:=⟨_,rfl⟩
 have a6:H<2^K:=by
  rcases cO H (2^K)with c|c
  ·exact c
  ·exfalso
   have g1:=dB c l
   have N:H*B<=2*(A*2^L):=by
    rw[hH,aH,ak,hN]
    have:u*B<=B:=by
     have:u<=1:=by omega
     have:=ai B this
     omega
    have S:B<=h*B:=by have:=ai B (show 1<=h by omega);omega
    omega
   have S:2*(A*2^L)<2*(9007199254740992*2^ex*2^L):=by
    have:=am y (ah L)
    omega
   have g4:2^(K+(52+ey))<2^(1+(53+ex+L)):=by
    rw[ag 2 K,ag 2 52 ey,zv,ag 2 1,fV,ag 2 (53+ex) L,ag 2 53 ex,rL]
    exact bs g1 (bs N S)
   have:=(bK (a:=2) (by decide)).1 g4
   omega
 obtain⟨V,hV⟩:∃V:Int,V=if (n ^^ n') then -(H:Int) else (H:Int):=⟨_,rfl⟩
 have b:V.natAbs=H:=by rw[hV];split<;>simp
 have Q:V≠0:=by omega
 have Y:decide (V<0)=(n ^^ n'):=by
  rw[hV]
  cases (n ^^ n')
  ·simp
  ·simp;omega
 obtain⟨s,r,T,w0,r0,n0,e0,aw,l0⟩:=fp V (n ^^ n') K (by omega) (by omega) (by rw[b];exact a6)
 have hs:s=(n ^^ n'):=by rw[aw,if_neg Q,Y]
 have M:=FR n n' m m' h1 h2 h3 h4 H (by rw[<-hA,<-hB];exact ab)
 rw[if_neg Q,Y,b]at w0
 rw[w0]at M
 obtain⟨R,hR⟩:=aA (Fq.vV Ieee.double r)
 have F:(Iv s r).natAbs=R:=by rw[gg,hR]
 have U:Iv s r=if (n ^^ n') then -(R:Int) else (R:Int):=by unfold Iv;rw[hs,<-hR]
 have aj:2*H<=2*R+T∧2*R<=2*H+T:=by
  have:=n0.near
  rw[hV,U]at this
  cases (n ^^ n')<;>simp at this<;>omega
 have a5:=n0.lt
 rw[b]at a5
 have I:=n0.low
 rw[b]at I
 have dR:T ∣ R:=by
  have:=n0.dvd
  rw[<-F]
  exact Int.natCast_dvd_natCast.1 (Int.dvd_natAbs.2 this)
 have bo:4503599627370496<=r:=zH s r (by rw[F];omega)
 obtain⟨e,de,a0,au⟩:=uN s r bo
 have f:=a0
 have i:=au
 rw[F]at f i
 obtain⟨p1,p2,p3,p4,p5,p6,p7⟩:=wT A B H h q u R T ex ey e L hL X y l p x1 x2 y1 y2 hN a8 hH bq n0.two dR aj.1 aj.2 a5 I f i (by omega)
 have ad:Fq.vV Ieee.double m≠0:=by rw[<-hA];have:=ah ex;omega
 refine⟨V,s,r,K,e,ey,ex,M,r0,e0,aw,by omega,by omega,by rw[b];exact a6,fun d=>?_,⟨p3,by omega,by omega,p4,p2,x2⟩,⟨de,a0,au⟩,⟨dy,by rw[z];exact l,by rw[z];exact p⟩,by rw[a3];exact y, ?_⟩
 ·unfold fg iO
  rw[if_neg Q,if_neg ad,Y,b,ab,hA,hB]
 ·intro V2 D
  obtain⟨W,hW⟩:=aA (2^(e+ey-L))
  obtain⟨Z,hZ⟩:∃Z:Nat,Z=2^L:=⟨_,rfl⟩
  have bv:0<Z:=by rw[hZ];exact ah L
  have bt:0<W:=by rw[hW];exact ah _
  have E:2^e*2^ey=W*Z:=by rw[hW,hZ,<-ag,<-ag];congr 1;omega
  have O:2^(e+ey)=W*Z:=by rw[ag,E]
  rw[<-hW]
  rw[<-hZ]at D p6 p7 hN
  have a2:(W:Int) ∣ Iv n m:=by
   refine cF (Int.natCast_dvd_natCast.2 ?_) dx
   rw[hW];exact Nat.pow_dvd_pow 2 p2
  have a4:V2.natAbs*Z=R*B:=by
   have g:=congrArg Int.natAbs D
   rw[bI,bI,aU,F,z]at g
   exact g
  have a1:(W:Int) ∣ V2:=by
   obtain⟨k,hk⟩:=de
   obtain⟨j,hj⟩:=dy
   refine⟨k*j, ?_⟩
   have g:V2*(Z:Int)=(W:Int)*(k*j)*(Z:Int):=by
    rw[D,hk,hj]
    have N:((2^e:Nat):Int)*((2^ey:Nat):Int)=(W:Int)*(Z:Int):=by rw[<-aK,<-aK,E]
    rw[show((2^e:Nat):Int)*k*(((2^ey:Nat):Int)*j)=((2^e:Nat):Int)*((2^ey:Nat):Int)*(k*j)from by ac_rfl,N]
    ac_rfl
   exact dQ (by omega) g
  have v1:20282409603651670423947251286016*W<=V2.natAbs:=by
   have g:=dB f l
   rw[<-a4,gY,show(4503599627370496:Nat)*4503599627370496=20282409603651670423947251286016 from by decide,E,<-ak]at g
   exact dM g bv
  have v2:V2.natAbs<81129638414606681695789005144064*W:=by
   have g:=Nat.mul_lt_mul'' i p
   rw[<-a4,gY,show(9007199254740992:Nat)*9007199254740992=81129638414606681695789005144064 from by decide,E,<-ak]at g
   exact bP g
  obtain⟨R2,ba⟩:=p5
  have sg:=Cl (h:Int) (q:Int) (B:Int) (R2:Int) (u:Int) (by omega) (by omega) (by omega) (by omega)
  obtain⟨G,C⟩:∃x:Int,x=(A:Int)*(Z:Int):=⟨_,rfl⟩
  obtain⟨P,o⟩:∃x:Int,x=(R:Int)*(B:Int):=⟨_,rfl⟩
  have bp:G=2*((h:Int)*(B:Int)+(q:Int)):=by
   rw[C,<-aK,hN];simp
  have bE:P=2*((R2:Int)*(B:Int)):=by
   rw[o,ba,aK,fd];rfl
  rw[<-bp,<-bE]at sg
  have bA:(2*(h:Int)+(u:Int)-2*(R2:Int))=(H:Int)-(R:Int):=by omega
  rw[bA]at sg
  have bH:(0:Int)<(Z:Int):=by omega
  have a9:(Iv n m-V2)*(Z:Int)=if n then -(G-P) else G-P:=by
   rw[Int.sub_mul,D,U]
   have e1:Iv n m=if n then -(A:Int) else (A:Int):=by unfold Iv;rw[<-hA]
   have e2:Iv n' m'=if n' then -(B:Int) else (B:Int):=by unfold Iv;rw[<-hB]
   rw[e1,e2,C,o]
   cases n<;>cases n'<;>simp[bF,Int.mul_neg]<;>omega
  have bB:(Iv n m-V2).natAbs<=4503599627370496*W:=by
   refine wm bt (bY a2 a1) ?_
   have g:=congrArg Int.natAbs a9
   rw[bI,aU]at g
   have N:(if n then -(G-P) else G-P).natAbs=(G-P).natAbs:=by cases n<;>simp<;>omega
   rw[N]at g
   have cj:2*G<2*P+9007199254740993*((W*Z:Nat):Int):=by rw[C,o,<-O,<-aK,<-aK];omega
   have co:2*P<2*G+9007199254740993*((W*Z:Nat):Int):=by rw[C,o,<-O,<-aK,<-aK];omega
   have S:2*((Iv n m-V2).natAbs*Z)<9007199254740993*(W*Z):=by rw[g];omega
   rw[<-ak,<-ak]at S
   exact bP S
  refine⟨⟨a2,a1,bB,v1,v2⟩, ?_⟩
  have br:V-Iv s r=if (n ^^ n') then -((H:Int)-(R:Int)) else (H:Int)-(R:Int):=by
   rw[hV,U];cases (n ^^ n')<;>simp<;>omega
  rw[br]
  have t:=sX (Iv n m-V2) (Z:Int) bH
  rw[a9]at t
  cases n<;>cases n'<;>simp at t|-<;>omega
theorem Nr.mag {v s:Int}{T:Nat}(h:Nr v s T)(h1:T≠1):4503599627370496*T<=s.natAbs:=by
 have d:=h.low.resolve_left h1
 have f:=h.near
 have g:=h.pos
 obtain⟨k,a⟩:=h.dvd
 have e:s.natAbs=T*k.natAbs:=by rw[a,bI,aU]
 rw[e]
 rcases cO k.natAbs 4503599627370496 with c|c
 ·exfalso
  have b:T*k.natAbs<=T*4503599627370495:=aR T (by omega)
  omega
 ·have b:=aR T c
  omega
theorem DM {v:Int}(h:FL v):FL (-v):=by
 obtain⟨k,a,b⟩:=h
 exact⟨k,Int.dvd_neg.2 a,by rw[dP];exact b⟩
theorem DN {v:Int}(h:FL ((v.natAbs:Nat):Int)):FL v:=by
 rcases Int.natAbs_eq v with e|e
 ·rw[e];exact h
 ·rw[e];exact DM h
theorem zE (A:Nat)(hA:¬FL (A:Int)):∃b q:Nat,q*2^b<A∧A<(q+1)*2^b∧4503599627370496*2^b<=A∧rU (-1) 53 A 1=q*2^b∧rU 1 53 A 1=(q+1)*2^b∧((fk 53 (rU 0 53 A 1)%2=1∧((rU 0 53 A 1=q*2^b∧q%2=1)∨(rU 0 53 A 1=(q+1)*2^b∧q%2=0)))∨(fk 53 (rU 0 53 A 1)%2=0∧((rU 0 53 A 1=q*2^b∧q%2=0)∨(rU 0 53 A 1=(q+1)*2^b∧q%2=1)))):=by
 obtain⟨E,d⟩:=aA (rE 53 A 1)
 obtain⟨q,k⟩:=aA (rS 53 A 1)
 obtain⟨r,j⟩:=aA (rR 53 A 1)
 obtain⟨T,a⟩:=aA (2^E)
 have u:0<T:=by rw[a];exact ah E
 have m:A=q*T+r:=by
  rw[k,j,a,d];unfold rS rR;rw[aN,ap];exact(bU _ _).symm
 have p:r<T:=by rw[j,a,d];unfold rR;rw[aN];exact bZ _ (ah _)
 have n:=gP A 0 E (q+(fw 0 q r T).toNat) d (by rw[k,j,a,d,aN])
 have l:=gP A 1 E (q+(fw 1 q r T).toNat) d (by rw[k,j,a,d,aN])
 have i:=gP A (-1) E (q+(fw (-1) q r T).toNat) d (by rw[k,j,a,d,aN])
 rw[<-a]at n l i
 have t:r≠0:=fun h=>hA (by
  rw[m,h,bi]
  have y:=i.2.1
  refine ig ⟨E,a⟩ (Int.natCast_dvd_natCast.2 (Nat.dvd_mul_left _ _)) ?_
  rw[aU]
  exact ai _ (by omega))
 have o:fw 1 q r T=true:=by unfold fw;simp;omega
 have s:fw (-1) q r T=false:=by unfold fw;simp
 rw[o]at l
 rw[s]at i
 simp only[Bool.toNat_true,Bool.toNat_false,bi]at l i
 have x:(q+1)*T=q*T+T:=by rw[aH,aN]
 have f:4503599627370496*T<=A:=by
  have g:=(tg A).low
  rw[<-d,<-a,aU]at g
  rcases g with g|g
  ·omega
  ·exact g
 refine⟨E,q, ?_⟩
 rw[<-a]
 refine⟨by omega,by omega,f,i.1,l.1, ?_⟩
 rw[n.2.2.2.2.1,n.1]
 cases fw 0 q r T
 ·simp only[Bool.toNat_false,bi]
  rcases Nat.mod_two_eq_zero_or_one q with c|c
  ·right;exact⟨by omega,Or.inl ⟨trivial,c⟩⟩
  ·left;exact⟨by omega,Or.inl ⟨trivial,c⟩⟩
 ·simp only[Bool.toNat_true]
  rcases Nat.mod_two_eq_zero_or_one q with c|c
  ·left;exact⟨by omega,Or.inr ⟨trivial,c⟩⟩
  ·right;exact⟨by omega,Or.inr ⟨trivial,c⟩⟩
theorem uM (E:Int)(s o sz:Bool)(r ro K:Nat)(hK:53<=K)(hK2:K<=2096)(hv:E.natAbs<2^K)(hr:r=fk 53 (rU 0 53 E.natAbs 1))(hs:s=(if E=0 then sz else decide (E<0)))(ho:Iv o ro=E-Iv s r)(hnf:¬FL E) :
  ∃(tn:Bool)(tr b k:Nat),tr<9218868437227405312∧k%2=1∧4503599627370496*2^b<=E.natAbs∧Iv tn tr=(if E<0 then -((k*2^b:Nat):Int) else ((k*2^b:Nat):Int))∧(E-Iv tn tr).natAbs<2^b∧Fq.gU o ro≠0
   ∧ (r%2=1->Fq.wD s r=Fq.wD tn tr)∧(r%2=0->Fq.gU o ro<0->Fq.gU s r≠-9218868437227405312∧Fq.fD (Fq.gU s r-1)=Fq.wD tn tr)∧(r%2=0->0<Fq.gU o ro->Fq.gU s r≠9218868437227405312∧Fq.fD (Fq.gU s r+1)=Fq.wD tn tr):=by
 have C:E≠0:=fun h=>hnf (by rw[h];exact⟨0,Int.dvd_zero _,by simp⟩)
 obtain⟨A,m⟩:=aA E.natAbs
 have J:¬FL (A:Int):=fun h=>hnf (DN (by rw[<-m];exact h))
 obtain⟨b,q,Z,b2,Y,M,P,G⟩:=zE A J
 have F:s=decide (E<0):=by rw[hs,if_neg C]
 rw[<-m]at hr hv
 have X:=(wi (-1) E s o sz r ro K hK hK2 (by rw[<-m];exact hv) (by rw[<-m];exact hr) hs ho).1 rfl
 have V:=(wi 1 E s o sz r ro K hK hK2 (by rw[<-m];exact hv) (by rw[<-m];exact hr) hs ho).2.1 rfl
 obtain⟨N,H⟩:=jI o ro
 have U:=jS A 0
 rw[<-hr]at U
 have x:Iv s r=if E<0 then -((rU 0 53 A 1:Nat):Int) else ((rU 0 53 A 1:Nat):Int):=by
  unfold Iv;rw[U,F]
  by_cases c:E<0
  ·rw[af c,if_pos rfl,if_pos c]
  ·rw[ae c,if_neg (by simp),if_neg c]
 have hx:(q+1)*2^b=q*2^b+2^b:=by rw[aH,aN]
 obtain⟨T,hT⟩:=aA (2^b)
 obtain⟨Q,hQ⟩:=aA (q*2^b)
 obtain⟨k,y,L,B,l⟩:∃(k:Nat)(y:Int),k%2=1∧rU y 53 A 1=k*2^b∧((q%2=1∧k=q∧y = -1)∨(q%2=0∧k=q+1∧y=1)):=by
  rcases Nat.mod_two_eq_zero_or_one q with c|c
  ·exact⟨q+1,1,by omega,P,Or.inr ⟨c,rfl,rfl⟩⟩
  ·exact⟨q,-1,c,M,Or.inl ⟨c,rfl,rfl⟩⟩
 have p:∀dd d2:Int,dK 53 2098 9218868437227405311 9218868437227405312 d2 (rU dd 53 A 1)=fk 53 (rU dd 53 A 1)∧fk 53 (rU dd 53 A 1)<9218868437227405312:=fun dd d2=>lj A dd d2 K hK (by omega) hv
 have D:Fq.vV Ieee.double (fk 53 (k*2^b))=k*2^b:=by rw[<-B];exact jS A y
 have O:0<k*2^b:=aQ (by omega) (ah b)
 have I:fk 53 (k*2^b)≠0:=fun h=>by
  rw[h,(kO 0).2 rfl]at D;omega
 have W:A<k*2^b+2^b∧k*2^b<A+2^b:=by
  rcases l with⟨_,e,_⟩|⟨_,e,_⟩<;>rw[e]<;>omega
 have t:Iv (decide (E<0)) (fk 53 (k*2^b))=(if E<0 then -((k*2^b:Nat):Int) else ((k*2^b:Nat):Int)):=by
  unfold Iv;rw[D]
  by_cases c:E<0
  ·rw[af c,if_pos rfl,if_pos c]
  ·rw[ae c,if_neg (by simp),if_neg c]
 have n:∀d:Int,rU (dU (decide (E<0)) d) 53 A 1=k*2^b->fg d E=Fq.wD (decide (E<0)) (fk 53 (k*2^b)):=fun d h=>by
  unfold fg
  rw[if_neg C,<-m,(p _ _).1,h]
  unfold gO Fq.wD;rw[if_neg I]
 refine⟨decide (E<0),fk 53 (k*2^b),b,k,by rw[<-B];exact(p y 0).2,L,by rw[<-m];exact Y,t, ?_, ?_, ?_, ?_, ?_⟩
 ·rw[t]
  by_cases c:E<0
  ·rw[if_pos c];omega
  ·rw[if_neg c];omega
 ·intro h0
  have:Iv o ro=0:=by omega
  rw[ho,x]at this
  rcases G with⟨_,⟨e,_⟩|⟨e,_⟩⟩|⟨_,⟨e,_⟩|⟨e,_⟩⟩<;>rw[e]at this<;>(by_cases c:E<0<;>simp only[c,if_true,if_false]at this<;>omega)
 ·intro z
  rw[F,hr]
  congr 2
  rw[hr]at z
  rcases G with⟨_,⟨e,f⟩|⟨e,f⟩⟩|⟨g,_⟩
  ·rw[e];rcases l with⟨_,e2,_⟩|⟨c,_,_⟩
   ·rw[e2]
   ·omega
  ·rw[e];rcases l with⟨c,_,_⟩|⟨_,e2,_⟩
   ·omega
   ·rw[e2]
  ·omega
 ·intro u i
  obtain⟨S,R⟩:=X i
  refine⟨S, ?_⟩
  rw[R]
  apply n
  rw[<-N,ho,x]at i
  rw[hr]at u
  rcases G with⟨g,_⟩|⟨_,⟨e,f⟩|⟨e,f⟩⟩
  ·omega
  ·rw[e]at i
   by_cases c:E<0
   ·rw[af c]
    rcases l with⟨c2,_,_⟩|⟨_,e2,_⟩
    ·omega
    ·rw[e2];exact P
   ·simp only[c,if_false]at i;omega
  ·rw[e]at i
   by_cases c:E<0
   ·simp only[c,if_true]at i;omega
   ·rw[ae c]
    rcases l with⟨_,e2,_⟩|⟨c2,_,_⟩
    ·rw[e2];exact M
    ·omega
 ·intro u j
  obtain⟨S,R⟩:=V j
  refine⟨S, ?_⟩
  rw[R]
  apply n
  rw[<-H,ho,x]at j
  rw[hr]at u
  rcases G with⟨g,_⟩|⟨_,⟨e,f⟩|⟨e,f⟩⟩
  ·omega
  ·rw[e]at j
   by_cases c:E<0
   ·simp only[c,if_true]at j;omega
   ·rw[ae c]
    rcases l with⟨c2,_,_⟩|⟨_,e2,_⟩
    ·omega
    ·rw[e2];exact P
  ·rw[e]at j
   by_cases c:E<0
   ·rw[af c]
    rcases l with⟨_,e2,_⟩|⟨c2,_,_⟩
    ·rw[e2];exact M
    ·omega
   ·simp only[c,if_false]at j;omega
theorem so {P s1 Sm Hd Lst R2 E:Int}{T1 T2:Nat}(fP:FL P)(fL:FL Lst)(k1:Nr s1 Sm T1)(hL:Lst=s1-Sm)(k2:Nr (P+Sm) Hd T2)(hR:R2=P+Sm-Hd)(hE:E=R2+Lst)(hne:¬FL E):4503599627370496*T2<=Hd.natAbs∧2*E.natAbs<=3*T2:=by
 have j:R2≠0:=fun h=>hne (by rw[hE,h,Int.zero_add];exact fL)
 have r:=k2.near
 have l:2<=T2:=by omega
 refine⟨k2.mag (by omega), ?_⟩
 have d:T1<=2*T2:=by
  refine Decidable.byContradiction fun hc=>?_
  have b:4*T2<=T1:=by
   refine Decidable.byContradiction fun h4=>hc ?_
   have c:=fj k2.two 1
   rw[fV]at c
   exact ms k1.two c (by omega)
  have p:=k1.mag (by omega)
  have o:=k2.lt
  obtain⟨k,g,n⟩:=fP
  have a:T2<=2^k:=by omega
  have i:(T2:Int) ∣ P:=by
   refine cF ?_ g
   rw[<-fQ]
   exact Int.natCast_dvd_natCast.2 (lZ ⟨k,rfl⟩ k2.two a)
  have m:(T2:Int) ∣ Sm:=cF (Int.natCast_dvd_natCast.2 (lZ k1.two k2.two (by omega))) k1.dvd
  have f:(T2:Int) ∣ R2:=by rw[hR];exact bY (Int.dvd_add i m) k2.dvd
  exact j (fH (by omega) f (by rw[aU];omega))
 have q:=k1.near
 omega
theorem qT (Hn:Nat)(e tl:Int)(T2 b k:Nat)(hT:∃a,T2=2^a)(hH:T2 ∣ Hn)(hH1:4503599627370496*T2<=Hn)(hE1:2*e.natAbs<=3*T2)(hE2:4503599627370496*2^b<=e.natAbs)(hk:k%2=1)(htl:tl=((k*2^b:Nat):Int)∨tl = -((k*2^b:Nat):Int))(hd:(e-tl).natAbs<2^b)(d:Int) :
  0<(Hn:Int)+e∧0<(Hn:Int)+tl∧rU d 53 ((Hn:Int)+e).natAbs 1=rU d 53 ((Hn:Int)+tl).natAbs 1:=by
 obtain⟨t,i⟩:=aA (2^b)
 have G:0<t:=by rw[i];exact ah b
 rw[<-i]at hE2 htl hd
 have u:2251799813685248*t<=T2:=by omega
 obtain⟨j,z⟩:∃j:Int,tl=2*(t:Int)*j+t:=by
  rcases htl with h|h
  ·refine⟨((k/2:Nat):Int), ?_⟩
   have f:k=2*(k/2)+1:=by omega
   rw[h]
   have:k*t=2*t*(k/2)+t:=by
    conv=>lhs;rw[f]
    rw[aH,aN];ac_rfl
   rw[this];simp
  ·refine⟨-((k/2:Nat):Int)-1, ?_⟩
   have f:k=2*(k/2)+1:=by omega
   have:k*t=2*t*(k/2)+t:=by
    conv=>lhs;rw[f]
    rw[aH,aN];ac_rfl
   rw[h,this,Int.mul_sub,Int.mul_neg]
   simp
   omega
 obtain⟨g,s⟩:∃g,Hn=2*t*g:=by
  have m:∃x,2*t=2^x:=⟨b+1,by rw[i,aF,ap]⟩
  exact Nat.dvd_trans (lZ hT m (by omega)) hH
 obtain⟨c,r⟩:=aA (2*t)
 have o:0<=(g:Int)+j:=by
  refine Decidable.byContradiction fun h=>?_
  have I:(2*(t:Int))*((g:Int)+j)<=(2*(t:Int))*(-1):=Int.mul_le_mul_of_nonneg_left (by omega) (by omega)
  rw[Int.mul_add]at I
  have K:((Hn:Nat):Int)=2*(t:Int)*(g:Int):=by rw[s];simp
  omega
 obtain⟨h,J⟩:=eu o
 have A:((Hn:Nat):Int)=2*(t:Int)*(g:Int):=by rw[s];simp
 have n:((h*c:Nat):Int)=2*(t:Int)*(g:Int)+2*(t:Int)*j:=by rw[<-Int.mul_add,J,r,aK,Int.mul_comm];simp
 obtain⟨M,q⟩:=aA (h*c)
 rw[<-q]at n
 have p:(Hn:Int)+tl=((M+t:Nat):Int):=by rw[z];omega
 obtain⟨l,H⟩:∃l:Nat,(Hn:Int)+e=((M+l:Nat):Int)∧0<l∧l<c:=by
  refine⟨(e-(2*(t:Int)*j)).toNat, ?_⟩
  omega
 obtain⟨F,L,C⟩:=H
 refine⟨by omega,by omega, ?_⟩
 rw[F,p,aU,aU]
 obtain⟨E,y⟩:=aA (rE 53 (M+l) 1)
 have B:=(iu 53 (M+l) 1 (by decide) (by decide)).1
 rw[<-y,aN,ag,rL]at B
 have D:b+2<=E:=by
  refine Decidable.byContradiction fun h9=>?_
  have:2^E<=2^(b+1):=al (by decide) (by omega)
  rw[aF,<-i]at this
  omega
 refine nD d 53 (M+l) (M+t) 1 c h l t (2^(E-b-2)) (by decide) (by decide) (by rw[q]) C (by rw[q]) (by omega) ⟨fun h=>by omega,fun h=>by omega⟩ ?_
 rw[<-y,r,i,aN,show 2*(2*2^b*2^(E-b-2))=2^2*2^b*2^(E-b-2)from by rw[show(2:Nat)^2=2*2 from rfl];ac_rfl,<-ag,<-ag]
 congr 1
 omega
theorem ym (Hd E tl:Int)(T2 b k:Nat)(hT:∃a,T2=2^a)(hH:(T2:Int) ∣ Hd)(hH1:4503599627370496*T2<=Hd.natAbs)(hE1:2*E.natAbs<=3*T2)(hE2:4503599627370496*2^b<=E.natAbs)(hk:k%2=1)(htl:tl=((k*2^b:Nat):Int)∨tl = -((k*2^b:Nat):Int))(hd:(E-tl).natAbs<2^b)(d:Int):fg d (Hd+tl)=fg d (Hd+E):=by
 have c:T2 ∣ Hd.natAbs:=Int.natCast_dvd_natCast.1 (Int.dvd_natAbs.2 hH)
 have i:0<T2:=by obtain⟨a,rfl⟩:=hT;exact ah a
 rcases Int.natAbs_eq Hd with e|e
 ·have h:=fun d=>qT Hd.natAbs E tl T2 b k hT c hH1 hE1 hE2 hk htl hd d
  rw[<-e]at h
  obtain⟨j,f,_⟩:=h 0
  unfold fg
  rw[if_neg (by omega),if_neg (by omega),ae (by omega),ae (by omega),(h _).2.2]
 ·have h:=fun d=>qT Hd.natAbs (-E) (-tl) T2 b k hT c hH1 (by omega) (by omega) hk (by rcases htl with h|h<;>rw[h]<;>simp) (by omega) d
  have l:((Hd.natAbs:Nat):Int) + -E = -(Hd+E):=by omega
  have g:((Hd.natAbs:Nat):Int) + -tl = -(Hd+tl):=by omega
  rw[l,g]at h
  simp only[dP]at h
  obtain⟨j,f,_⟩:=h 0
  unfold fg
  rw[if_neg (by omega),if_neg (by omega),af (by omega),af (by omega),(h _).2.2]
theorem vT (d:Int)(S r w r' w':Nat)(hw:0<w)(hw':0<w')(h:r*w'<=r'*w)(u:fw d S r w=true):fw d S r' w'=true:=by
 unfold fw at u|-
 by_cases k:d=1
 ·rw[if_pos k]at u|-
  have n:0<r:=cM u
  apply af
  have f:0<r*w':=aQ n hw'
  rcases bS r' with e|e
  ·rw[e,aM]at h;omega
  ·exact e
 ·rw[if_neg k]at u|-
  by_cases c2:d = -1
  ·rw[if_pos c2]at u;cases u
  ·rw[if_neg c2]at u|-
   have j:∀a b:Nat,a*w'<=b*w->w<2*a->w'<2*b:=by
    intro a b f i
    rcases cO w' (2*b)with g|g
    ·exact g
    ·exfalso
     have m:2*b*w<=w'*w:=ai _ g
     have o:w*w'<2*a*w':=am i hw'
     have l:2*a*w'<=2*b*w:=by rw[ak,ak];exact aR _ f
     rw[ap w' w]at m
     omega
   have c:∀a b:Nat,a*w'<=b*w->w=2*a->w'<=2*b:=by
    intro a b f i
    rcases cO (2*b) w' with g|g
    ·exfalso
     have m:2*b*w<w'*w:=am g hw
     have l:2*a*w'<=2*b*w:=by rw[ak,ak];exact aR _ f
     rw[<-i,ap w w']at l
     omega
    ·exact g
   rw[Bool.or_eq_true,Bool.and_eq_true]at u|-
   rcases u with u|⟨u1,u2⟩
   ·left
    exact af (j r r' h (cM u))
   ·have e:=c r r' h (cM u1)
    rcases cO w' (2*r')with g|g
    ·left;exact af g
    ·right
     exact⟨af (by omega),u2⟩
theorem wR (p A B:Nat)(hB:0<B)(hp:0<p):rS p A B<2^p∧(rE p A B=0∨2^(p-1)<=rS p A B):=by
 obtain⟨d,a⟩:=iu p A B hB hp
 have b:0<B*2^rE p A B:=aQ hB (ah _)
 unfold rS
 refine⟨?_, ?_⟩
 ·rw[bz b,ap (2^p),ak,<-ag]
  exact d
 ·rcases a with a|a
  ·exact Or.inl a
  ·by_cases c:rE p A B=0
   ·exact Or.inl c
   ·right
    rw[bj b,ap (2^(p-1)),ak,<-ag,show rE p A B+(p-1)=rE p A B+p-1 from by omega]
    exact a
theorem zu (p A B A' B':Nat)(hB:0<B)(hB':0<B')(h:A*B'<=A'*B):rE p A B<=rE p A' B':=by
 unfold rE
 have:A/B<=A'/B':=by
  rw[bj hB']
  have e:A/B*B<=A:=dS A B
  have a:A/B*B*B'<=A'*B:=aT (ai _ e) h
  rw[bG]at a
  exact dM a hB
 have:=jz this
 omega
theorem tw (d:Int)(p A B A' B':Nat)(hB:0<B)(hB':0<B')(hp:0<p)(h:A*B'<=A'*B):rU d p A B<=rU d p A' B':=by
 obtain⟨G,H⟩:=wR p A B hB hp
 obtain⟨N,x⟩:=wR p A' B' hB' hp
 have I:=zu p A B A' B' hB hB' h
 have m:0<B*2^rE p A B:=aQ hB (ah _)
 have a:0<B'*2^rE p A' B':=aQ hB' (ah _)
 have f:∀b:Bool,b.toNat<=1:=fun b=>by cases b<;>decide
 unfold rU
 by_cases c:rE p A B=rE p A' B'
 ·have L:rS p A B<=rS p A' B':=by
   unfold rS
   rw[bj a]
   have e:A/(B*2^rE p A B)*(B*2^rE p A B)<=A:=dS _ _
   have j:A/(B*2^rE p A B)*(B*2^rE p A B)*B'<=A'*B:=aT (ai _ e) h
   rw[<-c]
   generalize A/(B*2^rE p A B)=q at *
   generalize 2^rE p A B=P at *
   have o:q*(B*P)*B'=q*(B'*P)*B:=by ac_rfl
   rw[o]at j
   exact dM j hB
  rw[<-c]
  apply ai
  rcases cO (rS p A B) (rS p A' B')with g|g
  ·have:=f (fw d (rS p A B) (rR p A B) (B*2^rE p A B))
   omega
  ·have e:rS p A B=rS p A' B':=by omega
   rw[<-e]
   have s:fw d (rS p A B) (rR p A B) (B*2^rE p A B)=true->fw d (rS p A B) (rR p A' B') (B'*2^rE p A B)=true:=by
    apply vT d _ _ _ _ _ m (by rw[c];exact a)
    have i:=bU A (B*2^rE p A B)
    have k:=bU A' (B'*2^rE p A' B')
    have l:A/(B*2^rE p A B)=rS p A B:=rfl
    have t:A'/(B'*2^rE p A' B')=rS p A B:=e.symm
    have n:A%(B*2^rE p A B)=rR p A B:=rfl
    have u:A'%(B'*2^rE p A' B')=rR p A' B':=rfl
    rw[l,n]at i
    rw[t,u,<-c]at k
    generalize rR p A B=r at *
    generalize rR p A' B'=r' at *
    generalize rS p A B=q at *
    generalize 2^rE p A B=P at *
    have D:A*(B'*P)=(B*P)*q*(B'*P)+r*(B'*P):=by rw[<-i,aH]
    have E:A'*(B*P)=(B'*P)*q*(B*P)+r'*(B*P):=by rw[<-k,aH]
    have z:A*(B'*P)<=A'*(B*P):=by rw[<-ak,<-ak];exact ai _ h
    have F:(B*P)*q*(B'*P)=(B'*P)*q*(B*P):=by ac_rfl
    omega
   cases hx:fw d (rS p A B) (rR p A B) (B*2^rE p A B)
   ·simp
   ·rw[s hx];exact ao _
 ·have y:rE p A B<rE p A' B':=by omega
  have M:2^(p-1)<=rS p A' B':=x.resolve_left (by omega)
  have C:(rS p A B+(fw d (rS p A B) (rR p A B) (B*2^rE p A B)).toNat)*2^rE p A B<=2^p*2^rE p A B:=by
   apply ai
   have:=f (fw d (rS p A B) (rR p A B) (B*2^rE p A B))
   omega
  have J:2^p*2^rE p A B<=2^(p-1)*2^rE p A' B':=by
   rw[<-ag,<-ag]
   exact al (by decide) (by omega)
  have K:2^(p-1)*2^rE p A' B'<=(rS p A' B'+(fw d (rS p A' B') (rR p A' B') (B'*2^rE p A' B')).toNat)*2^rE p A' B':=by
   apply ai
   omega
  omega
theorem wI (p U U':Nat)(hp:0<p)(h:U<=U'):fk p U<=fk p U':=by
 have d:=jz h
 unfold fk
 by_cases c:aq U-p=aq U'-p
 ·rw[c]
  exact Nat.add_le_add_left (Nat.div_le_div_right h) _
 ·have b:aq U-p<aq U'-p:=by omega
  have f:U/2^(aq U-p)<2^p:=by
   rw[bz (ah _),<-ag]
   exact aE ((ay U (aq U)).1 (ao _)) (al (by decide) (by omega))
  have i:2^(p-1)<=U'/2^(aq U'-p):=by
   rw[bj (ah _),<-ag]
   rcases cO U' (2^(p-1+(aq U'-p)))with g|g
   ·have:=(ay U' _).2 g
    omega
   ·exact g
  have e:(2:Nat)^p=2*2^(p-1):=by rw[show p=p-1+1 from by omega,aF,b6];omega
  have a:(aq U-p+1)*2^(p-1)<=(aq U'-p)*2^(p-1):=ai _ (by omega)
  rw[aH,aN]at a
  omega
theorem zj (p T U:Nat)(hp:0<p)(hT:p<=T)(h:aq U<=T):fk p U<(T-p+2)*2^(p-1):=by
 have a:U/2^(aq U-p)<2^p:=by
  rw[bz (ah _),<-ag]
  exact aE ((ay U (aq U)).1 (ao _)) (al (by decide) (by omega))
 have e:(2:Nat)^p=2*2^(p-1):=by rw[show p=p-1+1 from by omega,aF,b6];omega
 unfold fk
 have b:(aq U-p)*2^(p-1)<=(T-p)*2^(p-1):=ai _ (by omega)
 rw[aH]
 omega
theorem vh (p T G I:Nat)(d:Int)(U U':Nat)(hp:0<p)(hT:p<=T)(hG:(T-p+2)*2^(p-1)=G+1)(hI:G+1=I)(h:U<=U'):dK p T G I d U<=dK p T G I d U'∧dK p T G I d U'<=I:=by
 have b:=jz h
 have k:∀X,aq X<=T->fk p X<=G:=fun X hX=>by have:=zj p T X hp hT hX;omega
 unfold dK
 by_cases c2:aq U'<=T
 ·rw[if_pos c2,if_pos (by omega)]
  have:=k U' c2
  exact⟨wI p U U' hp h,by omega⟩
 ·rw[if_neg c2]
  by_cases a:aq U<=T
  ·rw[if_pos a]
   have:=k U a
   split<;>omega
  ·rw[if_neg a]
   split<;>omega
def uY (p T G I:Nat)(d:Int)(c1 c2:Nat)(V:Int):Int:=if V=0 then 0 else (if V<0 then -((dK p T G I (dU true d) (rU (dU true d) p (V.natAbs*c1) c2):Nat):Int) else ((dK p T G I (dU false d) (rU (dU false d) p (V.natAbs*c1) c2):Nat):Int))
theorem DG (p T G I:Nat)(d:Int)(c1 c2:Nat)(hp:0<p)(hT:p<=T)(hG:(T-p+2)*2^(p-1)=G+1)(hI:G+1=I)(V:Int):-(I:Int)<=uY p T G I d c1 c2 V∧uY p T G I d c1 c2 V<=I:=by
 have k:=fun d U=>(vh p T G I d U U hp hT hG hI (ao _)).2
 unfold uY
 split
 ·omega
 ·split
  ·have:=k (dU true d) (rU (dU true d) p (V.natAbs*c1) c2)
   omega
  ·have:=k (dU false d) (rU (dU false d) p (V.natAbs*c1) c2)
   omega
theorem uC (p S E:Nat)(hp:0<p)(hS:S<=2^p)(hE:E=0∨2^(p-1)<=S):fk p (S*2^E)=E*2^(p-1)+S:=by
 have f:(2:Nat)^p=2*2^(p-1):=by rw[show p=p-1+1 from by omega,aF,b6];omega
 have l:=ah (p-1)
 have a:∀X x:Nat,2^(p-1)<=X->X<2^p->fk p (X*2^x)=x*2^(p-1)+X:=by
  intro X x d i
  have g:aq X<=p:=(ay X p).2 i
  have k:¬aq X<=p-1:=fun h=>by have:=(ay X (p-1)).1 h;omega
  have j:p-aq X=0:=by omega
  rw[iq p X x 0 (by omega) (by rw[j,Nat.zero_min]) g,Nat.sub_zero,aB,aG]
 by_cases c:S=2^p
 ·have e:S*2^E=2^(p-1)*2^(E+1):=by
   rw[c,f,aF];ac_rfl
  rw[e,a _ _ (ao _) (by omega),c,f,aH,aN,Nat.two_mul]
  omega
 ·have b:S<2^p:=by omega
  rcases hE with h|h
  ·rw[h,aB,aG,aM,bJ]
   by_cases z:S=0
   ·rw[z,gR]
   ·have d:=iq p S 0 0 z (by omega) ((ay S p).2 b)
    rw[aB,aG,Nat.sub_zero,aM,bJ]at d
    exact d
  ·exact a S E h b
def TU (I:Nat)(v:Nat->Nat)(A B lo hi ne:Nat):Prop:=(lo=hi∧ne=lo∧lo<I∧v lo*B=A)∨(hi=lo+1∧lo<I∧v lo*B<A∧(hi<I->A<v hi*B)∧((2*A<(v lo+v hi)*B∧ne=lo)∨((v lo+v hi)*B<2*A∧ne=hi)∨(2*A=(v lo+v hi)*B∧(ne=lo∨ne=hi)∧ne%2=0)))
theorem B7 (p T G I:Nat)(v:Nat->Nat)(hv:∀E S:Nat,S<=2^p->(E=0∨2^(p-1)<=S)->v (E*2^(p-1)+S)=S*2^E)(A B:Nat)(hB:0<B)(hp:2<=p)(hT:p<=T)(hG:(T-p+2)*2^(p-1)=G+1)(hI:G+1=I) :
  TU I v A B (dK p T G I (-1) (rU (-1) p A B)) (dK p T G I 1 (rU 1 p A B)) (dK p T G I 0 (rU 0 p A B)):=by
 obtain⟨s1,g⟩:=wR p A B hB (by omega)
 have ep:(2:Nat)^p=2*2^(p-1):=by rw[show p=p-1+1 from by omega,aF,b6];omega
 have pp:=ah (p-1)
 have hw:0<B*2^rE p A B:=aQ hB (ah _)
 have V:=bU A (B*2^rE p A B)
 have Y:=bZ A hw
 have K:A/(B*2^rE p A B)=rS p A B:=rfl
 have t:A%(B*2^rE p A B)=rR p A B:=rfl
 rw[K,t]at V
 rw[t]at Y
 have o:(T-p)*2^(p-1)+(2^p-1)=G:=by
  rw[aH]at hG;omega
 unfold rU
 generalize rS p A B=S at *
 generalize rR p A B=R at *
 generalize rE p A B=E at *
 clear K t
 by_cases ct:E+p<=T
 ·have a:∀(d:Int)(u:Bool),(d = -1->u=false)->dK p T G I d ((S+u.toNat)*2^E)=E*2^(p-1)+(S+u.toNat):=by
   intro d u hd
   have x:S+u.toNat<=2^p:=by cases u<;>simp<;>omega
   have C:E=0∨2^(p-1)<=S+u.toNat:=by rcases g with h|h;exact Or.inl h;exact Or.inr (by omega)
   unfold dK
   by_cases F:aq ((S+u.toNat)*2^E)<=T
   ·rw[if_pos F]
    exact uC p _ E (by omega) x C
   ·rw[if_neg F]
    have l:2^T<=(S+u.toNat)*2^E:=by
     rcases cO ((S+u.toNat)*2^E) (2^T)with h|h
     ·exact absurd ((ay _ T).2 h) F
     ·exact h
    have ad:(2:Nat)^p*2^E<=2^T:=by rw[<-ag];exact al (by decide) (by omega)
    have D:=ah E
    have b:S+u.toNat=2^p:=by
     rcases cO (S+u.toNat) (2^p)with h|h
     ·have:=am h D
      omega
     ·omega
    have M:u=true:=by cases u<;>simp at b|-;omega
    have z:d≠-1:=fun h=>by rw[hd h]at M;cases M
    rw[if_neg z,b]
    have m:E=T-p:=by
     rcases cO (E+p) T with h|h
     ·have:(2:Nat)^(p+E)<2^T:=Nat.pow_lt_pow_right (by decide) (by omega)
      rw[b,<-ag]at l
      omega
     ·omega
    rw[m];omega
  have c:fw (-1) S R (B*2^E)=false:=rfl
  have q:fw 1 S R (B*2^E)=decide (0<R):=rfl
  have y:fw 0 S R (B*2^E)=(decide (B*2^E<2*R) || (decide (B*2^E=2*R) && decide (S%2=1))):=rfl
  rw[a (-1) _ (fun _=>c),a 1 _ (fun h=>absurd h (by decide)),a 0 _ (fun h=>absurd h (by decide)),c,q,y]
  have f:E*2^(p-1)+S<I:=by
   have:E*2^(p-1)<=(T-p)*2^(p-1):=ai _ (by omega)
   omega
  have i:=hv E S (by omega) g
  have k:=hv E (S+1) (by omega) (by rcases g with h|h;exact Or.inl h;exact Or.inr (by omega))
  have Q:v (E*2^(p-1)+S)*B=B*2^E*S:=by rw[i];ac_rfl
  have O:v (E*2^(p-1)+(S+1))*B=B*2^E*S+B*2^E:=by rw[k,<-Nat.mul_succ];ac_rfl
  have ev:E*2^(p-1)%2=0:=by
   rw[show p-1=p-2+1 from by omega,aF,<-ak];exact Nat.mul_mod_left _ _
  generalize E*2^(p-1)=Z at *
  generalize B*2^E=W at *
  generalize W*S=WS at *
  have j:false.toNat=0:=rfl
  have J:true.toNat=1:=rfl
  by_cases cR:R=0
  ·left
   rw[ae (show ¬0<R by omega),ae (show ¬W<2*R by omega),ae (show ¬W=2*R by omega),Bool.false_and,Bool.or_false,j,bi]
   exact⟨rfl,rfl,f,by omega⟩
  ·right
   rw[af (show 0<R by omega),j,J,show S+0=S from rfl]
   refine⟨by omega,f,by omega,fun _=>by omega, ?_⟩
   rw[aH,Q,O]
   by_cases L:W<2*R
   ·rw[af L,Bool.true_or,J]
    exact Or.inr (Or.inl ⟨by omega,rfl⟩)
   ·rw[ae L,Bool.false_or]
    by_cases c2:W=2*R
    ·rw[af c2,Bool.true_and]
     refine Or.inr (Or.inr ⟨by omega, ?_⟩)
     by_cases c3:S%2=1
     ·rw[af c3,J];exact⟨Or.inr rfl,by omega⟩
     ·rw[ae c3,j];exact⟨Or.inl rfl,by omega⟩
    ·rw[ae c2,Bool.false_and,j]
     exact Or.inl ⟨by omega,rfl⟩
 ·have n:2^(p-1)<=S:=g.resolve_left (by omega)
  have r:(2:Nat)^T<=S*2^E:=by
   have H:(2:Nat)^(p-1)*2^E<=S*2^E:=ai _ n
   rw[<-ag]at H
   exact aT (al (by decide) (by omega)) H
  have s:∀u:Bool,¬aq ((S+u.toNat)*2^E)<=T:=fun u h=>by
   have h2:=(ay _ T).1 h
   have h3:S*2^E<=(S+u.toNat)*2^E:=ai _ (by omega)
   omega
  have P:∀u:Bool,dK p T G I (-1) ((S+u.toNat)*2^E)=G:=fun u=>by unfold dK;rw[if_neg (s u),if_pos rfl]
  have U:∀u:Bool,dK p T G I 1 ((S+u.toNat)*2^E)=I:=fun u=>by unfold dK;rw[if_neg (s u),if_neg (by decide)]
  have N:∀u:Bool,dK p T G I 0 ((S+u.toNat)*2^E)=I:=fun u=>by unfold dK;rw[if_neg (s u),if_neg (by decide)]
  rw[P,U,N]
  right
  have i:=hv (T-p) (2^p-1) (by omega) (Or.inr (by omega))
  have k:=hv (T-p) (2^p) (ao _) (Or.inr (by omega))
  rw[o]at i
  rw[show(T-p)*2^(p-1)+2^p=I from by omega,<-ag,show p+(T-p)=T from by omega]at k
  have X:v G<2^T:=by
   rw[i,show(2:Nat)^T=2^p*2^(T-p)from by rw[<-ag];exact congrArg _ (by omega)]
   exact am (by omega) (ah _)
  have hA:B*2^T<=A:=by
   have H:B*2^T<=B*(S*2^E):=aR _ r
   have h2:B*(S*2^E)=B*2^E*S:=by ac_rfl
   omega
  have h4:v G*B<2^T*B:=am X hB
  rw[ap B]at hA
  refine⟨by omega,by omega,by omega,fun h=>by omega,Or.inr (Or.inl ⟨?_,rfl⟩)⟩
  rw[aH,k]
  omega
def TS (I:Nat)(v:Nat->Nat)(A B:Int)(lo hi ne:Int):Prop:=∀vs:Int->Int,(∀z:Int,0<=z->vs z=(v z.natAbs:Int))->(∀z:Int,vs (-z) = - vs z)->(lo=hi∧ne=lo∧-(I:Int)<lo∧lo<I∧vs lo*B=A)∨(hi=lo+1∧-(I:Int)<=lo∧hi<=I∧(-(I:Int)<lo->vs lo*B<A)∧(hi<I->A<vs hi*B)∧((2*A<(vs lo+vs hi)*B∧ne=lo)∨((vs lo+vs hi)*B<2*A∧ne=hi)∨(2*A=(vs lo+vs hi)*B∧(ne=lo∨ne=hi)∧ne%2=0)))
theorem TU.pos {I:Nat}{v:Nat->Nat}{A B lo hi ne:Nat}(h:TU I v A B lo hi ne):TS I v (A:Int) (B:Int) (lo:Int) (hi:Int) (ne:Int):=by
 intro b a i
 have g:b (lo:Int)=(v lo:Int):=by rw[a _ (by omega)];rfl
 have d:b (hi:Int)=(v hi:Int):=by rw[a _ (by omega)];rfl
 rw[g,d]
 rcases h with⟨a1,a2,a3,a4⟩|⟨a1,a2,a3,a4,a5⟩
 ·left
  refine⟨by omega,by omega,by omega,by omega, ?_⟩
  rw[<-a4,aK]
 ·right
  have f:((v lo*B:Nat):Int)=(v lo:Int)*(B:Int):=aK _ _
  have c:((v hi*B:Nat):Int)=(v hi:Int)*(B:Int):=aK _ _
  rw[aH]at a5
  rw[Int.add_mul,<-f,<-c]
  generalize v lo*B=X at *
  generalize v hi*B=Y at *
  refine⟨by omega,by omega,by omega,fun _=>by omega,fun h=>?_, ?_⟩
  ·have:=a4 (by omega);omega
  ·omega
theorem TU.neg {I:Nat}{v:Nat->Nat}{A B lo hi ne:Nat}(h:TU I v A B lo hi ne):TS I v (-(A:Int)) (B:Int) (-(hi:Int)) (-(lo:Int)) (-(ne:Int)):=by
 intro d b c
 have i:d (-(lo:Int)) = -(v lo:Int):=by rw[c,b _ (by omega)];rfl
 have f:d (-(hi:Int)) = -(v hi:Int):=by rw[c,b _ (by omega)];rfl
 rw[i,f]
 have g:((v lo*B:Nat):Int)=(v lo:Int)*(B:Int):=aK _ _
 have a:((v hi*B:Nat):Int)=(v hi:Int)*(B:Int):=aK _ _
 rcases h with⟨a1,a2,a3,a4⟩|⟨a1,a2,a3,a4,a5⟩
 ·left
  refine⟨by omega,by omega,by omega,by omega, ?_⟩
  rw[bF,<-a,<-a1,a4]
 ·right
  rw[aH]at a5
  rw[Int.add_mul,bF,bF,<-g,<-a]
  generalize v lo*B=X at *
  generalize v hi*B=Y at *
  refine⟨by omega,by omega,by omega,fun h=>?_,fun _=>by omega, ?_⟩
  ·have:=a4 (by omega);omega
  ·omega
theorem uX (p T G I:Nat)(v:Nat->Nat)(hv:∀E S:Nat,S<=2^p->(E=0∨2^(p-1)<=S)->v (E*2^(p-1)+S)=S*2^E)(c1 c2:Nat)(hB:0<c2)(hp:2<=p)(hT:p<=T)(hG:(T-p+2)*2^(p-1)=G+1)(hI:G+1=I)(V:Int) :
  TS I v (V*c1) (c2:Int) (uY p T G I (-1) c1 c2 V) (uY p T G I 1 c1 c2 V) (uY p T G I 0 c1 c2 V):=by
 have k:=B7 p T G I v hv (V.natAbs*c1) c2 hB hp hT hG hI
 unfold uY
 by_cases z:V=0
 ·rw[if_pos z,if_pos z,if_pos z]
  intro d b c
  have a:=hv 0 0 (aW _) (Or.inl rfl)
  rw[aM,aM]at a
  left
  refine⟨rfl,rfl,by omega,by omega, ?_⟩
  rw[b 0 (by omega),show(0:Int).natAbs=0+0 from rfl,a,z]
  simp
 ·rw[if_neg z,if_neg z,if_neg z]
  by_cases n:V<0
  ·rw[if_pos n,if_pos n,if_pos n]
   have e:V*(c1:Int) = -((V.natAbs*c1:Nat):Int):=by
    rw[aK,show(V.natAbs:Int) = -V from by omega,bF,eW]
   rw[e]
   exact k.neg
  ·rw[if_neg n,if_neg n,if_neg n]
   have e:V*(c1:Int)=((V.natAbs*c1:Nat):Int):=by
    rw[aK,show(V.natAbs:Int)=V from by omega]
   rw[e]
   exact k.pos
end Go.Proofs.YtmpjcknaelgnoaaGreatDoor
