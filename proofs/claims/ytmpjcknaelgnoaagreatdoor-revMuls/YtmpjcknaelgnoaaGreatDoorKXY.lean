import Derived.Test.YtmpjcknaelgnoaaGreatDoorKXM
namespace Go.Proofs.YtmpjcknaelgnoaaGreatDoor
open Go.RowKit
def fw (d:Int)(S r w:Nat):Bool:=if d=1 then decide (0<r) else if d = -1 then false else decide (w<2*r) || (decide (w=2*r) && decide (S%2=1))
def rE (p A B:Nat):Nat:=aq (A/B)-p
def rS (p A B:Nat):Nat:=A/(B*2^rE p A B)
def rR (p A B:Nat):Nat:=A%(B*2^rE p A B)
def rU (d:Int)(p A B:Nat):Nat:=(rS p A B+(fw d (rS p A B) (rR p A B) (B*2^rE p A B)).toNat)*2^rE p A B
def rV (d:Int)(p A B:Nat)(t:Int):Nat:=rU d p (A*2^t.toNat) (B*2^(-t).toNat)
theorem iE (d:Int)(S r w k:Nat)(hk:0<k):fw d S (r*k) (w*k)=fw d S r w:=by
 have a:(0<r*k) ↔ 0<r:=⟨fun h=>Nat.pos_of_ne_zero (fun e=>by subst e;simp at h),fun h=>aQ h hk⟩
 have b:(w*k<2*(r*k)) ↔ w<2*r:=by rw[<-ak];exact Nat.mul_lt_mul_right hk
 have c:(w*k=2*(r*k)) ↔ w=2*r:=by rw[<-ak];exact Nat.mul_left_inj (by omega)
 unfold fw
 simp only[a,b,c]
theorem eC (d:Int)(S w:Nat)(hw:0<w):fw d S 0 w=false:=by
 unfold fw
 split
 ·simp
 ·split
  ·rfl
  ·simp;omega
theorem ul (d:Int)(S r w w':Nat)(h:2*r<w)(h':2*r<w'):fw d S r w=fw d S r w':=by
 unfold fw
 split
 ·rfl
 ·split
  ·rfl
  ·rw[ae (show ¬w<2*r by omega),ae (show ¬w=2*r by omega),ae (show ¬w'<2*r by omega),ae (show ¬w'=2*r by omega)]
theorem ay (x k:Nat):aq x<=k ↔ x<2^k:=by
 constructor
 ·intro h
  by_cases c:x=0
  ·subst c;exact aP (by omega)
  ·exact aE (cK x c).2.1 (al (by omega) h)
 ·exact gp x k
theorem iu (p A B:Nat)(hB:0<B)(hp:0<p):A<B*2^(rE p A B+p)∧(rE p A B=0∨B*2^(rE p A B+p-1)<=A):=by
 have a:aq (A/B)<=rE p A B+p:=by unfold rE;omega
 rw[ay,bz hB,ap]at a
 refine⟨a, ?_⟩
 by_cases c:rE p A B=0
 ·exact Or.inl c
 ·right
  have b:¬aq (A/B)<=rE p A B+p-1:=by unfold rE at c|-;omega
  rw[ay,bz hB,ap]at b
  omega
theorem oK (p A B E:Nat)(hB:0<B)(hp:0<p)(h1:A<B*2^(E+p))(h2:E=0∨B*2^(E+p-1)<=A):rE p A B=E:=by
 have b:aq (A/B)<=E+p:=by rw[ay,bz hB,ap];exact h1
 unfold rE
 rcases h2 with h2|h2
 ·omega
 ·by_cases c:E=0
  ·omega
  ·have a:¬aq (A/B)<=E+p-1:=by
    rw[ay,bz hB,ap];omega
   omega
theorem qn (d:Int)(p A B k:Nat)(hk:0<k):rU d p (A*k) (B*k)=rU d p A B:=by
 have a:rE p (A*k) (B*k)=rE p A B:=by unfold rE;rw[cQ _ _ hk]
 have b:B*k*2^rE p A B=B*2^rE p A B*k:=by rw[ak,ap k,<-ak]
 have c:rS p (A*k) (B*k)=rS p A B:=by unfold rS;rw[a,b,cQ _ _ hk]
 have f:rR p (A*k) (B*k)=rR p A B*k:=by unfold rR;rw[a,b,cI]
 unfold rU
 rw[c,f,a,b,iE _ _ _ _ _ hk]
theorem ki (d:Int)(p A B A' B':Nat)(hB:0<B)(hB':0<B')(h:A*B'=A'*B):rU d p A B=rU d p A' B':=by
 rw[<-qn d p A B B' hB',<-qn d p A' B' B hB,h,ap B B']
theorem nD (d:Int)(p A A' B c h l l' t:Nat)(hB:0<B)(hp:0<p)(hA:A=h*c+l)(hl:l<c)(hA':A'=h*c+l')(hl':l'<c)(hz:l=0 ↔ l'=0)(hd:B*2^rE p A B=2*(c*t)):rU d p A B=rU d p A' B:=by
 obtain⟨E,n⟩:=aA (rE p A B)
 have o:0<c:=by omega
 have J:0<t:=by
  rcases bS t with e|e
  ·subst e
   have:0<B*2^rE p A B:=aQ hB (aP (by omega))
   simp at hd;omega
  ·exact e
 rw[<-n]at hd
 have b:∀T,(∃u,T=c*u)->(A<T ↔ A'<T):=by
  rintro T ⟨u,rfl⟩
  rw[hA,hA',ap c u]
  constructor
  ·intro g
   have:h<u:=bP (show h*c<u*c by omega)
   have:(h+1)*c<=u*c:=ai c this
   rw[aH,aN]at this
   omega
  ·intro g
   have:h<u:=bP (show h*c<u*c by omega)
   have:(h+1)*c<=u*c:=ai c this
   rw[aH,aN]at this
   omega
 have a:∀j,E<=j->∃u,B*2^j=c*u:=fun j hj=>by
  refine⟨2*t*2^(j-E), ?_⟩
  have:(2:Nat)^j=2^E*2^(j-E):=by rw[<-ag];exact congrArg _ (by omega)
  rw[this,<-ak,hd,<-ak c,aZ c 2 t]
 obtain⟨z,f⟩:=iu p A B hB hp
 rw[<-n]at z f
 have k:rE p A' B=E:=oK p A' B E hB hp ((b _ (a _ (by omega))).1 z) (by
  rcases f with f|f
  ·exact Or.inl f
  ·by_cases I:E=0
   ·exact Or.inl I
   ·right
    have:=b _ (a (E+p-1) (by omega))
    omega)
 have i:∀l,l<c->(h*c+l)/(2*(c*t))=h/(2*t)∧(h*c+l)%(2*(c*t))=h%(2*t)*c+l:=by
  intro l hl
  have D:(2:Nat)*(c*t)=c*(2*t):=by rw[aZ]
  have s:(h*c+l)/c=h:=by rw[dz,Nat.add_mul_div_right _ _ o,bh hl,bJ]
  have H:(h*c+l)%c=l:=by rw[dz,Nat.add_mul_mod_self_right,aX hl]
  rw[D]
  refine⟨by rw[<-dO,s], ?_⟩
  rw[Nat.mod_mul,s,H,ap c,dz]
 unfold rU rS rR
 rw[k,<-n,hd,hA,hA',(i l hl).1,(i l' hl').1,(i l hl).2,(i l' hl').2]
 have m:fw d (h/(2*t)) (h%(2*t)*c+l) (2*(c*t))=fw d (h/(2*t)) (h%(2*t)*c+l') (2*(c*t)):=by
  obtain⟨y,F⟩:=aA (h%(2*t))
  rw[<-F]
  have q:∀l,l<c->(2*(c*t)<2*(y*c+l) ↔ t<y∨(t=y∧l≠0)):=by
   intro l hl
   rw[ap c t]
   constructor
   ·intro g
    by_cases C:t<y
    ·exact Or.inl C
    ·right
     have:y*c<=t*c:=ai c (by omega)
     by_cases c2:t=y
     ·subst c2;exact⟨rfl,by omega⟩
     ·exfalso
      have:(y+1)*c<=t*c:=ai c (by omega)
      rw[aH,aN]at this
      omega
   ·rintro(g|⟨g,x⟩)
    ·have:(t+1)*c<=y*c:=ai c g
     rw[aH,aN]at this
     omega
    ·subst g;omega
  have r:∀l,l<c->(2*(c*t)=2*(y*c+l) ↔ t=y∧l=0):=by
   intro l hl
   rw[ap c t]
   constructor
   ·intro g
    by_cases c2:t=y
    ·subst c2;exact⟨rfl,by omega⟩
    ·exfalso
     rcases Nat.lt_or_gt_of_ne c2 with c3|c3
     ·have:(t+1)*c<=y*c:=ai c c3
      rw[aH,aN]at this
      omega
     ·have:(y+1)*c<=t*c:=ai c c3
      rw[aH,aN]at this
      omega
   ·rintro⟨g,x⟩
    subst g;subst x;omega
  have G:∀l,(0<y*c+l ↔ 0<y∨l≠0):=by
   intro l
   constructor
   ·intro g
    by_cases c2:0<y
    ·exact Or.inl c2
    ·right;intro e;subst e
     have:y=0:=by omega
     subst this;simp at g
   ·rintro(g|g)
    ·have:=aQ g o;omega
    ·omega
  unfold fw
  simp only[q l hl,q l' hl',r l hl,r l' hl',G,ne_eq,hz]
 rw[m]
theorem mG (d:Int)(p A B A' B':Nat)(t:Int)(hB:0<B)(hB':0<B')(h:A*B'=A'*B):rV d p A B t=rV d p A' B' t:=by
 unfold rV
 refine ki d p _ _ _ _ (aQ hB (aP (by omega))) (aQ hB' (aP (by omega))) ?_
 rw[eo,h,eo]
theorem jD (d:Int)(p A B k:Nat)(t:Int)(hB:0<B):rV d p (A*2^k) B t=rV d p A B (t+k):=by
 unfold rV
 refine ki d p _ _ _ _ (aQ hB (aP (by omega))) (aQ hB (aP (by omega))) ?_
 have e:k+t.toNat+(-(t+k)).toNat=(t+k).toNat+(-t).toNat:=by omega
 rw[ak A,<-ag,eo,<-ag,e,ag,eo]
theorem ju (d:Int)(p A B k:Nat)(t:Int)(hB:0<B):rV d p A (B*2^k) t=rV d p A B (t-k):=by
 unfold rV
 refine ki d p _ _ _ _ (aQ (aQ hB (aP (by omega))) (aP (by omega))) (aQ hB (aP (by omega))) ?_
 have e:t.toNat+(-(t-k)).toNat=(t-k).toNat+(k+(-t).toNat):=by omega
 rw[ak B,<-ag,eo,<-ag,e,ag,eo]
theorem du (x n:Nat)(h:x≠0):aq (x*2^n)=aq x+n:=by
 obtain⟨a,b,c⟩:=cK x h
 have e:aq x+n=(aq x-1+n)+1:=by omega
 rw[e]
 refine ed _ _ ?_ ?_
 ·rw[ag];exact ai _ a
 ·rw[show aq x-1+n+1=aq x+n from by omega,ag];exact am b (aP (by omega))
theorem kJ (x b:Nat):aq (x/2^b)=aq x-b:=by
 have a:∀k,aq (x/2^b)<=k ↔ aq x<=k+b:=fun k=>by
  rw[ay,ay,bz (aP (by omega)),ag]
 have c:=(a (aq x-b)).2 (by omega)
 have d:=(a (aq (x/2^b))).1 (ao _)
 omega
theorem rM (d:Int)(p sig:Nat)(t:Int)(L c:Nat)(hp:0<p)(hL:(L:Int)=max (max t (t+aq sig-p)) 0)(hc:(c:Int)=L-t) :
  rV d p sig 1 t=(sig/2^c+(fw d (sig/2^c) (sig%2^c) (2^c)).toNat)*2^L∧sig/2^c<2^p:=by
 have o:sig/2^c<2^p:=by
  rw[<-ay,kJ];omega
 refine⟨?_,o⟩
 unfold rV
 by_cases u:0<=t
 ·obtain⟨n,rfl⟩:∃n:Nat,t=(n:Int):=⟨t.toNat,by omega⟩
  rw[show(-(n:Int)).toNat=0 from by omega,av,aB,aG]
  by_cases q:sig=0
  ·subst q
   unfold rU rS rR
   rw[aM,ei,eR,ei,eR,eC _ _ _ (aQ (by omega) (aP (by omega))),eC _ _ _ (aP (by omega))]
   simp
  ·have l:rE p (sig*2^n) 1=aq sig+n-p:=by unfold rE;rw[fy,du _ _ q]
   by_cases y:aq sig<=p
   ·have a:L=n:=by omega
    have j:c=0:=by omega
    subst a;subst j
    obtain⟨k,m⟩:∃k,L=rE p (sig*2^L) 1+k:=⟨L-rE p (sig*2^L) 1,by omega⟩
    obtain⟨E,f⟩:=aA (rE p (sig*2^L) 1)
    rw[<-f]at m l
    unfold rU rS rR
    rw[<-f,aN,aB,fy,fW,eC _ _ 1 (by omega)]
    have s:sig*2^L=sig*2^k*2^E:=by rw[ak,<-ag,m,dz]
    have h:(2:Nat)^L=2^k*2^E:=by rw[<-ag,m,dz]
    rw[s,eg _ (aP (by omega)),Nat.mul_mod_left,eC _ _ _ (aP (by omega)),h,<-ak]
    simp
   ·have a:L=c+n:=by omega
    have r:c=aq sig-p:=by omega
    have g:rE p (sig*2^n) 1=L:=by omega
    unfold rU rS rR
    rw[g,aN]
    have h:(2:Nat)^L=2^c*2^n:=by rw[<-ag,a]
    rw[h,cQ _ _ (aP (by omega)),cI,iE _ _ _ _ _ (aP (by omega))]
 ·obtain⟨b,x⟩:∃b:Nat,-t=(b:Int):=⟨(-t).toNat,by omega⟩
  rw[show t.toNat=0 from by omega,show(-t).toNat=b from by omega,aB,aG,aN]
  have l:rE p sig (2^b)=L:=by unfold rE;rw[kJ];omega
  have i:c=b+L:=by omega
  unfold rU rS rR
  rw[l,<-ag,<-i]
theorem uD (d:Int)(p n m K E N' M' k:Nat)(hE:rE p (n*2^K) m=E)(h1:n*2^K=N'*2^k)(h2:m*2^E=M'*2^k) :
  rV d p n m (K:Int)=(N'/M'+(fw d (N'/M') (N'%M') M').toNat)*2^E:=by
 unfold rV
 rw[show(-(K:Int)).toNat=0 from by omega,av,aB,aG]
 unfold rU rS rR
 rw[hE,h2,h1,cQ _ _ (aP (by omega)),cI,iE _ _ _ _ _ (aP (by omega))]
theorem CB (p n m K a b E:Nat)(hp:0<p)(hm:0<m)(h1:m*2^a<=n*2^b)(h2:n*2^b<m*2^(a+1))(hE:(E:Int)=max ((a:Int)-b-p+1+K) 0):rE p (n*2^K) m=E:=by
 refine oK p _ m E hm hp ?_ ?_
 ·have d:n*2^K*2^b<m*2^(E+p)*2^b:=by
   have g:n*2^b*2^K<m*2^(a+1)*2^K:=am h2 (aP (by omega))
   have f:m*2^(a+1)*2^K<=m*2^(E+p)*2^b:=by
    rw[ak,ak,<-ag,<-ag]
    exact aR _ (al (by omega) (by omega))
   rw[bG n]
   omega
  exact bP d
 ·by_cases c:E=0
  ·exact Or.inl c
  ·right
   have d:m*2^(E+p-1)*2^b<=n*2^K*2^b:=by
    have g:m*2^a*2^K<=n*2^b*2^K:=ai _ h1
    have f:m*2^(E+p-1)*2^b=m*2^a*2^K:=by
     rw[ak,ak,<-ag,<-ag]
     exact congrArg (fun x=>m*2^x) (by omega)
    rw[bG n]
    omega
   exact dM d (aP (by omega))
theorem uF (n m:Nat)(hn:n≠0)(hm:m≠0):n*2^aq m<m*2^(aq n+1)∧m*2^aq n<n*2^(aq m+1):=by
 obtain⟨o,h,p⟩:=cK n hn
 obtain⟨k,d,l⟩:=cK m hm
 have j:(2:Nat)^(aq n+1)=2*2^aq n:=by rw[aF,ap]
 have g:(2:Nat)^(aq m+1)=2*2^aq m:=by rw[aF,ap]
 have f:(2:Nat)^aq m<=2*m:=by
  have:(2:Nat)^aq m=2*2^(aq m-1):=by rw[<-Nat.pow_succ',show(aq m-1).succ=aq m from by omega]
  omega
 have i:(2:Nat)^aq n<=2*n:=by
  have:(2:Nat)^aq n=2*2^(aq n-1):=by rw[<-Nat.pow_succ',show(aq n-1).succ=aq n from by omega]
  omega
 constructor
 ·rw[j]
  have b:n*2^aq m<=n*(2*m):=aR _ f
  have a:n*(2*m)<2^aq n*(2*m):=am h (by omega)
  have c:m*(2*2^aq n)=2^aq n*(2*m):=by rw[aZ,ap m,aZ]
  omega
 ·rw[g]
  have b:m*2^aq n<=m*(2*n):=aR _ i
  have a:m*(2*n)<2^aq m*(2*n):=am d (by omega)
  have c:n*(2*2^aq m)=2^aq m*(2*n):=by rw[aZ,ap n,aZ]
  omega
def fk (p U:Nat):Nat:=(aq U-p)*2^(p-1)+U/2^(aq U-p)
def dK (p T G I:Nat)(d:Int)(U:Nat):Nat:=if aq U<=T then fk p U else if d = -1 then G else I
theorem iq (p o x s:Nat)(ho:o≠0)(hs:s=min (p-aq o) x)(hb:aq o<=p):fk p (o*2^x)=(x-s)*2^(p-1)+o*2^s:=by
 unfold fk
 rw[du _ _ ho]
 have a:aq o+x-p=x-s:=by omega
 rw[a]
 have b:(2:Nat)^x=2^s*2^(x-s):=by rw[<-ag];exact congrArg _ (by omega)
 rw[b,<-ak,eg _ (aP (by omega))]
theorem gR (p:Nat):fk p 0=0:=by unfold fk;rw[cP];simp
def gO (neg:Bool)(m:Nat):Nat:=if m=0 then 0 else if neg then 9223372036854775808+m else m
def MdI (U s:Nat)(x:Int):Prop:=s≠0∧s<=9007199254740992∧-1074<=x∧x<=5000∧s*2^(x+1074).toNat=U
theorem MdI.half {U s:Nat}{x:Int}(h:MdI U s x)(hx:x<5000)(hs:9007199254740992<=s):MdI U (s/2) (x+1)∧s/2<9007199254740992:=by
 obtain⟨c,d,f,b,a⟩:=h
 have e:s=9007199254740992:=by omega
 subst e
 refine⟨⟨by omega,by omega,by omega,by omega, ?_⟩,by omega⟩
 rw[<-a,show(x+1+1074).toNat=(x+1074).toNat+1 from by omega,aF]
 generalize 2^(x+1074).toNat=y
 omega
theorem MdI.dbl {U s:Nat}{x:Int}(h:MdI U s x)(hs:s<4503599627370496)(hx:-1074<x):MdI U (2*s) (x-1):=by
 obtain⟨c,d,f,b,a⟩:=h
 refine⟨by omega,by omega,by omega,by omega, ?_⟩
 rw[<-a,show(x+1074).toNat=(x-1+1074).toNat+1 from by omega,aF]
 generalize 2^(x-1+1074).toNat=y
 rw[ap 2 s,ak,ap 2 y]
theorem MdI.top {U s:Nat}{x:Int}(h:MdI U s x)(h1:4503599627370496<=s)(h2:s<9007199254740992)(hb:aq U<=2098):x<=971∧fk 53 U=(s-4503599627370496)+(x+1075).toNat*4503599627370496∧fk 53 U<9218868437227405312∧fk 53 U≠0:=by
 obtain⟨c,_,i,g,b⟩:=h
 have a:aq s=53:=ed s 52 (by rw[show(2:Nat)^52=4503599627370496 from by decide];exact h1) (by rw[show(2:Nat)^(52+1)=9007199254740992 from by decide];exact h2)
 have f:aq U=53+(x+1074).toNat:=by rw[<-b,du _ _ c,a]
 have d:=iq 53 s (x+1074).toNat 0 c (by rw[a];omega) (by omega)
 rw[b,Nat.sub_zero,aB,aG,show(2:Nat)^(53-1)=4503599627370496 from by decide]at d
 have j:x<=971:=by omega
 rw[d]
 omega
theorem MdI.low {U s:Nat}{x:Int}(h:MdI U s x)(h1:s<4503599627370496)(hx:x = -1074):fk 53 U=s∧fk 53 U≠0:=by
 obtain⟨d,_,g,f,c⟩:=h
 subst hx
 have a:aq s<=53:=gp s 53 (by rw[show(2:Nat)^53=9007199254740992 from by decide];omega)
 have b:=iq 53 s 0 0 d (by omega) a
 rw[show(-1074+1074:Int).toNat=0 from rfl,aB,aG]at c
 rw[aB,aG,Nat.sub_zero,aM,bJ]at b
 rw[<-c,b]
 exact⟨rfl,d⟩
def rj (n m:Nat):Bool:=if aq m<=aq n then decide (n<m*2^(aq n-aq m)) else decide (n*2^(aq m-aq n)<m)
def mu (n m:Nat):Int:=(aq n:Int)-aq m-(if rj n m then 1 else 0)
theorem un (n m:Nat)(hn:n≠0)(hm:m≠0):∃a b:Nat,mu n m=(a:Int)-b∧m*2^a<=n*2^b∧n*2^b<m*2^(a+1):=by
 obtain⟨k,g⟩:=uF n m hn hm
 by_cases c:rj n m=true
 ·refine⟨aq n,aq m+1,by unfold mu;rw[if_pos c];omega,bO g, ?_⟩
  unfold rj at c
  split at c
  ·next h =>
   have f:=cM c
   have d:=am f (aP (n:=aq m+1) (by omega:0<2))
   rw[ak m,<-ag,show aq n-aq m+(aq m+1)=aq n+1 from by omega]at d
   exact d
  ·next h =>
   have f:=cM c
   have d:=am f (aP (n:=aq n+1) (by omega:0<2))
   rw[ak n,<-ag,show aq m-aq n+(aq n+1)=aq m+1 from by omega]at d
   exact d
 ·refine⟨aq n+1,aq m+1,by unfold mu;rw[if_neg c];omega, ?_, ?_⟩
  ·unfold rj at c
   split at c
   ·next h =>
    have f:¬n<m*2^(aq n-aq m):=by simpa using c
    have d:=ai (2^(aq m+1)) (Nat.le_of_not_lt f)
    rw[ak m,<-ag,show aq n-aq m+(aq m+1)=aq n+1 from by omega]at d
    exact d
   ·next h =>
    have f:¬n*2^(aq m-aq n)<m:=by simpa using c
    have d:=ai (2^(aq n+1)) (Nat.le_of_not_lt f)
    rw[ak n,<-ag,show aq m-aq n+(aq n+1)=aq m+1 from by omega]at d
    exact d
  ·have j:(2:Nat)^(aq m+1)=2^aq m*2:=aF _ _
   have i:(2:Nat)^(aq n+1+1)=2^(aq n+1)*2:=aF _ _
   rw[j,i,<-ak,<-ak]
   omega
theorem zm (d:Int)(P MO K T n m:Nat)(e:Int)(E ue de k:Nat)(hP:0<P)(hPT:P<=T)(hT:T=MO+1+K)(hn:n≠0)(hm:m≠0)(he:e=max (mu n m-P+1) (-(K:Int)))(hE:(E:Int)=e+K)
  (hu:n*2^K=n*2^ue*2^k)(hd:m*2^E=m*2^de*2^k)(sig:Nat)(hs:sig=n*2^ue/(m*2^de)+(fw d (n*2^ue/(m*2^de)) (n*2^ue%(m*2^de)) (m*2^de)).toNat) :
  rV d P n m (K:Int)=sig*2^E∧n*2^ue/(m*2^de)<2^P∧sig<=2^P∧((MO:Int)<mu n m->T<aq (rV d P n m (K:Int)))∧(¬(MO:Int)<mu n m->(aq (rV d P n m (K:Int))<=T ↔ ¬(sig=2^P∧(MO:Int)<e+P))):=by
 obtain⟨a,b,A,x,y⟩:=un n m hn hm
 have f:rE P (n*2^K) m=E:=CB P n m K a b E hP (by omega) x y (by rw[hE,he,A];omega)
 have l:=uD d P n m K E (n*2^ue) (m*2^de) k f hu hd
 rw[<-hs]at l
 have s:n*2^ue/(m*2^de)=n*2^K/(m*2^E):=by
  rw[hu,hd,cQ _ _ (aP (by omega))]
 have u:0<m*2^E:=aQ (by omega) (aP (by omega))
 obtain⟨t,i⟩:=iu P (n*2^K) m (by omega) hP
 rw[f]at t i
 have q:n*2^ue/(m*2^de)<2^P:=by
  rw[s,bz u,aZ,<-ag,dz P E];exact t
 have g:sig<=2^P:=by
  rw[hs]
  have:(fw d (n*2^ue/(m*2^de)) (n*2^ue%(m*2^de)) (m*2^de)).toNat<=1:=Bool.toNat_le _
  omega
 refine⟨l,q,g, ?_, ?_⟩
 ·intro B
  have z:E+P-1=(mu n m+K).toNat:=by omega
  have j:m*2^(E+P-1)<=n*2^K:=by
   rcases i with i|i
   ·omega
   ·exact i
  have o:2^(P-1)<=n*2^ue/(m*2^de):=by
   rw[s,bj u,aZ,<-ag,show P-1+E=E+P-1 from by omega];exact j
  have p:2^(P-1)<=sig:=by rw[hs];omega
  have r:2^(P-1+E)<=rV d P n m (K:Int):=by rw[l,ag];exact ai _ p
  by_cases c:aq (rV d P n m (K:Int))<=T
  ·exfalso
   rw[ay]at c
   have:(2:Nat)^T<=2^(P-1+E):=al (by omega) (by omega)
   omega
  ·omega
 ·intro B
  rw[l,ay]
  constructor
  ·intro j o
   rw[o.1,<-ag]at j
   have:(2:Nat)^T<=2^(P+E):=al (by omega) (by omega)
   omega
  ·intro j
   by_cases c:sig=2^P
   ·have o:¬(MO:Int)<e+P:=fun h=>j ⟨c,h⟩
    rw[c,<-ag]
    exact Nat.pow_lt_pow_right (by omega) (by omega)
   ·have p:sig<2^P:=by omega
    have r:sig*2^E<2^P*2^E:=am p (aP (by omega))
    rw[<-ag]at r
    have C:(2:Nat)^(P+E)<=2^T:=al (by omega) (by omega)
    omega
def dU (neg:Bool)(d:Int):Int:=if neg then -d else d
def mE (P K T G k0:Nat)(d:Int)(neg:Bool)(n m:Nat):Nat :=
 if n=0 then 0 else gO neg (if aq (rV (dU neg d) P n m (K:Int))<=T then fk 53 (rV (dU neg d) P n m (K:Int)*2^k0) else if dU neg d = -1 then G else 9218868437227405312)
theorem jz {a b:Nat}(h:a<=b):aq a<=aq b:=(ay a (aq b)).2 (bs h ((ay b (aq b)).1 (ao _)))
theorem pm (a:Nat)(h:a≠0):∃o,o%2=1∧a=o*2^jK a∧a/2^jK a=o∧jK a<=aq a:=by
 obtain⟨o,k,c,e⟩:=kr a h
 have b:jK a=k:=by rw[e];exact po k o c
 refine⟨o,c,by rw[b];exact e, ?_, ?_⟩
 ·rw[b,e,eg _ (aP (by omega))]
 ·rw[b,e,du _ _ (by omega)];omega
theorem Ax (d:Int)(p a b a1 b1 ka kb x y:Nat)(exp ex t:Int)(ha:a=a1*2^ka)(hb:b=b1*2^kb)(hb1:0<b1)(hex:ex=exp+ka-kb)(hx:x=ex.toNat)(hy:y=(-ex).toNat) :
  rV d p (a1*2^x) (b1*2^y) t=rV d p a b (t+exp):=by
 rw[jD d p a1 _ x t (aQ hb1 (aP (by omega))),ju d p a1 b1 y _ hb1,ha,hb,jD d p a1 _ ka _ (aQ hb1 (aP (by omega))),ju d p a1 b1 kb _ hb1]
 exact congrArg _ (by omega)
def fJ (a b:Nat)(exp:Int)(a' b':Nat):Prop:=b'≠0∧(a'=0 ↔ a=0)∧(∀(d:Int)(p:Nat)(t:Int),a≠0->rV d p a' b' t=rV d p a b (t+exp))∧aq a'<=2*aq a+exp.natAbs+1∧aq b'<=2*aq b+exp.natAbs+1
theorem Ay (a b a1 b1 ka kb x y:Nat)(exp ex:Int)(h0:a1≠0)(hb1:b1≠0)(ha:a=a1*2^ka)(hb:b=b1*2^kb)(_hka:ka<=aq a)(_hkb:kb<=aq b)(hex:ex=exp+ka-kb)(hx:x=ex.toNat)(hy:y=(-ex).toNat):fJ a b exp (a1*2^x) (b1*2^y):=by
 have g:aq a=aq a1+ka:=by rw[ha,du _ _ h0]
 have f:aq b=aq b1+kb:=by rw[hb,du _ _ hb1]
 have c:∀k,0<(2:Nat)^k:=fun k=>aP (by omega)
 refine⟨dL (aQ (by omega) (c y)), ?_, ?_, ?_, ?_⟩
 ·constructor
  ·intro h;exact absurd h (dL (aQ (by omega) (c x)))
  ·intro h;rw[ha]at h;exact absurd h (dL (aQ (by omega) (c ka)))
 ·intro d p t _
  exact Ax d p a b a1 b1 ka kb x y exp ex t ha hb (by omega) hex hx hy
 ·rw[du _ _ h0];omega
 ·rw[du _ _ hb1];omega
theorem jG (d:Int)(p N D h r H:Nat)(t:Int)(hD:0<D)(hp:0<p)(hp53:p<=53)(hN:N=h*D+r)(hr:r<D)(hH:H=2*h+(if r=0 then 0 else 1))(hbig:r=0∨9007199254740992<=h):rV d p (2*N) D t=rV d p H 1 t:=by
 by_cases c:r=0
 ·rw[if_pos c,bi]at hH
  refine mG d p _ _ _ _ t hD (by omega) ?_
  rw[hN,hH,c,bi,aG,ak]
 ·rw[if_neg c]at hH
  have z:9007199254740992<=h:=by rcases hbig with i|i;exact absurd i c;exact i
  have s:rV d p H 1 t=rV d p (H*D) D t:=mG d p _ _ _ _ t (by omega) hD (by rw[aG])
  rw[s]
  unfold rV
  obtain⟨x,o⟩:=aA t.toNat
  obtain⟨y,q⟩:=aA ((-t).toNat)
  rw[<-o,<-q]
  obtain⟨X,j⟩:=aA (2^x)
  have f:0<X:=by rw[j];exact aP (by omega)
  have n:0<D*2^y:=aQ hD (aP (by omega))
  obtain⟨E,l⟩:=aA (rE p (2*N*2^x) (D*2^y))
  have m:=(iu p (2*N*2^x) (D*2^y) n hp).1
  rw[<-l]at m
  have k:x+2<=y+E:=by
   by_cases c2:x+2<=y+E
   ·exact c2
   ·exfalso
    have u:D*2^y*2^(E+p)<=D*2^(x+54):=by
     rw[ak,<-ag]
     exact aR _ (al (by omega) (by omega))
    have B:D*2^(x+54)<=2*N*2^x:=by
     rw[ag,aZ,ap (2*N)]
     refine aR _ ?_
     rw[show(2:Nat)^54=18014398509481984 from by decide,hN]
     have i:9007199254740992*D<=h*D:=ai _ z
     generalize h*D=g at i|-
     clear hN hH l m c2 u
     omega
    omega
  refine nD d p (2*N*2^x) (H*D*2^x) (D*2^y) (2*D*X) h (2*r*X) (D*X) (2^(y+E-x-2)) n hp ?_ ?_ ?_ ?_ ?_ ?_
  ·rw[hN,<-j]
   rw[er,aH,<-ak h,aZ 2 h D]
  ·exact am (by omega) f
  ·rw[hH,<-j,aH,aH,aN,ak 2 h D,aZ 2 h D,ak h]
  ·exact am (by omega) f
  ·have F:0<2*r*X:=aQ (by omega) f
   have C:0<D*X:=aQ hD f
   constructor<;>intro i<;>omega
  ·rw[<-l,j]
   have A:(2:Nat)^y*2^E=4*2^x*2^(y+E-x-2):=by
    rw[<-ag,show(4:Nat)=2^2 from rfl,<-ag,<-ag]
    exact congrArg _ (by omega)
   rw[ak D,A]
   generalize (2:Nat)^x=a
   generalize (2:Nat)^(y+E-x-2)=b
   rw[show(4:Nat)=2*2 from rfl]
   ac_rfl
theorem nC (d:Int)(p N D h r H:Nat)(t:Int)(hD:0<D)(hp:0<p)(hp53:p<=53)(hN:N=h*D+r)(hr:r<D)(hH:H=2*h+(if r=0 then 0 else 1))(hbig:r=0∨36028797018963968<=h):rV d p (2*N) D t=rV d p H 1 t:=jG d p N D h r H t hD hp hp53 hN hr hH (by omega)
theorem zr (d:Int)(p A B:Nat)(hA:0<A)(h:2*A<B):rU d p A B=if d=1 then 1 else 0:=by
 have b:rE p A B=0:=by unfold rE;rw[bh (by omega),cP];omega
 unfold rU rS rR
 rw[b,aB,aG,aG,bh (by omega),aX (by omega)]
 unfold fw
 by_cases a:d=1
 ·rw[if_pos a,if_pos a,af hA];rfl
 ·rw[if_neg a,if_neg a]
  by_cases c2:d = -1
  ·rw[if_pos c2];rfl
  ·rw[if_neg c2,ae (by omega),ae (by omega)];rfl
theorem zt (d:Int)(p A B T:Nat)(hB:0<B)(hp:0<p)(hT:p<=T)(h:B*2^T<=A):T<aq (rU d p A B):=by
 obtain⟨j,a⟩:=iu p A B hB hp
 obtain⟨E,b⟩:=aA (rE p A B)
 have g:0<B*2^E:=aQ hB (aP (by omega))
 rw[<-b]at j a
 have f:T<E+p:=by
  by_cases c:T<E+p
  ·exact c
  ·exfalso
   have:B*2^(E+p)<=B*2^T:=aR _ (al (by omega) (by omega))
   omega
 have k:2^(T-E)<=A/(B*2^E):=by
  rw[bj g,aZ,<-ag]
  by_cases c:E<=T
  ·rw[show T-E+E=T from by omega];exact h
  ·rcases a with a|a
   ·omega
   ·refine aT (aR _ (al (by omega) (by omega))) a
 by_cases c:aq (rU d p A B)<=T
 ·exfalso
  rw[ay]at c
  unfold rU rS at c
  rw[<-b]at c
  have i:2^(T-E)*2^E<=(A/(B*2^E)+(fw d (A/(B*2^E)) (rR p A B) (B*2^E)).toNat)*2^E:=ai _ (by omega)
  rw[<-ag]at i
  have l:(2:Nat)^T<=2^(T-E+E):=al (by omega) (by omega)
  omega
 ·omega
def yw:Nat->Code->Code
 | 0,c=>c
 | k+1,.seq _ b=>yw k b
 | _+1,c=>c
theorem Cp (P MO Kv T G k0 Y n m U sig wq rq E M:Nat)(dm e f:Int)(neg up:Bool)(hP:P<=53)(hT:T+k0<=2098)(hk:k0+Kv=1074)(hMO:MO<=1023)
  (hU:U=sig*2^E)(hw:wq<2^P)(hs:sig<=2^P)(hb:aq U<=T ↔ ¬(sig=2^P∧(MO:Int)<e+(P:Int)))(hup:up=fw dm wq rq M)(hsig:sig=wq+up.toNat)(hE:(E:Int)=e+(Kv:Int))(he:e=max (f-(P:Int)+1) (-(Kv:Int)))(hf:f<=(MO:Int))
  (hY:Y=gO neg (if aq U<=T then fk 53 (U*2^k0) else if dm = -1 then G else 9218868437227405312))(_h:n=n∧m=m) :
  ((sig=2^P∧(MO:Int)<e+(P:Int))->Y=gO neg 9218868437227405312)∧(¬(sig=2^P∧(MO:Int)<e+(P:Int))->Y=gO neg (fk 53 (sig*2^(e+1074).toNat))∧aq (sig*2^(e+1074).toNat)<=2098)∧sig<=9007199254740992∧-1074<=e∧e<5000:=by
 have g:(2:Nat)^P<=9007199254740992:=by
  have:(2:Nat)^P<=2^53:=al (by omega) hP
  rw[show(2:Nat)^53=9007199254740992 from by decide]at this
  exact this
 refine⟨?_, ?_,by omega,by omega,by omega⟩
 ·intro h
  have b:¬aq U<=T:=fun a=>hb.1 a h
  rw[hY,if_neg b,if_neg]
  intro d
  have a:up=true:=by
   cases up
   ·simp at hsig;omega
   ·rfl
  rw[hup]at a
  unfold fw at a
  rw[if_neg (by omega),if_pos d]at a
  cases a
 ·intro h
  have b:aq U<=T:=hb.2 h
  have i:sig*2^(e+1074).toNat=U*2^k0:=by
   rw[hU,ak,<-ag]
   exact congrArg (fun x=>sig*2^x) (by omega)
  rw[hY,if_pos b,i]
  refine⟨rfl, ?_⟩
  by_cases c:U=0
  ·rw[c,aM,cP];omega
  ·rw[du _ _ c];omega
theorem qV (d:Int)(A B:Nat)(t:Int)(hB:0<B)(h:B*2^(-t).toNat*2^2098<=A*2^t.toNat):dK 53 2098 9218868437227405311 9218868437227405312 d (rV d 53 A B t)=if d = -1 then 9218868437227405311 else 9218868437227405312:=by
 have:=zt d 53 (A*2^t.toNat) (B*2^(-t).toNat) 2098 (aQ hB (aP (by omega))) (by omega) (by omega) h
 unfold dK rV
 rw[if_neg (by omega)]
theorem qU (d:Int)(A B:Nat)(t:Int)(hA:0<A)(h:2*(A*2^t.toNat)<B*2^(-t).toNat):rV d 53 A B t=if d=1 then 1 else 0:=by
 unfold rV
 exact zr d 53 _ _ (aQ hA (aP (by omega))) h
theorem qR (A B T:Nat)(t:Int)(hA:A≠0)(hB:B≠0)(h:(T:Int)+1<=(aq A:Int)-aq B+t):B*2^(-t).toNat*2^T<=A*2^t.toNat:=by
 obtain⟨a,d,g⟩:=cK A hA
 obtain⟨c,b,i⟩:=cK B hB
 have j:B*2^(-t).toNat*2^T<=2^aq B*2^(-t).toNat*2^T:=ai _ (ai _ (bO b))
 have f:2^(aq A-1)*2^t.toNat<=A*2^t.toNat:=ai _ a
 have k:(2:Nat)^aq B*2^(-t).toNat*2^T<=2^(aq A-1)*2^t.toNat:=by
  rw[<-ag,<-ag,<-ag]
  exact al (by omega) (by omega)
 omega
theorem pP (A B:Nat)(t:Int)(hA:A≠0)(hB:B≠0)(h:(aq A:Int)-aq B+t+2<=0):2*(A*2^t.toNat)<B*2^(-t).toNat:=by
 obtain⟨d,b,f⟩:=cK A hA
 obtain⟨a,g,i⟩:=cK B hB
 have j:2^(aq B-1)*2^(-t).toNat<=B*2^(-t).toNat:=ai _ a
 have c:A*2^t.toNat<2^aq A*2^t.toNat:=am b (aP (by omega))
 have k:2*(2^aq A*2^t.toNat)<=2^(aq B-1)*2^(-t).toNat:=by
  rw[<-ag,<-Nat.pow_succ',<-ag]
  exact al (by omega) (by omega)
 omega
theorem nR (d:Int)(A B A' B':Nat)(t t':Int)(hA:A≠0)(hB:B≠0)(hA':A'≠0)(hB':B'≠0)
  (h:(2099<=(aq A:Int)-aq B+t∧2099<=(aq A':Int)-aq B'+t')∨((aq A:Int)-aq B+t+2<=0∧(aq A':Int)-aq B'+t'+2<=0)) :
  dK 53 2098 9218868437227405311 9218868437227405312 d (rV d 53 A B t)=dK 53 2098 9218868437227405311 9218868437227405312 d (rV d 53 A' B' t'):=by
 rcases h with⟨h1,h2⟩|⟨h1,h2⟩
 ·rw[qV d A B t (by omega) (qR A B 2098 t hA hB (by omega)),qV d A' B' t' (by omega) (qR A' B' 2098 t' hA' hB' (by omega))]
 ·rw[qU d A B t (by omega) (pP A B t hA hB h1),qU d A' B' t' (by omega) (pP A' B' t' hA' hB' h2)]
theorem uO (M b:Nat)(hb:0<b):2*M/b=2*(M/b)+2*(M%b)/b∧2*M%b=2*(M%b)%b:=by
 have h:=bU M b
 have e:2*M=2*(M%b)+b*(2*(M/b)):=by
  rw[aZ b 2 (M/b)];omega
 constructor
 ·rw[e,eT _ _ hb];omega
 ·rw[e,dA]
theorem xt (r b:Nat)(hr:r<b):(r<b-r->2*r/b=0∧2*r%b=r+r)∧(¬r<b-r->2*r/b=1∧2*r%b=r-(b-r)):=by
 constructor
 ·intro h
  exact⟨bh (by omega),by rw[aX (by omega)];omega⟩
 ·intro h
  have e:2*r=(2*r-b)+b*1:=by omega
  constructor
  ·rw[e,eT _ _ (by omega),bh (by omega)]
  ·rw[e,dA,aX (by omega)];omega
theorem jg (a b u v:Nat)(ha:a≠0)(hb:b≠0)(h:aq a+u=aq b+v+56):36028797018963968<=a*2^u/(b*2^v)∧a*2^u/(b*2^v)<144115188075855872:=by
 obtain⟨j,i,k⟩:=cK a ha
 obtain⟨g,l,m⟩:=cK b hb
 have d:0<b*2^v:=aQ (by omega) (aP (by omega))
 have f:(2:Nat)^(aq a-1)*2^u=2^55*(2^aq b*2^v):=by
  rw[<-ag,<-ag,<-ag,show aq a-1+u=55+(aq b+v)from by omega]
 have c:(2:Nat)^aq a*2^u=2^57*(2^(aq b-1)*2^v):=by
  rw[<-ag,<-ag,<-ag,show aq a+u=57+(aq b-1+v)from by omega]
 rw[show(2:Nat)^55=36028797018963968 from by decide]at f
 rw[show(2:Nat)^57=144115188075855872 from by decide]at c
 constructor
 ·rw[bj d]
  calc 36028797018963968*(b*2^v)<=36028797018963968*(2^aq b*2^v):=aR _ (ai _ (by omega))
   _=2^(aq a-1)*2^u:=f.symm
   _<=a*2^u:=ai _ j
 ·rw[bz d]
  calc a*2^u<2^aq a*2^u:=am i (aP (by omega))
   _=144115188075855872*(2^(aq b-1)*2^v):=c
   _<=144115188075855872*(b*2^v):=aR _ (ai _ g)
theorem wV (d:Int)(a b u v h H:Nat)(t:Int)(ha:a≠0)(hb:b≠0)(hl:aq a+u=aq b+v+56)(hh:h=a*2^u/(b*2^v))(hH:H=2*h+(if a*2^u%(b*2^v)=0 then 0 else 1)):rV d 53 H 1 (t-(u:Int)+(v:Int)-1)=rV d 53 a b t:=by
 have c:0<b*2^v:=aQ (by omega) (aP (by omega))
 have q:=jg a b u v ha hb hl
 rw[<-hh]at q
 rw[<-nC d 53 (a*2^u) (b*2^v) h (a*2^u%(b*2^v)) H _ c (by omega) (by omega) (by rw[hh];exact(Nat.div_add_mod' _ _).symm) (bZ _ c) hH (Or.inr q.1)]
 rw[show 2*(a*2^u)=a*2^(u+1)from by rw[aF];rw[ap 2,ak]]
 rw[jD d 53 a (b*2^v) (u+1) _ c,ju d 53 a b v _ (by omega)]
 congr 1
 omega
end Go.Proofs.YtmpjcknaelgnoaaGreatDoor
