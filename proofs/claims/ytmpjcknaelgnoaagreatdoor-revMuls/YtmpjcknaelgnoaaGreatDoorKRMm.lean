import Derived.Test.YtmpjcknaelgnoaaGreatDoorKRMe
namespace Go.Proofs.YtmpjcknaelgnoaaGreatDoor
open Go.RowKit
set_option linter.all false
def rB (K:Nat)(p q:Int):Bd9:=jc (iz p) (Vz p) (2^K) (iz q) (Vz q) (2^K)
theorem gF (x:Int)(h:0<x):0<vZ x:=by have:=jQ 0 x h;rw[dI]at this;exact this
theorem lE (x:Int)(h:x<0):vZ x<0:=by have:=jQ x 0 h;rw[dI]at this;exact this
theorem lW (z:Int)(h:-9218868437227405312<z∧z<9218868437227405312):iz z=0∧Vz z=vZ z:=Dq z (by omega)
theorem xV:iz 9218868437227405312=1∧Vz 9218868437227405312=0:=by
 have h:=xW 9218868437227405312 (by decide)
 rcases h.1 with g|g
 ·exact⟨g.2,h.2⟩
 ·exact absurd g.1 (by decide)
theorem Ah:iz (-9218868437227405312) = -1∧Vz (-9218868437227405312)=0:=by
 have h:=xW (-9218868437227405312) (by decide)
 rcases h.1 with g|g
 ·exact absurd g.1 (by decide)
 ·exact⟨g.2,h.2⟩
theorem iT (p:Int)(h:dl p):(p=0->jW (iz p) (Vz p)=0)∧(0<p->jW (iz p) (Vz p)=1)∧(p<0->jW (iz p) (Vz p) = -1):=by
 unfold dl at h
 by_cases a:p=9218868437227405312
 ·subst a;rw[xV.1,xV.2];decide
 ·by_cases c2:p = -9218868437227405312
  ·subst c2;rw[Ah.1,Ah.2];decide
  ·have e:=lW p (by omega)
   rw[e.1,e.2]
   unfold jW
   rw[if_pos rfl]
   refine⟨fun g=>?_,fun g=>?_,fun g=>?_⟩
   ·rw[g,dI];exact jL 0
   ·exact eK _ _ (gF p g)
   ·exact fc _ _ (lE p g)
theorem ws (p:Int)(h:dl p)(hp:p≠0):jW (iz p) (Vz p)≠0:=by
 have:=iT p h
 rcases Int.lt_or_lt_of_ne hp with g|g
 ·rw[this.2.2 g];decide
 ·rw[this.2.1 g];decide
theorem jH (K:Nat)(q:Int):rB K 0 q=⟨0,0,1,false⟩:=by
 unfold rB jc
 rw[if_pos ((iT 0 (by unfold dl;omega)).1 rfl)]
theorem nj (K:Nat)(p:Int)(h:dl p)(hp:p≠0):rB K p 9218868437227405312=⟨0,0,1,true⟩:=by
 unfold rB jc
 rw[if_neg (ws p h hp),if_pos (by rw[xV.1];decide)]
theorem mH (K:Nat)(p q:Int)(h:dl p)(hp:p≠0)(hq:0<=q∧q<9218868437227405312)(c:p=9218868437227405312∨p = -9218868437227405312∨q=0):rB K p q=⟨if 0<p then 1 else -1,0,1,true⟩:=by
 unfold rB jc
 have e:=lW q (by omega)
 rw[if_neg (ws p h hp),if_neg (by rw[e.1];decide),if_pos ?_]
 ·have s:=iT p h
  by_cases g:0<p
  ·rw[if_pos g,s.2.1 g]
  ·rw[if_neg g,s.2.2 (by omega)]
 ·rcases c with c|c|c
  ·left;rw[c,xV.1];decide
  ·left;rw[c,Ah.1];decide
  ·right;rw[e.2,c,dI]
theorem je (K:Nat)(p q:Int)(h:-9218868437227405312<p∧p<9218868437227405312)(hp:p≠0)(hq:0<q∧q<9218868437227405312):rB K p q=⟨0,vZ p*((2^K:Nat):Int),2^K*(vZ q).natAbs,false⟩:=by
 unfold rB jc
 have e:=lW q (by omega)
 have a:=lW p (by omega)
 rw[if_neg (ws p (by unfold dl;omega) hp),if_neg (by rw[e.1];decide),if_neg ?_,a.2,e.2]
 rw[a.1,e.2]
 have:=gF q hq.1
 omega
def yO (K:Nat)(v:Int)(A:Bd9):Prop:=0<cA K v A∨(cA K v A=0∧A.o=false)
def yN (K:Nat)(v:Int)(B:Bd9):Prop:=cA K v B<0∨(cA K v B=0∧B.o=false)
theorem iK (K:Nat)(v:Int)(A B:Bd9):lV K v A B ↔ yO K v A∧yN K v B:=Iff.rfl
theorem qP (K:Nat)(v:Int)(hv:-9218868437227405312<v∧v<9218868437227405312):(yO K v ⟨0,0,1,false⟩ ↔ 0<=v)∧(yN K v ⟨0,0,1,false⟩ ↔ v<=0)∧(yO K v ⟨0,0,1,true⟩ ↔ 0<v)∧(yN K v ⟨0,0,1,true⟩ ↔ v<0):=by
 unfold yO yN
 have e:∀o:Bool,cA K v ⟨0,0,1,o⟩=eh (vZ v) 0:=fun o=>by
  rw[pC K v _ hv rfl]
  show eh (vZ v*((1:Nat):Int)) (0*_)=_
  rw[bV,show vZ v*((1:Nat):Int)=vZ v from Int.mul_one _]
 rw[e,e]
 rcases bw v 0 with g|g|g
 ·rw[fc _ _ (lE v g)];simp;omega
 ·rw[g,dI,jL];simp
 ·rw[eK _ _ (gF v g)];simp;omega
theorem yd (K:Nat)(v:Int)(hv:-9218868437227405312<v∧v<9218868437227405312):yO K v ⟨-1,0,1,true⟩∧yN K v ⟨1,0,1,true⟩:=by
 unfold yO yN
 rw[nW K v _ (by decide),nW K v _ (by decide)]
 constructor
 ·left;show 0<eh v (-1*9218868437227405312);rw[eK _ _ (by omega)];decide
 ·left;show eh v (1*9218868437227405312)<0;rw[fc _ _ (by omega)];decide
theorem qQ (K:Nat)(v p q:Int)(hv:-9218868437227405312<v∧v<9218868437227405312)(hq:0<q):(yO K v ⟨0,vZ p*((2^K:Nat):Int),2^K*(vZ q).natAbs,false⟩ ↔ vZ p*((2^K:Nat):Int)<=vZ v*vZ q)∧(yN K v ⟨0,vZ p*((2^K:Nat):Int),2^K*(vZ q).natAbs,false⟩ ↔ vZ v*vZ q<=vZ p*((2^K:Nat):Int)):=by
 have a:(0:Int)<((2^K:Nat):Int):=by have:=ah K;omega
 have qv:=gF q hq
 have e:cA K v ⟨0,vZ p*((2^K:Nat):Int),2^K*(vZ q).natAbs,false⟩=eh (vZ v*vZ q) (vZ p*((2^K:Nat):Int)):=by
  rw[pC K v _ hv rfl]
  show eh (vZ v*((2^K*(vZ q).natAbs:Nat):Int)) (vZ p*((2^K:Nat):Int)*((2^K:Nat):Int))=_
  rw[aK,show(((vZ q).natAbs:Nat):Int)=vZ q by omega,show vZ v*(((2^K:Nat):Int)*vZ q)=vZ v*vZ q*((2^K:Nat):Int)from by ac_rfl]
  generalize vZ v*vZ q=x
  generalize vZ p*((2^K:Nat):Int)=y
  have c:x<y->x*((2^K:Nat):Int)<y*((2^K:Nat):Int):=fun h=>bW h a
  have b:y<x->y*((2^K:Nat):Int)<x*((2^K:Nat):Int):=fun h=>bW h a
  rcases cZ x y with g|g|g
  ·rw[g.2,fc _ _ (c g.1)]
  ·rw[g.1,jL,jL]
  ·rw[g.2,eK _ _ (b g.1)]
 unfold yO yN
 rw[e]
 generalize vZ v*vZ q=x
 generalize vZ p*((2^K:Nat):Int)=y
 rcases cZ x y with g|g|g<;>rw[g.2]<;>simp<;>omega
def iV (K:Nat)(v q:Int):Int:=if v=0∨q=0 then 0 else if q=9218868437227405312∨q = -9218868437227405312 then (if (0<v ↔ 0<q) then 9218868437227405312 else -9218868437227405312) else gE 1 1 (2^K) (vZ v*vZ q)
def fI (K:Nat)(v bL bH cL cH:Int):Prop:=min (iV K v bL) (iV K v bH)<=cH∧min (iV K (-v) bL) (iV K (-v) bH)<=-cL
instance (K:Nat) (v bL bH cL cH:Int):Decidable (fI K v bL bH cL cH):=by unfold fI;infer_instance
theorem kQ (K:Nat)(v q:Int):iV K (-v) q=iV K v (-q):=by
 unfold iV
 by_cases a:v=0∨q=0
 ·rw[if_pos (show -v=0∨q=0 by omega),if_pos (show v=0∨-q=0 by omega)]
 ·rw[if_neg (show ¬(-v=0∨q=0)by omega),if_neg (show ¬(v=0∨-q=0)by omega)]
  by_cases c2:q=9218868437227405312∨q = -9218868437227405312
  ·rw[if_pos c2,if_pos (show -q=9218868437227405312∨-q = -9218868437227405312 by omega)]
   by_cases c3:(0 < -v ↔ 0<q)
   ·rw[if_pos c3,if_pos (show(0<v ↔ 0 < -q)by omega)]
   ·rw[if_neg c3,if_neg (show ¬(0<v ↔ 0 < -q)by omega)]
  ·rw[if_neg c2,if_neg (show ¬(-q=9218868437227405312∨-q = -9218868437227405312)by omega),gG,gG,bF,Int.mul_neg]
theorem Av (K:Nat)(v bL bH cL cH:Int):fI K v (-bH) (-bL) (-cH) (-cL) ↔ fI K v bL bH cL cH:=by
 unfold fI
 rw[<-kQ,<-kQ,<-kQ,<-kQ,eW,eW,Int.min_comm (iV K (-v) bH),Int.min_comm (iV K v bH)]
 exact And.comm
theorem tU (K:Nat)(v bL bH cL cH:Int):fI K (-v) bL bH (-cH) (-cL) ↔ fI K v bL bH cL cH:=by
 unfold fI
 rw[eW,eW]
 exact And.comm
def nd (K:Nat)(v q c:Int):Prop:=q = -9218868437227405312∨c=9218868437227405312∨(q≠9218868437227405312∧vZ v*vZ q<=vZ c*((2^K:Nat):Int))
theorem oq (K:Nat)(v q c:Int)(hv:0<v)(hq:dl q)(hc:-9218868437227405312<c∧c<=9218868437227405312):iV K v q<=c ↔ nd K v q c:=by
 unfold iV nd
 unfold dl at hq
 by_cases a:q=0
 ·subst a
  rw[if_pos (Or.inr rfl),dI,Int.mul_zero]
  have b:(0:Int)<((2^K:Nat):Int):=by have:=ah K;omega
  constructor
  ·intro h
   exact Or.inr (Or.inr ⟨by decide,b8 (gw c h) (by omega)⟩)
  ·rintro(h|h|⟨-,h⟩)
   ·omega
   ·omega
   ·rcases cC c 0 with g|g
    ·have:=bQ (lE c g) b;omega
    ·exact g
 ·rw[if_neg (by omega)]
  by_cases c2:q=9218868437227405312∨q = -9218868437227405312
  ·rw[if_pos c2]
   rcases c2 with c2|c2
   ·subst c2
    rw[if_pos (by omega)]
    constructor
    ·intro h;exact Or.inr (Or.inl (by omega))
    ·rintro(h|h|h)
     ·omega
     ·omega
     ·exact absurd rfl h.1
   ·subst c2
    rw[if_neg (by omega)]
    constructor
    ·intro h;exact Or.inl rfl
    ·intro h;omega
  ·rw[if_neg c2]
   by_cases c3:c=9218868437227405312
   ·subst c3
    have:=(gS 1 1 (2^K) (vZ v*vZ q)).2
    constructor
    ·intro h;exact Or.inr (Or.inl rfl)
    ·intro h;exact this
   ·have:=Aw 1 (2^K) (ah K) (vZ v*vZ q) c (by omega)
    rw[this,show(vZ v*vZ q*((1:Nat):Int))=vZ v*vZ q from Int.mul_one _]
    constructor
    ·intro h;exact Or.inr (Or.inr ⟨by omega,h⟩)
    ·rintro(h|h|h)
     ·omega
     ·omega
     ·exact h.2
theorem qM (K:Nat)(v q r c:Int)(hv:0<v)(hq:-9218868437227405312<=q∧q<=r∧r<=9218868437227405312)(h:nd K v r c):nd K v q c:=by
 unfold nd at *
 rcases h with h|h|⟨h1,h⟩
 ·left;omega
 ·right;left;exact h
 ·rcases(by omega:q = -9218868437227405312∨q≠9218868437227405312)with g|g
  ·left;exact g
  ·right;right
   refine⟨g,Int.le_trans (Int.mul_le_mul_of_nonneg_left (jR q r (by omega)) (gw v (by omega))) h⟩
theorem sl (K:Nat)(v bL bH cL cH:Int)(hv:0<v)(hb:VdZ bL bH)(nb:bL≠9218868437227405312)(hc:VdZ cL cH)(nc:cL≠9218868437227405312):fI K v bL bH cL cH ↔ nd K v bL cH∧nd K v (-bH) (-cL):=by
 unfold VdZ at hb hc
 unfold fI
 rw[kQ,kQ]
 have a:=oq K v bL cH hv (by unfold dl;omega) (by omega)
 have i:=oq K v bH cH hv (by unfold dl;omega) (by omega)
 have h:=oq K v (-bL) (-cL) hv (by unfold dl;omega) (by omega)
 have c:=oq K v (-bH) (-cL) hv (by unfold dl;omega) (by omega)
 have f:=qM K v bL bH cH hv (by omega)
 have j:=qM K v (-bH) (-bL) (-cL) hv (by omega)
 constructor
 ·rintro⟨d,b⟩
  constructor
  ·rcases(by omega:iV K v bL<=cH∨iV K v bH<=cH)with g|g
   ·exact a.1 g
   ·exact f (i.1 g)
  ·rcases(by omega:iV K v (-bL)<=-cL∨iV K v (-bH)<=-cL)with g|g
   ·exact j (h.1 g)
   ·exact c.1 g
 ·rintro⟨d,b⟩
  have:=a.2 d
  have:=c.2 b
  omega
theorem vW (K:Nat)(q:Int):iV K 0 q=0:=by unfold iV;rw[if_pos (Or.inl rfl)]
theorem yk (K:Nat)(bL bH cL cH:Int):fI K 0 bL bH cL cH ↔ cL<=0∧0<=cH:=by
 unfold fI
 rw[Int.neg_zero,vW,vW]
 omega
def qA (K:Nat)(cL bL bH:Int):Bd9:=if 0<cL then rB K cL bH else rB K cL (max bL 0)
def qB (K:Nat)(cH bL bH:Int):Bd9:=if cH<0 then rB K cH bH else rB K cH (max bL 0)
def iw (K:Nat)(cL cH bL bH:Int):Pc9:=⟨decide (cL=9218868437227405312∨bL=9218868437227405312∨bH<=0),qA K cL bL bH,qB K cH bL bH⟩
theorem tA (K:Nat)(p q:Int)(h:dl p)(hq:0<=q∧q<=9218868437227405312):rB K (-p) q=(rB K p q).ng:=by
 have c:=h
 unfold dl at c
 by_cases a:p=0
 ·subst a
  rw[Int.neg_zero,jH];rfl
 ·by_cases b:q=9218868437227405312
  ·subst b
   rw[nj K p h a,nj K (-p) (by unfold dl;omega) (by omega)];rfl
  ·by_cases c2:p=9218868437227405312∨p = -9218868437227405312∨q=0
   ·rw[mH K p q h a (by omega) c2,mH K (-p) q (by unfold dl;omega) (by omega) (by omega) (by omega)]
    by_cases c3:0<p
    ·rw[if_pos c3,if_neg (by omega)];rfl
    ·rw[if_neg c3,if_pos (by omega)];rfl
   ·rw[je K p q (by omega) a (by omega),je K (-p) q (by omega) (by omega) (by omega),gG]
    unfold Bd9.ng
    simp[bF]
theorem Bd9.ng_ng (A:Bd9):A.ng.ng=A:=by
 obtain⟨i,V,C,o⟩:=A
 unfold Bd9.ng
 simp
theorem wY (K:Nat)(c bL bH:Int)(h:dl c)(hb:bL<=9218868437227405312)(h2:0<bH∧bH<=9218868437227405312):qA K (-c) bL bH=(qB K c bL bH).ng:=by
 unfold qA qB
 by_cases a:c<0
 ·rw[if_pos a,if_pos (by omega)];exact tA K c bH h (by omega)
 ·rw[if_neg a,if_neg (by omega)];exact tA K c _ h (by omega)
theorem wW (K:Nat)(c bL bH:Int)(h:dl c)(hb:bL<=9218868437227405312)(h2:0<bH∧bH<=9218868437227405312):qB K (-c) bL bH=(qA K c bL bH).ng:=by
 unfold qA qB
 by_cases a:0<c
 ·rw[if_pos a,if_pos (by omega)];exact tA K c bH h (by omega)
 ·rw[if_neg a,if_neg (by omega)];exact tA K c _ h (by omega)
theorem BN (K:Nat)(v:Int)(A:Bd9)(hv:-9218868437227405312<v∧v<9218868437227405312):cA K (-v) A.ng = -(cA K v A):=by
 have a:∀x y:Int,eh (-x) (-y) = -(eh x y):=fun x y=>by
  rcases cZ x y with g|g|g<;>rcases cZ (-x) (-y)with h|h|h<;>omega
 by_cases c:A.i=0
 ·rw[pC K v A hv c,pC K (-v) A.ng (by omega) (by show -A.i=0;omega)]
  show eh (vZ (-v)*(A.C:Int)) (-A.V*_)=_
  rw[gG,bF,bF]
  exact a _ _
 ·rw[nW K v A c,nW K (-v) A.ng (by show -A.i≠0;omega)]
  show eh (-v) (-A.i*_)=_
  rw[bF]
  exact a _ _
theorem zY (K:Nat)(v:Int)(A B:Bd9)(hv:-9218868437227405312<v∧v<9218868437227405312):lV K (-v) B.ng A.ng ↔ lV K v A B:=by
 unfold lV
 rw[BN K v A hv,BN K v B hv]
 show(0 < -(cA K v B)∨-(cA K v B)=0∧B.o=false)∧(-(cA K v A)<0∨-(cA K v A)=0∧A.o=false) ↔ _
 constructor
 ·rintro⟨a,b⟩
  refine⟨?_, ?_⟩
  ·rcases b with h|h
   ·left;omega
   ·right;exact⟨by omega,h.2⟩
  ·rcases a with h|h
   ·left;omega
   ·right;exact⟨by omega,h.2⟩
 ·rintro⟨a,b⟩
  refine⟨?_, ?_⟩
  ·rcases b with h|h
   ·left;omega
   ·right;exact⟨by omega,h.2⟩
  ·rcases a with h|h
   ·left;omega
   ·right;exact⟨by omega,h.2⟩
def mQ (K:Nat)(v cL cH bL bH:Int):Prop:=0<bH∧lV K v (qA K cL bL bH) (qB K cH bL bH)
theorem Bs (K:Nat)(v cL cH bL bH:Int)(hv:-9218868437227405312<v∧v<9218868437227405312)(hc:dl cL∧dl cH)(hb:bL<=9218868437227405312∧bH<=9218868437227405312):mQ K (-v) (-cH) (-cL) bL bH ↔ mQ K v cL cH bL bH:=by
 unfold mQ
 by_cases h:0<bH
 ·rw[wY K cH bL bH hc.2 hb.1 ⟨h,hb.2⟩,wW K cL bL bH hc.1 hb.1 ⟨h,hb.2⟩,zY K v _ _ hv]
 ·constructor
  ·intro g;exact absurd g.1 h
  ·intro g;exact absurd g.1 h
theorem Dy (K:Nat)(v p q:Int)(hv:0<v∧v<9218868437227405312)(hp:0<p∧p<9218868437227405312)(hq:0<q∧q<=9218868437227405312):yO K v (rB K p q) ↔ nd K v (-q) (-p):=by
 have a:-9218868437227405312<v∧v<9218868437227405312:=by omega
 unfold nd
 by_cases c:q=9218868437227405312
 ·subst c
  rw[nj K p (by unfold dl;omega) (by omega),(qP K v a).2.2.1]
  constructor
  ·intro _;exact Or.inl rfl
  ·intro _;exact hv.1
 ·rw[je K p q (by omega) (by omega) (by omega),(qQ K v p q a hq.1).1,gG,gG,Int.mul_neg,bF]
  constructor
  ·intro h;exact Or.inr (Or.inr ⟨by omega,by omega⟩)
  ·rintro(h|h|h)
   ·omega
   ·omega
   ·omega
theorem ye (K:Nat)(v p q:Int)(hv:0<v∧v<9218868437227405312)(hp:0<p∧p<=9218868437227405312)(hq:q<9218868437227405312∧-9218868437227405312<=q):yN K v (rB K p (max q 0)) ↔ nd K v q p:=by
 have a:-9218868437227405312<v∧v<9218868437227405312:=by omega
 have b:(0:Int)<((2^K:Nat):Int):=by have:=ah K;omega
 by_cases c:p=9218868437227405312∨q<=0
 ·rw[mH K p (max q 0) (by unfold dl;omega) (by omega) (by omega) (by omega),if_pos hp.1]
  constructor
  ·intro _
   unfold nd
   by_cases c2:q = -9218868437227405312
   ·exact Or.inl c2
   ·by_cases c3:p=9218868437227405312
    ·exact Or.inr (Or.inl c3)
    ·refine Or.inr (Or.inr ⟨by omega, ?_⟩)
     have f:vZ v*vZ q<=0:=Int.mul_nonpos_of_nonneg_of_nonpos (gw v (by omega)) (by have:=jR q 0 (by omega);rw[dI]at this;exact this)
     have d:=b8 (gw p (by omega)) (bT b)
     omega
  ·intro _;exact(yd K v a).2
 ·have e:max q 0=q:=by omega
  rw[e,je K p q (by omega) (by omega) (by omega),(qQ K v p q a (by omega)).2]
  unfold nd
  constructor
  ·intro h;exact Or.inr (Or.inr ⟨by omega,h⟩)
  ·rintro(h|h|h)
   ·omega
   ·omega
   ·exact h.2
theorem BC (K:Nat)(v cL cH bL bH:Int)(hv:0<v∧v<9218868437227405312)(hb:VdZ bL bH)(nb:bL≠9218868437227405312)(hc:VdZ cL cH)(nc:cL≠9218868437227405312)(h:0<cL):fI K v bL bH cL cH ↔ mQ K v cL cH bL bH∨mQ K v (-cH) (-cL) (-bH) (-bL):=by
 have d:=hb
 have b:=hc
 unfold VdZ at d b
 have j:(0:Int)<((2^K:Nat):Int):=by have:=ah K;omega
 rw[sl K v bL bH cL cH hv.1 hb nb hc nc]
 have i:¬mQ K v (-cH) (-cL) (-bH) (-bL):=by
  rintro⟨n,m⟩
  have a:=((iK K v _ _).1 m).2
  unfold qB at a
  rw[if_pos (by omega)]at a
  by_cases c:bL = -9218868437227405312
  ·rw[c,eW,nj K _ (by unfold dl;omega) (by omega),(qP K v (by omega)).2.2.2]at a
   omega
  ·rw[je K _ _ (by omega) (by omega) (by omega),(qQ K v _ _ (by omega) (by omega)).2,gG cL,bF]at a
   have l:=b8 (gw v (by omega)) (gw (-bL) (by omega))
   have k:=dj (gF cL h) j
   omega
 by_cases f:0<bH
 ·have e:mQ K v cL cH bL bH ↔ nd K v (-bH) (-cL)∧nd K v bL cH:=by
   unfold mQ
   rw[iK]
   unfold qA qB
   rw[if_pos h,if_neg (by omega),Dy K v cL bH hv (by omega) (by omega),ye K v cH bL hv (by omega) (by omega)]
   constructor
   ·intro g;exact g.2
   ·intro g;exact⟨f,g⟩
  rw[e]
  constructor
  ·intro g;exact Or.inl ⟨g.2,g.1⟩
  ·rintro(g|g)
   ·exact⟨g.2,g.1⟩
   ·exact absurd g i
 ·constructor
  ·rintro⟨-,g⟩
   exfalso
   unfold nd at g
   rcases g with g|g|⟨-,g⟩
   ·omega
   ·omega
   ·rw[gG cL,bF]at g
    have l:=b8 (gw v (by omega)) (gw (-bH) (by omega))
    have k:=dj (gF cL h) j
    omega
  ·rintro(g|g)
   ·exact absurd g.1 f
   ·exact absurd g i
theorem BB (K:Nat)(v cL cH bL bH:Int)(hv:0<v∧v<9218868437227405312)(hb:VdZ bL bH)(nb:bL≠9218868437227405312)(hc:VdZ cL cH)(nc:cL≠9218868437227405312)(h:cL<=0∧0<=cH)(hb0:0<bL):fI K v bL bH cL cH ↔ mQ K v cL cH bL bH∨mQ K v (-cH) (-cL) (-bH) (-bL):=by
 have d:=hb
 have b:=hc
 unfold VdZ at d b
 have i:(0:Int)<((2^K:Nat):Int):=by have:=ah K;omega
 rw[sl K v bL bH cL cH hv.1 hb nb hc nc]
 have l:¬mQ K v (-cH) (-cL) (-bH) (-bL):=by rintro⟨p,q⟩;omega
 have o:nd K v (-bH) (-cL):=by
  unfold nd
  by_cases c:bH=9218868437227405312
  ·left;omega
  ·by_cases c2:cL = -9218868437227405312
   ·right;left;omega
   ·right;right
    refine⟨by omega, ?_⟩
    rw[gG bH,Int.mul_neg]
    have f:=b8 (gw v (by omega)) (gw bH (by omega))
    have m:=b8 (gw (-cL) (by omega)) (bT i)
    omega
 have e:mQ K v cL cH bL bH ↔ nd K v bL cH:=by
  unfold mQ
  rw[iK]
  unfold qA qB
  rw[if_neg (by omega),if_neg (by omega)]
  have j:max bL 0=bL:=by omega
  have n:yO K v (rB K cL (max bL 0)):=by
   rw[j]
   by_cases a:cL=0
   ·rw[a,jH,(qP K v (by omega)).1];omega
   ·by_cases c2:cL = -9218868437227405312
    ·rw[mH K cL bL (by unfold dl;omega) a (by omega) (Or.inr (Or.inl c2)),if_neg (by omega)]
     exact(yd K v (by omega)).1
    ·rw[je K cL bL (by omega) a (by omega),(qQ K v cL bL (by omega) hb0).1]
     have f:=b8 (gw v (by omega)) (gw bL (by omega))
     have m:=bQ (lE cL (by omega)) i
     omega
  have k:yN K v (rB K cH (max bL 0)) ↔ nd K v bL cH:=by
   by_cases a:cH=0
   ·rw[a,jH,(qP K v (by omega)).2.1]
    unfold nd
    rw[dI,bV]
    have f:=dj (gF v hv.1) (gF bL hb0)
    omega
   ·exact ye K v cH bL hv (by omega) (by omega)
  rw[k]
  constructor
  ·intro g;exact g.2.2
  ·intro g;exact⟨by omega,n,g⟩
 rw[e]
 constructor
 ·intro g;exact Or.inl g.1
 ·rintro(g|g)
  ·exact⟨g,o⟩
  ·exact absurd g l
theorem FB (K:Nat)(cL cH bL bH:Int)(hb:VdZ bL bH)(nb:bL≠9218868437227405312)(hc:VdZ cL cH)(nc:cL≠9218868437227405312)(h:0<cL∨(cL<=0∧0<=cH∧0<bL)):fI K 0 bL bH cL cH ↔ mQ K 0 cL cH bL bH∨mQ K 0 (-cH) (-cL) (-bH) (-bL):=by
 have j:=hb
 have f:=hc
 unfold VdZ at j f
 have d:(0:Int)<((2^K:Nat):Int):=by have:=ah K;omega
 rw[yk]
 rcases h with h|⟨h1,i,h3⟩
 ·constructor
  ·intro g;omega
  ·rintro(⟨g1,g2⟩|⟨g1,g2⟩)
   ·exfalso
    have a:=((iK K 0 _ _).1 g2).1
    unfold qA at a
    rw[if_pos h]at a
    by_cases c:bH=9218868437227405312
    ·rw[c,nj K _ (by unfold dl;omega) (by omega),(qP K 0 (by omega)).2.2.1]at a
     omega
    ·rw[je K _ _ (by omega) (by omega) (by omega),(qQ K 0 _ _ (by omega) (by omega)).1,dI,bV]at a
     have i:=dj (gF cL h) d
     omega
   ·exfalso
    have a:=((iK K 0 _ _).1 g2).2
    unfold qB at a
    rw[if_pos (by omega)]at a
    by_cases c:bL = -9218868437227405312
    ·rw[c,eW,nj K _ (by unfold dl;omega) (by omega),(qP K 0 (by omega)).2.2.2]at a
     omega
    ·rw[je K _ _ (by omega) (by omega) (by omega),(qQ K 0 _ _ (by omega) (by omega)).2,dI,bV,gG,bF]at a
     have i:=dj (gF cL h) d
     omega
 ·constructor
  ·intro _
   left
   refine⟨by omega,(iK K 0 _ _).2 ⟨?_, ?_⟩⟩
   ·unfold qA
    rw[if_neg (by omega),show max bL 0=bL by omega]
    by_cases b:cL=0
    ·rw[b,jH,(qP K 0 (by omega)).1];omega
    ·by_cases c2:cL = -9218868437227405312
     ·rw[mH K cL bL (by unfold dl;omega) b (by omega) (Or.inr (Or.inl c2)),if_neg (by omega)]
      exact(yd K 0 (by omega)).1
     ·rw[je K cL bL (by omega) b (by omega),(qQ K 0 cL bL (by omega) h3).1,dI,bV]
      exact bT (bQ (lE cL (by omega)) d)
   ·unfold qB
    rw[if_neg (by omega),show max bL 0=bL by omega]
    by_cases b:cH=0
    ·rw[b,jH,(qP K 0 (by omega)).2.1];omega
    ·by_cases c2:cH=9218868437227405312
     ·rw[mH K cH bL (by unfold dl;omega) b (by omega) (Or.inl c2),if_pos (by omega)]
      exact(yd K 0 (by omega)).2
     ·rw[je K cH bL (by omega) b (by omega),(qQ K 0 cH bL (by omega) h3).2,dI,bV]
      exact b8 (gw cH (by omega)) (bT d)
  ·intro _;exact⟨h1,i⟩
theorem BD (K:Nat)(v cL cH bL bH:Int)(hv:0<=v∧v<9218868437227405312)(hb:VdZ bL bH)(nb:bL≠9218868437227405312)(hc:VdZ cL cH)(nc:cL≠9218868437227405312)(h:¬(bL<=0∧0<=bH∧cL<=0∧0<=cH)):fI K v bL bH cL cH ↔ mQ K v cL cH bL bH∨mQ K v (-cH) (-cL) (-bH) (-bL):=by
 have g:=hb
 have b:=hc
 unfold VdZ at g b
 have c:VdZ (-bH) (-bL):=by unfold VdZ;omega
 have d:VdZ (-cH) (-cL):=by unfold VdZ;omega
 by_cases s:0<cL∨(cL<=0∧0<=cH∧0<bL)
 ·by_cases f:v=0
  ·subst f
   exact FB K cL cH bL bH hb nb hc nc s
  ·rcases s with s|⟨s1,s2,s3⟩
   ·exact BC K v cL cH bL bH (by omega) hb nb hc nc s
   ·exact BB K v cL cH bL bH (by omega) hb nb hc nc ⟨s1,s2⟩ s3
 ·have i:0 < -cH∨(-cH<=0∧0<=-cL∧0 < -bH):=by omega
  rw[<-Av K v bL bH cL cH,Or.comm]
  have a:∀x:Int,- -x=x:=fun x=>eW x
  by_cases f:v=0
  ·subst f
   have q:=FB K (-cH) (-cL) (-bH) (-bL) c (by omega) d (by omega) i
   rw[a,a,a,a]at q
   exact q
  ·rcases i with s|⟨s1,s2,s3⟩
   ·have q:=BC K v (-cH) (-cL) (-bH) (-bL) (by omega) c (by omega) d (by omega) s
    rw[a,a,a,a]at q
    exact q
   ·have q:=BB K v (-cH) (-cL) (-bH) (-bL) (by omega) c (by omega) d (by omega) ⟨s1,s2⟩ s3
    rw[a,a,a,a]at q
    exact q
theorem DC (K:Nat)(v cL cH bL bH:Int)(hv:-9218868437227405312<v∧v<9218868437227405312)(hb:VdZ bL bH)(nb:bL≠9218868437227405312)(hc:VdZ cL cH)(nc:cL≠9218868437227405312)(h:¬(bL<=0∧0<=bH∧cL<=0∧0<=cH)):fI K v bL bH cL cH ↔ mQ K v cL cH bL bH∨mQ K v (-cH) (-cL) (-bH) (-bL):=by
 by_cases c:0<=v
 ·exact BD K v cL cH bL bH (by omega) hb nb hc nc h
 ·have b:=hb
  have a:=hc
  unfold VdZ at b a
  have f:VdZ (-cH) (-cL):=by unfold VdZ;omega
  have q:=BD K (-v) (-cH) (-cL) bL bH (by omega) hb nb f (by omega) (by omega)
  rw[tU]at q
  rw[q]
  have d:=Bs K v cL cH bL bH hv (by unfold dl;omega) (by omega)
  have g:=Bs K v (-cH) (-cL) (-bH) (-bL) hv (by unfold dl;omega) (by omega)
  rw[d,g]
theorem Bd9.lb_ng {A:Bd9}(h:Ed A):Ec A.ng:=by
 obtain⟨c,a,b⟩:=h
 refine⟨?_,a,fun g=>b ?_⟩
 ·show -A.i=0∨-A.i=1;omega
 ·intro e;exact g (by show -A.i=0;omega)
theorem Bd9.ub_ng {A:Bd9}(h:Ec A):Ed A.ng:=by
 obtain⟨c,a,b⟩:=h
 refine⟨?_,a,fun g=>b ?_⟩
 ·show -A.i=0∨-A.i = -1;omega
 ·intro e;exact g (by show -A.i=0;omega)
theorem Pk9.ng {A B:Bd9}(h:Pk9 A B):Pk9 B.ng A.ng:=by
 obtain⟨a,b,c⟩:=h
 refine⟨Bd9.ub_ng b,Bd9.lb_ng a,fun g1 g2=>?_⟩
 have k:=c (by have:-A.i=0:=g2;omega) (by have:-B.i=0:=g1;omega)
 show -B.V*(A.C:Int) < -A.V*(B.C:Int)∨-B.V*(A.C:Int) = -A.V*(B.C:Int)∧B.o=false∧A.o=false
 rw[bF,bF]
 rcases k with k|⟨k1,k2,k3⟩
 ·left;omega
 ·right;exact⟨by omega,k3,k2⟩
theorem nU (K:Nat)(q:Int)(h:0<q):2^K*(vZ q).natAbs≠0:=by
 have b:=gF q h
 have a:=ah K
 exact dL (aQ a (by omega))
theorem Fa (K:Nat)(cL cH bL bH:Int)(hb:VdZ bL bH)(nb:bL≠9218868437227405312)(hc:VdZ cL cH)(nc:cL≠9218868437227405312)(h:0<bH)(s:0<cL∨(cL<=0∧0<=cH∧0<bL)):Pk9 (qA K cL bL bH) (qB K cH bL bH)∧((qA K cL bL bH).i=0∨(qA K cL bL bH).V=0)∧((qB K cH bL bH).i=0∨(qB K cH bL bH).V=0):=by
 unfold VdZ at hb hc
 have c:(0:Int)<((2^K:Nat):Int):=by have:=ah K;omega
 have o:∀q:Int,0<q->((2^K*(vZ q).natAbs:Nat):Int)=((2^K:Nat):Int)*vZ q:=fun q hq=>by
  have:=gF q hq
  rw[aK,show(((vZ q).natAbs:Nat):Int)=vZ q by omega]
 unfold qA qB
 rcases s with s|⟨s1,s2,s3⟩
 ·rw[if_pos s,if_neg (show ¬cH<0 by omega)]
  by_cases c2:cH=9218868437227405312∨bL<=0
  ·rw[mH K cH (max bL 0) (by unfold dl;omega) (by omega) (by omega) (by omega),if_pos (show 0<cH by omega)]
   by_cases b:bH=9218868437227405312
   ·rw[b,nj K cL (by unfold dl;omega) (by omega)]
    exact⟨⟨⟨Or.inl rfl,by decide,fun g=>absurd rfl g⟩,⟨Or.inr rfl,by decide,fun _=>rfl⟩,fun _ g=>absurd g (by decide)⟩,Or.inl rfl,Or.inr rfl⟩
   ·rw[je K cL bH (by omega) (by omega) (by omega)]
    exact⟨⟨⟨Or.inl rfl,nU K bH h,fun g=>absurd rfl g⟩,⟨Or.inr rfl,by decide,fun _=>rfl⟩,fun _ g=>absurd g (by decide)⟩,Or.inl rfl,Or.inr rfl⟩
  ·rw[show max bL 0=bL by omega,je K cH bL (by omega) (by omega) (by omega)]
   have d:(0:Int)<((2^K:Nat):Int)*vZ bL:=dj c (gF bL (by omega))
   have n:0<vZ cH*((2^K:Nat):Int):=dj (gF cH (by omega)) c
   by_cases b:bH=9218868437227405312
   ·rw[b,nj K cL (by unfold dl;omega) (by omega)]
    refine⟨⟨⟨Or.inl rfl,by decide,fun g=>absurd rfl g⟩,⟨Or.inl rfl,nU K bL (by omega),fun g=>absurd rfl g⟩,fun _ _=>Or.inl ?_⟩,Or.inl rfl,Or.inl rfl⟩
    show 0*_<vZ cH*((2^K:Nat):Int)*((1:Nat):Int)
    rw[bV,show vZ cH*((2^K:Nat):Int)*((1:Nat):Int)=vZ cH*((2^K:Nat):Int)from Int.mul_one _]
    exact n
   ·rw[je K cL bH (by omega) (by omega) (by omega)]
    refine⟨⟨⟨Or.inl rfl,nU K bH h,fun g=>absurd rfl g⟩,⟨Or.inl rfl,nU K bL (by omega),fun g=>absurd rfl g⟩,fun _ _=>?_⟩,Or.inl rfl,Or.inl rfl⟩
    show vZ cL*((2^K:Nat):Int)*((2^K*(vZ bL).natAbs:Nat):Int)<vZ cH*((2^K:Nat):Int)*((2^K*(vZ bH).natAbs:Nat):Int)∨vZ cL*((2^K:Nat):Int)*((2^K*(vZ bL).natAbs:Nat):Int)=vZ cH*((2^K:Nat):Int)*((2^K*(vZ bH).natAbs:Nat):Int)∧false=false∧false=false
    rw[o bL (by omega),o bH h]
    have f:vZ cL*((2^K:Nat):Int)<=vZ cH*((2^K:Nat):Int):=bN (jR cL cH (by omega)) (bT c)
    have k:((2^K:Nat):Int)*vZ bL<=((2^K:Nat):Int)*vZ bH:=Int.mul_le_mul_of_nonneg_left (jR bL bH (by omega)) (bT c)
    have p:=Int.mul_le_mul f k (bT d) (bT n)
    rcases Int.lt_or_eq_of_le p with g|g
    ·exact Or.inl g
    ·exact Or.inr ⟨g,rfl,rfl⟩
 ·rw[if_neg (show ¬0<cL by omega),if_neg (show ¬cH<0 by omega),show max bL 0=bL by omega]
  have j:∃V C,rB K cL bL=⟨0,V,C,false⟩∧V<=0∧C≠0∨rB K cL bL=⟨-1,0,1,true⟩:=by
   by_cases a:cL=0
   ·exact⟨0,1,Or.inl ⟨by rw[a,jH],by decide,by decide⟩⟩
   ·by_cases c2:cL = -9218868437227405312
    ·exact⟨0,1,Or.inr (by rw[mH K cL bL (by unfold dl;omega) a (by omega) (Or.inr (Or.inl c2)),if_neg (by omega)])⟩
    ·exact⟨_,_,Or.inl ⟨je K cL bL (by omega) a (by omega),bT (bQ (lE cL (by omega)) c),nU K bL s3⟩⟩
  have d:∃V C,rB K cH bL=⟨0,V,C,false⟩∧0<=V∧C≠0∨rB K cH bL=⟨1,0,1,true⟩:=by
   by_cases a:cH=0
   ·exact⟨0,1,Or.inl ⟨by rw[a,jH],by decide,by decide⟩⟩
   ·by_cases c2:cH=9218868437227405312
    ·exact⟨0,1,Or.inr (by rw[mH K cH bL (by unfold dl;omega) a (by omega) (Or.inl c2),if_pos (by omega)])⟩
    ·exact⟨_,_,Or.inl ⟨je K cH bL (by omega) a (by omega),b8 (gw cH (by omega)) (bT c),nU K bL s3⟩⟩
  obtain⟨V,C,j⟩:=j
  obtain⟨m,l,d⟩:=d
  rcases j with⟨e1,v1,b⟩|e1<;>rcases d with⟨e2,v2,c2⟩|e2<;>rw[e1,e2]
  ·refine⟨⟨⟨Or.inl rfl,b,fun g=>absurd rfl g⟩,⟨Or.inl rfl,c2,fun g=>absurd rfl g⟩,fun _ _=>?_⟩,Or.inl rfl,Or.inl rfl⟩
   show V*(l:Int)<m*(C:Int)∨V*(l:Int)=m*(C:Int)∧false=false∧false=false
   have f:V*(l:Int)<=0:=Int.mul_nonpos_of_nonpos_of_nonneg v1 (by omega)
   have k:0<=m*(C:Int):=b8 v2 (by omega)
   rcases Int.lt_or_eq_of_le (Int.le_trans f k)with g|g
   ·exact Or.inl g
   ·exact Or.inr ⟨g,rfl,rfl⟩
  ·exact⟨⟨⟨Or.inl rfl,b,fun g=>absurd rfl g⟩,⟨Or.inr rfl,by decide,fun _=>rfl⟩,fun _ g=>absurd g (by decide)⟩,Or.inl rfl,Or.inr rfl⟩
  ·exact⟨⟨⟨Or.inr rfl,by decide,fun _=>rfl⟩,⟨Or.inl rfl,c2,fun g=>absurd rfl g⟩,fun g _=>absurd g (by decide)⟩,Or.inr rfl,Or.inl rfl⟩
  ·exact⟨⟨⟨Or.inr rfl,by decide,fun _=>rfl⟩,⟨Or.inr rfl,by decide,fun _=>rfl⟩,fun g _=>absurd g (by decide)⟩,Or.inr rfl,Or.inr rfl⟩
theorem oS (K:Nat)(cL cH bL bH:Int)(hb:VdZ bL bH)(hc:VdZ cL cH)(h:¬(bL<=0∧0<=bH∧cL<=0∧0<=cH)):(iw K cL cH bL bH).ok:=by
 intro g
 have m:=of_decide_eq_false g
 have b:=hb
 have a:=hc
 unfold VdZ at b a
 show Pk9 (qA K cL bL bH) (qB K cH bL bH)∧((qA K cL bL bH).i=0∨(qA K cL bL bH).V=0)∧((qB K cH bL bH).i=0∨(qB K cH bL bH).V=0)
 by_cases s:0<cL∨(cL<=0∧0<=cH∧0<bL)
 ·exact Fa K cL cH bL bH hb (by omega) hc (by omega) (by omega) s
 ·have q:=Fa K (-cH) (-cL) bL bH hb (by omega) (by unfold VdZ;omega) (by omega) (by omega) (by omega)
  rw[wY K cH bL bH (by unfold dl;omega) (by omega) (by omega),wW K cL bL bH (by unfold dl;omega) (by omega) (by omega)]at q
  obtain⟨d,l,k⟩:=q
  have c:=d.ng
  rw[Bd9.ng_ng,Bd9.ng_ng]at c
  refine⟨c, ?_, ?_⟩
  ·have f:(qA K cL bL bH).ng.i = -(qA K cL bL bH).i:=rfl
   have j:(qA K cL bL bH).ng.V = -(qA K cL bL bH).V:=rfl
   omega
  ·have f:(qB K cH bL bH).ng.i = -(qB K cH bL bH).i:=rfl
   have j:(qB K cH bL bH).ng.V = -(qB K cH bL bH).V:=rfl
   omega
theorem CW (K:Nat)(cL cH bL bH:Int)(hb:VdZ bL bH)(hc:VdZ cL cH)(nc:cL≠9218868437227405312)(h:(iw K cL cH bL bH).em=false):(iw K cL cH bL bH).ng=iw K (-cH) (-cL) bL bH:=by
 have a:=of_decide_eq_false h
 unfold VdZ at hb hc
 unfold iw Pc9.ng
 simp only
 rw[wY K cH bL bH (by unfold dl;omega) (by omega) (by omega),wW K cL bL bH (by unfold dl;omega) (by omega) (by omega),ae (show ¬(cL=9218868437227405312∨bL=9218868437227405312∨bH<=0)by omega),ae (show ¬(-cH=9218868437227405312∨bL=9218868437227405312∨bH<=0)by omega)]
def qZ (K:Nat)(d p b:Int):Int:=if b=9218868437227405312 then 0 else if p=9218868437227405312∨p = -9218868437227405312∨b=0 then (if p<0 then -9218868437227405312 else 9218868437227405312) else gE d (2^K) (vZ b).natAbs (vZ p)
theorem lO (d:Int)(c1 c2:Nat)(hc:0<c2)(hd:d=1∨d = -1):gE d c1 c2 0=0:=by
 have a:-9218868437227405312<(0:Int)∧(0:Int)<9218868437227405312:=by omega
 have u:=Aw c1 c2 hc 0
 have l:=DI c1 c2 hc 0
 have b:=jo c1 c2 hc 0
 have e:∀z:Int,0<z->0<vZ z*(c2:Int):=fun z a=>dj (gF z a) (by omega)
 have f:∀z:Int,z<0->vZ z*(c2:Int)<0:=fun z a=>bQ (lE z a) (by omega)
 have g:=(u 0 a).2 (by rw[dI];simp)
 have h:=(l 0 a).2 (by rw[dI];simp)
 rcases hd with rfl|rfl
 ·rcases cC (gE 1 c1 c2 0) 0 with c|c
  ·have:=(u _ ⟨b.2.2,by omega⟩).1 (Int.le_refl _)
   have:=f _ c
   simp at *
   omega
  ·omega
 ·rcases cC 0 (gE (-1) c1 c2 0)with c|c
  ·have:=(l _ ⟨by omega,b.2.1⟩).1 (Int.le_refl _)
   have:=e _ c
   simp at *
   omega
  ·omega
theorem Di (K:Nat)(p b:Int)(hp:-9218868437227405312<=p∧p<9218868437227405312)(hb:0<=b∧b<=9218868437227405312)(h:b=0->p<0):gQ K (rB K p b)=qZ K (-1) p b:=by
 unfold qZ gQ
 by_cases c:b=9218868437227405312
 ·rw[if_pos c,c]
  by_cases a:p=0
  ·rw[a,jH];exact lO _ _ _ (by decide) (Or.inr rfl)
  ·rw[nj K p (by unfold dl;omega) a];exact lO _ _ _ (by decide) (Or.inr rfl)
 ·rw[if_neg c]
  by_cases c2:p=9218868437227405312∨p = -9218868437227405312∨b=0
  ·rw[if_pos c2,mH K p b (by unfold dl;omega) (by omega) (by omega) c2,if_neg (show ¬0<p by omega),if_pos (show p<0 by omega)]
   exact if_neg (by decide)
  ·rw[if_neg c2]
   by_cases a:p=0
   ·have d:0<(vZ b).natAbs:=by have:=gF b (by omega);omega
    rw[a,jH,dI,show gE (-1) (2^K) (vZ b).natAbs 0=0 from lO _ _ _ d (Or.inr rfl)]
    exact lO (-1) (2^K) 1 (by decide) (Or.inr rfl)
   ·rw[je K p b (by omega) a (by omega)]
    show(if (0:Int)=0 then gE (-1) (2^K) (2^K*(vZ b).natAbs) (vZ p*((2^K:Nat):Int)) else _)=_
    rw[if_pos rfl,ap (2^K) (vZ b).natAbs]
    exact nQ _ _ _ _ (by have:=gF b (by omega);omega) (ah K) _
theorem DD (K:Nat)(p b:Int)(hp:-9218868437227405312<p∧p<=9218868437227405312)(hb:0<=b∧b<=9218868437227405312)(h:b=0->0<p):jN K (rB K p b)=qZ K 1 p b:=by
 unfold qZ jN
 by_cases c:b=9218868437227405312
 ·rw[if_pos c,c]
  by_cases a:p=0
  ·rw[a,jH];exact lO _ _ _ (by decide) (Or.inl rfl)
  ·rw[nj K p (by unfold dl;omega) a];exact lO _ _ _ (by decide) (Or.inl rfl)
 ·rw[if_neg c]
  by_cases c2:p=9218868437227405312∨p = -9218868437227405312∨b=0
  ·rw[if_pos c2,mH K p b (by unfold dl;omega) (by omega) (by omega) c2,if_pos (show 0<p by omega),if_neg (show ¬p<0 by omega)]
   exact if_neg (by decide)
  ·rw[if_neg c2]
   by_cases a:p=0
   ·have d:0<(vZ b).natAbs:=by have:=gF b (by omega);omega
    rw[a,jH,dI,show gE 1 (2^K) (vZ b).natAbs 0=0 from lO _ _ _ d (Or.inl rfl)]
    exact lO 1 (2^K) 1 (by decide) (Or.inl rfl)
   ·rw[je K p b (by omega) a (by omega)]
    show(if (0:Int)=0 then gE 1 (2^K) (2^K*(vZ b).natAbs) (vZ p*((2^K:Nat):Int)) else _)=_
    rw[if_pos rfl,ap (2^K) (vZ b).natAbs]
    exact nQ _ _ _ _ (by have:=gF b (by omega);omega) (ah K) _
def E5 (K:Nat)(cL cH bL bH:Int):Int:=qZ K (-1) cL (if 0<=cL then bH else bL)
def E6 (K:Nat)(cL cH bL bH:Int):Int:=qZ K 1 cH (if cH<=0 then bH else bL)
theorem EZ (K:Nat)(cL cH bL bH:Int)(hb:VdZ bL bH)(nb:bL≠9218868437227405312)(hc:VdZ cL cH)(nc:cL≠9218868437227405312)(h:¬(bL<=0∧0<=bH∧cL<=0∧0<=cH))(h0:0<bH):E5 K cL cH (max bL 0) bH=gQ K (qA K cL bL bH)∧E6 K cL cH (max bL 0) bH=jN K (qB K cH bL bH):=by
 unfold VdZ at hb hc
 unfold E5 E6 qA qB
 constructor
 ·by_cases c:0<cL
  ·rw[if_pos c,if_pos (show 0<=cL by omega),Di K cL bH (by omega) (by omega) (by omega)]
  ·rw[if_neg c]
   by_cases c2:cL=0
   ·rw[c2,if_pos (show(0:Int)<=0 by omega),jH,<-jH K bH,Di K 0 bH (by omega) (by omega) (by omega)]
   ·rw[if_neg (show ¬0<=cL by omega),Di K cL _ (by omega) (by omega) (by omega)]
 ·by_cases c:cH<0
  ·rw[if_pos c,if_pos (show cH<=0 by omega),DD K cH bH (by omega) (by omega) (by omega)]
  ·rw[if_neg c]
   by_cases c2:cH=0
   ·rw[c2,if_pos (show(0:Int)<=0 by omega),jH,<-jH K bH,DD K 0 bH (by omega) (by omega) (by omega)]
   ·rw[if_neg (show ¬cH<=0 by omega),DD K cH _ (by omega) (by omega) (by omega)]
def gL (K:Nat)(P:Pc9):Int:=if P.em=true then 9218868437227405312 else gQ K P.A
def gH (K:Nat)(P:Pc9):Int:=if P.em=true then -9218868437227405312 else jN K P.B
theorem DH (K:Nat)(P:Pc9)(h:P.ok):VdZ (gL K P) (gH K P):=by
 unfold gL gH
 by_cases c:P.em=true
 ·rw[if_pos c,if_pos c];exact Or.inl ⟨rfl,rfl⟩
 ·rw[if_neg c,if_neg c]
  have a:=(h (by simpa using c)).1
  have b:=jr K P.A a.1
  have d:=js K P.B a.2.1
  have f:=xI K P.A P.B a
  unfold VdZ;omega
theorem F3 (K:Nat)(B:Bd9)(hB:Ec B)(L v:Int)(hL:-9218868437227405312<=L)(h:L<v)(hv:v<9218868437227405312)(hc:cA K v B<=0):cA K L B<0:=by
 by_cases c:L = -9218868437227405312
 ·rcases hB.1 with i|i
  ·unfold cA cX;rw[if_pos i,if_neg (by omega),if_pos c];decide
  ·rw[nW K L B (by omega),i,fc _ _ (by omega)];decide
 ·rcases hB.1 with i|i
  ·rw[pC K L B (by omega) i]
   rw[pC K v B (by omega) i,mY]at hc
   have:=om (B.C:Int) (by have:=hB.2.1;omega) L v h
   rw[fc _ _ (by omega)];decide
  ·rw[nW K L B (by omega),i,fc _ _ (by omega)];decide
theorem BO (K:Nat)(A:Bd9)(hA:Ed A)(H v:Int)(hH:H<=9218868437227405312)(h:v<H)(hv:-9218868437227405312<v)(hc:0<=cA K v A):0<cA K H A:=by
 by_cases c:H=9218868437227405312
 ·rcases hA.1 with i|i
  ·unfold cA cX;rw[if_pos i,if_pos c];decide
  ·rw[nW K H A (by omega),i,eK _ _ (by omega)];decide
 ·rcases hA.1 with i|i
  ·rw[pC K H A (by omega) i]
   rw[pC K v A (by omega) i,mZ]at hc
   have:=om (A.C:Int) (by have:=hA.2.1;omega) v H h
   rw[eK _ _ (by omega)];decide
  ·rw[nW K H A (by omega),i,eK _ _ (by omega)];decide
theorem zW (K:Nat)(L H v:Int)(A B:Bd9)(hP:Pk9 A B)(hx:-9218868437227405312<=L∧L<=v∧v<=H∧H<=9218868437227405312)(hv:-9218868437227405312<v∧v<9218868437227405312)(hm:lV K v A B):¬nt K L H A B∧max L (gQ K A)<=v∧v<=min H (jN K B):=by
 obtain⟨f,h⟩:=hm
 have j:=rZ K A v hP.1 (by omega) (by omega)
 have l:=oZ K B v hP.2.1 (by omega) (by omega)
 refine⟨?_,by omega,by omega⟩
 have a:∀b:Bool,b=true->b=false->False:=fun b h1 h2=>by rw[h1]at h2;cases h2
 rcases cC L v with c|c
 ·have k:=F3 K B hP.2.1 L v hx.1 c hv.2 (by omega)
  rcases cC v H with d|d
  ·have i:=BO K A hP.1 H v hx.2.2.2 d hv.1 (by omega)
   rintro(g|g|g|g)<;>omega
  ·have e:H=v:=by omega
   subst e
   rintro(g|g|g|g)
   ·omega
   ·omega
   ·omega
   ·rcases f with m|m
    ·omega
    ·exact a _ g.2 m.2
 ·have e:L=v:=by omega
  subst e
  rcases cC L H with d|d
  ·have i:=BO K A hP.1 H L hx.2.2.2 d hv.1 (by omega)
   rintro(g|g|g|g)
   ·omega
   ·rcases h with m|m
    ·omega
    ·exact a _ g.2 m.2
   ·omega
   ·omega
  ·have e:H=L:=by omega
   subst e
   rintro(g|g|g|g)
   ·omega
   ·rcases h with m|m
    ·omega
    ·exact a _ g.2 m.2
   ·omega
   ·rcases f with m|m
    ·omega
    ·exact a _ g.2 m.2
def vD (K:Nat)(v:Int)(P:Pc9):Prop:=P.em=false∧lV K v P.A P.B
theorem Fc (K:Nat)(L H:Int)(P:Pc9)(hx:VdZ L H)(hP:P.ok) :
  (iR K L H P=iL L H (gL K P) (gH K P)∧iS K L H P=iH L H (gL K P) (gH K P)∧(iL L H (gL K P) (gH K P)=iH L H (gL K P) (gH K P)->vD K (iL L H (gL K P) (gH K P)) P∧-9218868437227405312<iL L H (gL K P) (gH K P)∧iL L H (gL K P) (gH K P)<9218868437227405312∧P.em=false)) ∨
  (iR K L H P=9218868437227405312∧iS K L H P = -9218868437227405312∧iL L H (gL K P) (gH K P)=iH L H (gL K P) (gH K P)∧L<=iL L H (gL K P) (gH K P)∧iL L H (gL K P) (gH K P)<=H∧-9218868437227405312<iL L H (gL K P) (gH K P)∧iL L H (gL K P) (gH K P)<9218868437227405312∧¬vD K (iL L H (gL K P) (gH K P)) P∧P.em=false∧L≠9218868437227405312):=by
 have d:=hx
 unfold VdZ at d
 have m:=DH K P hP
 by_cases c:P.em=true∨L=9218868437227405312
 ·left
  have f:iL L H (gL K P) (gH K P)=9218868437227405312∧iH L H (gL K P) (gH K P) = -9218868437227405312:=by
   unfold iL iH
   have n:¬max L (gL K P)<=min H (gH K P):=by
    rcases c with c|c
    ·have:gL K P=9218868437227405312∧gH K P = -9218868437227405312:=by unfold gL gH;rw[if_pos c,if_pos c];exact⟨rfl,rfl⟩
     omega
    ·omega
   rw[if_neg n,if_neg n];exact⟨rfl,rfl⟩
  rw[f.1,f.2]
  unfold iR iS
  rw[if_pos c,if_pos c]
  exact⟨rfl,rfl,fun g=>absurd g (by decide)⟩
 ·have a:P.em=false:=by cases h:P.em;rfl;exact absurd (Or.inl h) c
  have b:=(hP a).1
  have k:L≠9218868437227405312:=fun r=>c (Or.inr r)
  have i:gL K P=gQ K P.A:=by unfold gL;rw[if_neg (by rw[a];decide)]
  have j:gH K P=jN K P.B:=by unfold gH;rw[if_neg (by rw[a];decide)]
  have l:=jr K P.A b.1
  have p:=js K P.B b.2.1
  rw[i,j]
  unfold iR iS BZ B0
  rw[if_neg c,if_neg c]
  by_cases g:nt K L H P.A P.B
  ·rw[if_pos g,if_pos g]
   by_cases n:max L (gQ K P.A)<=min H (jN K P.B)
   ·right
    have o:=yG K L H P.A P.B b (by omega) g n
    unfold iL iH
    rw[if_pos n,if_pos n]
    refine⟨rfl,rfl,o.1,by omega,by omega, ?_,by omega,fun q=>o.2 q.2,a,k⟩
    have:=o.1
    omega
   ·left
    unfold iL iH
    rw[if_neg n,if_neg n]
    exact⟨rfl,rfl,fun g=>absurd g (by decide)⟩
  ·rw[if_neg g,if_neg g]
   left
   have o:=BF K L H P.A P.B b (by omega) g
   unfold iL iH
   rw[if_pos o.1,if_pos o.1]
   exact⟨rfl,rfl,fun q=>⟨⟨a,o.2 q⟩,by omega,by omega,a⟩⟩
theorem Fz (K:Nat)(L H v:Int)(P:Pc9)(hx:VdZ L H)(hP:P.ok)(hv:-9218868437227405312<v∧v<9218868437227405312)(h:L<=v∧v<=H)(hm:vD K v P):iR K L H P<=v∧v<=iS K L H P:=by
 unfold VdZ at hx
 have a:=(hP hm.1).1
 have q:=zW K L H v P.A P.B a (by omega) hv hm.2
 unfold iR iS BZ B0
 have c:¬(P.em=true∨L=9218868437227405312):=by
  rintro(r|r)
  ·rw[hm.1]at r;cases r
  ·omega
 rw[if_neg c,if_neg c,if_neg q.1,if_neg q.1]
 exact q.2
def qX (has:Int->Bool)(yL yH:Int):Int:=if yL=yH∧has yL=false then 9218868437227405312 else yL
def qY (has:Int->Bool)(yL yH:Int):Int:=if yL=yH∧has yL=false then -9218868437227405312 else yH
theorem GE (K:Nat)(L H:Int)(P Q:Pc9)(hx:VdZ L H)(hP:P.ok)(hQ:Q.ok)(has:Int->Bool)(hh:P.em=false∨Q.em=false->∀v,-9218868437227405312<v->v<9218868437227405312->(has v=true ↔ vD K v P∨vD K v Q)) :
  min (qX has (iL L H (gL K P) (gH K P)) (iH L H (gL K P) (gH K P))) (qX has (iL L H (gL K Q) (gH K Q)) (iH L H (gL K Q) (gH K Q)))=min (iR K L H P) (iR K L H Q) ∧
  max (qY has (iL L H (gL K P) (gH K P)) (iH L H (gL K P) (gH K P))) (qY has (iL L H (gL K Q) (gH K Q)) (iH L H (gL K Q) (gH K Q)))=max (iS K L H P) (iS K L H Q):=by
 have a:∀(P Q:Pc9),P.ok->Q.ok->(P.em=false∨Q.em=false->∀v,-9218868437227405312<v->v<9218868437227405312->(has v=true ↔ vD K v P∨vD K v Q)) ->
   (qX has (iL L H (gL K P) (gH K P)) (iH L H (gL K P) (gH K P))=iR K L H P∧qY has (iL L H (gL K P) (gH K P)) (iH L H (gL K P) (gH K P))=iS K L H P) ∨
   (iR K L H P=9218868437227405312∧iS K L H P = -9218868437227405312∧∃v,qX has (iL L H (gL K P) (gH K P)) (iH L H (gL K P) (gH K P))=v∧qY has (iL L H (gL K P) (gH K P)) (iH L H (gL K P) (gH K P))=v∧-9218868437227405312<v∧v<9218868437227405312∧iR K L H Q<=v∧v<=iS K L H Q):=by
  intro P Q hP hQ hh
  rcases Fc K L H P hx hP with⟨w1,w2,w3⟩|⟨w1,w2,w3,w4,w5,w6,w7,w8,w9,w10⟩
  ·left
   unfold qX qY
   by_cases c:iL L H (gL K P) (gH K P)=iH L H (gL K P) (gH K P)
   ·obtain⟨j,k,l,h⟩:=w3 c
    have b:=(hh (Or.inl h) _ k l).2 (Or.inl j)
    rw[if_neg (by rw[b];simp),if_neg (by rw[b];simp),w1,w2]
    exact⟨rfl,rfl⟩
   ·rw[if_neg (fun q=>c q.1),if_neg (fun q=>c q.1),w1,w2]
    exact⟨rfl,rfl⟩
  ·have hi:=hh (Or.inl w9) _ w6 w7
   unfold qX qY
   cases b:has (iL L H (gL K P) (gH K P))with
   | false =>
     left
     rw[if_pos ⟨w3,rfl⟩,if_pos ⟨w3,rfl⟩,w1,w2]
     exact⟨rfl,rfl⟩
   | true =>
     right
     rw[if_neg (by simp),if_neg (by simp)]
     refine⟨w1,w2,_,rfl,w3.symm,w6,w7, ?_⟩
     rcases hi.1 b with g|g
     ·exact absurd g w8
     ·exact Fz K L H _ Q hx hQ ⟨w6,w7⟩ ⟨w4,w5⟩ g
 have d:=a P Q hP hQ hh
 have f:=a Q P hQ hP (fun g v v1 v2=>(hh g.symm v v1 v2).trans Or.comm)
 have i:=Ep K L H P hx hP
 have m:=Ep K L H Q hx hQ
 generalize qX has (iL L H (gL K P) (gH K P)) (iH L H (gL K P) (gH K P))=a1 at *
 generalize qY has (iL L H (gL K P) (gH K P)) (iH L H (gL K P) (gH K P))=b1 at *
 generalize qX has (iL L H (gL K Q) (gH K Q)) (iH L H (gL K Q) (gH K Q))=a2 at *
 generalize qY has (iL L H (gL K Q) (gH K Q)) (iH L H (gL K Q) (gH K Q))=b2 at *
 generalize iR K L H P=c1 at *
 generalize iS K L H P=e1 at *
 generalize iR K L H Q=c2 at *
 generalize iS K L H Q=e2 at *
 unfold VdZ at i m
 clear a hh hx
 rcases d with⟨d,k3⟩|⟨d,k3,v,x1,x2,x3,x4,x5,x6⟩<;>rcases f with⟨f,k4⟩|⟨f,k4,u,y1,y2,y3,y4,y5,y6⟩<;>omega
def tG:Pc9:=⟨false,⟨-1,0,1,true⟩,⟨1,0,1,true⟩⟩
def vC:Pc9:=⟨true,⟨0,0,1,false⟩,⟨0,0,1,false⟩⟩
theorem rO:tG.ok:=fun _=>⟨⟨⟨Or.inr rfl,by decide,fun _=>rfl⟩,⟨Or.inr rfl,by decide,fun _=>rfl⟩,fun g _=>absurd g (by decide)⟩,Or.inr rfl,Or.inr rfl⟩
theorem rP:vC.ok:=fun h=>absurd h (by decide)
theorem Ho (K:Nat):gL K tG = -9218868437227405312∧gH K tG=9218868437227405312:=by
 unfold gL gH gQ jN tG
 simp
theorem Gx (K:Nat)(P:Pc9)(h:P.em=true):gL K P=9218868437227405312∧gH K P = -9218868437227405312:=by
 unfold gL gH
 rw[if_pos h,if_pos h];exact⟨rfl,rfl⟩
theorem Gy (K:Nat)(L H:Int)(P:Pc9)(h:P.em=true):iR K L H P=9218868437227405312∧iS K L H P = -9218868437227405312:=by
 unfold iR iS
 rw[if_pos (Or.inl h),if_pos (Or.inl h)];exact⟨rfl,rfl⟩
theorem Dx (K:Nat)(v:Int)(hv:-9218868437227405312<v∧v<9218868437227405312):vD K v tG:=⟨rfl,(iK K v _ _).2 (yd K v hv)⟩
theorem DE (K:Nat)(v bL bH cL cH:Int)(hv:-9218868437227405312<v∧v<9218868437227405312)(hb:VdZ bL bH)(hc:VdZ cL cH)(h:bL<=0∧0<=bH∧cL<=0∧0<=cH):fI K v bL bH cL cH:=by
 have b:(0:Int)<((2^K:Nat):Int):=by have:=ah K;omega
 have a:∀v q c:Int,0<v->q<=0->0<=c->nd K v q c:=fun v q c h1 h2 h3=>by
  unfold nd
  by_cases c2:q = -9218868437227405312
  ·exact Or.inl c2
  ·refine Or.inr (Or.inr ⟨by omega, ?_⟩)
   have d:vZ v*vZ q<=0:=Int.mul_nonpos_of_nonneg_of_nonpos (gw v (by omega)) (by have:=jR q 0 (by omega);rw[dI]at this;exact this)
   have f:=b8 (gw c h3) (bT b)
   omega
 have pos:∀v cL cH:Int,0<v->VdZ cL cH->cL<=0->0<=cH->fI K v bL bH cL cH:=fun v cL cH h1 hc h2 h3=>by
  rw[sl K v bL bH cL cH h1 hb (by omega) hc (by omega)]
  exact⟨a v _ _ h1 h.1 h3,a v _ _ h1 (by omega) (by omega)⟩
 rcases bw v 0 with c|c|c
 ·rw[<-tU]
  exact pos (-v) (-cH) (-cL) (by omega) (by unfold VdZ at *;omega) (by omega) (by omega)
 ·rw[c,yk];omega
 ·exact pos v cL cH c hc h.2.2.1 h.2.2.2
theorem BA (K:Nat)(v cL cH bL bH:Int)(hb:bL≠9218868437227405312)(hc:cL≠9218868437227405312):vD K v (iw K cL cH bL bH) ↔ mQ K v cL cH bL bH:=by
 unfold vD mQ iw
 simp only
 constructor
 ·rintro⟨b,a⟩
  have:=of_decide_eq_false b
  exact⟨by omega,a⟩
 ·rintro⟨b,a⟩
  exact⟨ae (by omega),a⟩
theorem Hp (K:Nat)(cL cH bL bH:Int)(hb:VdZ bL bH)(hc:VdZ cL cH)(h:¬(bL<=0∧0<=bH∧cL<=0∧0<=cH)):gL K (iw K cL cH bL bH)=(if cL=9218868437227405312∨bL=9218868437227405312∨bH<=0 then 9218868437227405312 else E5 K cL cH (max bL 0) bH)∧gH K (iw K cL cH bL bH)=(if cL=9218868437227405312∨bL=9218868437227405312∨bH<=0 then -9218868437227405312 else E6 K cL cH (max bL 0) bH):=by
 by_cases c:cL=9218868437227405312∨bL=9218868437227405312∨bH<=0
 ·rw[if_pos c,if_pos c]
  exact Gx K _ (af c)
 ·rw[if_neg c,if_neg c]
  have q:=EZ K cL cH bL bH hb (by omega) hc (by omega) h (by omega)
  rw[q.1,q.2]
  unfold gL gH iw
  simp only
  rw[ae c]
  simp
def fB (K:Nat)(cL cH bL bH:Int):Pc9:=if cL=9218868437227405312∨bL=9218868437227405312 then vC else if bL<=0∧0<=bH∧cL<=0∧0<=cH then tG else iw K (-cH) (-cL) (-bH) (-bL)
def ik (K:Nat)(cL cH bL bH:Int):Pc9:=if cL=9218868437227405312∨bL=9218868437227405312 then vC else if bL<=0∧0<=bH∧cL<=0∧0<=cH then vC else iw K cL cH bL bH
theorem Fp (K:Nat)(cL cH bL bH:Int)(hb:VdZ bL bH)(hc:VdZ cL cH):(fB K cL cH bL bH).ok∧(ik K cL cH bL bH).ok:=by
 unfold fB ik
 by_cases a:cL=9218868437227405312∨bL=9218868437227405312
 ·rw[if_pos a,if_pos a];exact⟨rP,rP⟩
 ·rw[if_neg a,if_neg a]
  by_cases c2:bL<=0∧0<=bH∧cL<=0∧0<=cH
  ·rw[if_pos c2,if_pos c2];exact⟨rO,rP⟩
  ·rw[if_neg c2,if_neg c2]
   have c:=hb
   have b:=hc
   unfold VdZ at c b
   exact⟨oS K (-cH) (-cL) (-bH) (-bL) (by unfold VdZ;omega) (by unfold VdZ;omega) (by omega),oS K cL cH bL bH hb hc c2⟩
theorem De (K:Nat)(cL cH bL bH:Int)(hb:VdZ bL bH)(hc:VdZ cL cH)(h:(fB K cL cH bL bH).em=false∨(ik K cL cH bL bH).em=false):cL≠9218868437227405312∧bL≠9218868437227405312∧∀v,-9218868437227405312<v->v<9218868437227405312->(decide (fI K v bL bH cL cH)=true ↔ vD K v (fB K cL cH bL bH)∨vD K v (ik K cL cH bL bH)):=by
 by_cases a:cL=9218868437227405312∨bL=9218868437227405312
 ·unfold fB ik at h
  rw[if_pos a,if_pos a]at h
  rcases h with h|h<;>exact absurd h (by decide)
 ·refine⟨by omega,by omega,fun v v1 v2=>?_⟩
  have b:bL≠9218868437227405312:=by omega
  have c:cL≠9218868437227405312:=by omega
  rw[decide_eq_true_iff]
  unfold fB ik
  rw[if_neg a,if_neg a]
  by_cases c2:bL<=0∧0<=bH∧cL<=0∧0<=cH
  ·rw[if_pos c2,if_pos c2]
   constructor
   ·intro _;exact Or.inl (Dx K v ⟨v1,v2⟩)
   ·intro _;exact DE K v bL bH cL cH ⟨v1,v2⟩ hb hc c2
  ·rw[if_neg c2,if_neg c2,DC K v cL cH bL bH ⟨v1,v2⟩ hb b hc c c2,BA K v cL cH bL bH b c,BA K v (-cH) (-cL) (-bH) (-bL) (by unfold VdZ at hb;omega) (by unfold VdZ at hc;omega)]
   exact Or.comm
def zK (K:Nat)(L H cL cH bL bH:Int):Int:=min (iR K L H (fB K cL cH bL bH)) (iR K L H (ik K cL cH bL bH))
def zL (K:Nat)(L H cL cH bL bH:Int):Int:=max (iS K L H (fB K cL cH bL bH)) (iS K L H (ik K cL cH bL bH))
theorem GR (K:Nat)(L H cL cH bL bH:Int)(c:cL=9218868437227405312∨bL=9218868437227405312):zK K L H cL cH bL bH=9218868437227405312∧zL K L H cL cH bL bH = -9218868437227405312:=by
 unfold zK zL fB ik
 rw[if_pos c,if_pos c,(Gy K L H vC rfl).1,(Gy K L H vC rfl).2]
 exact⟨rfl,rfl⟩
theorem GP (K:Nat)(L H cL cH bL bH:Int)(hx:VdZ L H)(c1:¬(cL=9218868437227405312∨bL=9218868437227405312))(c:bL<=0∧0<=bH∧cL<=0∧0<=cH):zK K L H cL cH bL bH=iR K L H tG∧zL K L H cL cH bL bH=iS K L H tG:=by
 unfold zK zL fB ik
 rw[if_neg c1,if_neg c1,if_pos c,if_pos c,(Gy K L H vC rfl).1,(Gy K L H vC rfl).2]
 have:=Ep K L H tG hx rO
 unfold VdZ at this
 omega
theorem GQ (K:Nat)(L H cL cH bL bH:Int)(c1:¬(cL=9218868437227405312∨bL=9218868437227405312))(c:¬(bL<=0∧0<=bH∧cL<=0∧0<=cH)):zK K L H cL cH bL bH=min (iR K L H (iw K cL cH bL bH)) (iR K L H (iw K (-cH) (-cL) (-bH) (-bL)))∧zL K L H cL cH bL bH=max (iS K L H (iw K cL cH bL bH)) (iS K L H (iw K (-cH) (-cL) (-bH) (-bL))):=by
 unfold zK zL fB ik
 rw[if_neg c1,if_neg c1,if_neg c,if_neg c]
 exact⟨Int.min_comm _ _,Int.max_comm _ _⟩
end Go.Proofs.YtmpjcknaelgnoaaGreatDoor
