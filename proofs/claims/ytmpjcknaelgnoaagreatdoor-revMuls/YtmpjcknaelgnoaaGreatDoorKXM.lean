import Derived.Test.YtmpjcknaelgnoaaGreatDoorKAL
import Derived.Laws.Bits64b
import Derived.RowKit
namespace Go.Proofs.YtmpjcknaelgnoaaGreatDoor
open Go.RowKit

def gK (xs:List Int):Nat->Nat
 | 0=>0
 | n+1=>if xs.getD n 0=0 then gK xs n else n+1
def tl (xs:List Int):Nat:=gK xs xs.length
theorem jE (xs:List Int)(n:Nat)(h:xs.getD n 0=0):gK xs (n+1)=gK xs n:=by show(if xs.getD n 0=0 then gK xs n else n+1)=_;rw[if_pos h]
theorem mv (xs:List Int)(n:Nat)(h:xs.getD n 0≠0):gK xs (n+1)=n+1:=by show(if xs.getD n 0=0 then gK xs n else n+1)=_;rw[if_neg h]
theorem pO (xs:List Int):∀n,gK xs n<=n
 | 0=>ao _
 | n+1=>by
   show(if xs.getD n 0=0 then gK xs n else n+1)<=n+1
   split
   ·exact Nat.le_succ_of_le (pO xs n)
   ·exact ao _
theorem dJ (xs:List Int):tl xs<=xs.length:=pO xs _

def val:List Int->Nat
 | []=>0
 | x :: xs=>x.toNat+4294967296*val xs
def Wd (xs:List Int):Prop:=∀j,0<=xs.getD j 0∧xs.getD j 0<4294967296
def nz (xs:List Int):List Int:=xs.take (tl xs)
theorem Wd.cons {x:Int}{xs:List Int}(h:Wd (x :: xs)):(0<=x∧x<4294967296)∧Wd xs:=by
 refine⟨by simpa using h 0,fun j=>?_⟩
 have:=h (j+1)
 simpa using this
theorem Wd.mk {x:Int}{xs:List Int}(h0:0<=x∧x<4294967296)(h:Wd xs):Wd (x :: xs):=by
 intro j
 cases j with
 | zero=>simpa using h0
 | succ j=>simpa using h j
theorem Wd.nil:Wd []:=fun j=>by simp
theorem Wd.take {xs:List Int}(h:Wd xs)(k:Nat):Wd (xs.take k):=by
 intro j
 by_cases c:j<k
 ·have:=h j;simpa [List.getD,List.getElem?_take,c]using this
 ·simp[List.getD,List.getElem?_take,c]
theorem Wd.set {xs:List Int}(h:Wd xs)(k:Nat)(x:Int)(hx:0<=x∧x<4294967296):Wd (xs.set k x):=by
 intro j
 by_cases c:k=j
 ·subst c
  by_cases d:k<xs.length
  ·simpa [List.getD,List.getElem?_set,d]using hx
  ·simp[List.getD,d]
 ·have:=h j;simpa [List.getD,List.getElem?_set,c]using this
theorem Wd.append {xs ys:List Int}(h:Wd xs)(k:Wd ys):Wd (xs ++ ys):=by
 intro j
 by_cases c:j<xs.length
 ·have:=h j;simpa [List.getD,List.getElem?_append,c]using this
 ·have:=k (j-xs.length);simpa [List.getD,List.getElem?_append,c]using this
theorem gX:∀(xs ys:List Int),val (xs ++ ys)=val xs+4294967296^xs.length*val ys
 | [],ys=>by simp[val]
 | x :: xs,ys=>by
   simp only[List.cons_append,val,gX xs ys,eI,aF]
   rw[er,<-ak,ap 4294967296 (4294967296^xs.length)];omega
theorem bd (xs:List Int)(i:Nat):val (xs.take (i+1))=val (xs.take i)+(xs.getD i 0).toNat*4294967296^i:=by
 by_cases c:i<xs.length
 ·rw[List.take_add_one,List.getElem?_eq_getElem c,gX]
  simp only[Option.toList_some,val,Nat.mul_zero,bi,dG]
  rw[cW (by omega),ap]
  simp[List.getD,c]
 ·rw[aY (by omega),aY (by omega)]
  simp[List.getD,List.getElem?_eq_none (by omega:xs.length<=i)]
theorem fK:∀(xs:List Int)(i:Nat)(s:Int),i<xs.length->val (xs.set i s)+(xs.getD i 0).toNat*4294967296^i=val xs+s.toNat*4294967296^i
 | [],i,s,h=>by simp at h
 | x :: xs,0,s,_=>by simp[val];omega
 | x :: xs,i+1,s,h=>by
   have ih:=fK xs i s (by simpa using h)
   simp only[aL,val,fi,aF]
   rw[<-ak,<-ak,ap _ 4294967296,ap _ 4294967296]
   omega
theorem fX:∀(xs:List Int),Wd xs->val xs<4294967296^xs.length
 | [],_=>by simp[val]
 | x :: xs,h=>by
   obtain⟨h0,h1⟩:=h.cons
   have ih:=fX xs h1
   simp only[val,eI,aF]
   omega
theorem jt (xs:List Int)(n:Nat):(∀j,gK xs n<=j->j<n->xs.getD j 0=0)∧(gK xs n=0∨xs.getD (gK xs n-1) 0≠0):=by
 induction n with
 | zero=>exact⟨fun j _ h=>by omega,Or.inl rfl⟩
 | succ n ih =>
   by_cases c:xs.getD n 0=0
   ·rw[jE xs n c]
    refine⟨fun j h1 h2=>?_,ih.2⟩
    by_cases d:j=n
    ·subst d;exact c
    ·exact ih.1 j h1 (by omega)
   ·rw[mv xs n c]
    exact⟨fun j h1 h2=>by omega,Or.inr (by simpa using c)⟩
theorem nf (xs:List Int)(k:Nat)(h:∀j,k<=j->j<xs.length->xs.getD j 0=0):∀n,k<=n->n<=xs.length->val (xs.take n)=val (xs.take k):=by
 intro n
 induction n with
 | zero=>intro a _;rw[show k=0 from by omega]
 | succ n ih =>
   intro a b
   by_cases c:k=n+1
   ·rw[c]
   ·rw[bd,ih (by omega) (by omega),h n (by omega) (by omega)];simp
theorem eO (xs:List Int):val (nz xs)=val xs:=by
 have h:=jt xs xs.length
 have:=nf xs (tl xs) h.1 xs.length (dJ xs) (ao _)
 rw[di]at this
 exact this.symm
theorem bM (xs:List Int):(nz xs).length=tl xs:=by
 unfold nz;rw[dG,cW (dJ xs)]
theorem zG (xs:List Int):nz xs=[]∨(nz xs).getD ((nz xs).length-1) 0≠0:=by
 rw[bM]
 rcases(jt xs xs.length).2 with h|h
 ·left;unfold nz tl;rw[h];rfl
 ·by_cases c:tl xs=0
  ·left;unfold nz;rw[c];rfl
  ·right
   have a:xs.getD (tl xs-1) 0≠0:=h
   unfold nz
   simpa [List.getD,List.getElem?_take,show tl xs-1<tl xs from by omega]using a
theorem pF:∀(xs ys:List Int),Wd xs->Wd ys->(xs=[]∨xs.getD (xs.length-1) 0≠0)->(ys=[]∨ys.getD (ys.length-1) 0≠0)->val xs=val ys->xs=ys
 | [],[],_,_,_,_,_=>rfl
 | [],y :: ys,_,hy,_,hl,h=>by
   exfalso
   have key:∀(zs:List Int),Wd zs->zs≠[]->zs.getD (zs.length-1) 0≠0->val zs≠0:=by
    intro zs
    induction zs with
    | nil=>intro _ h _;exact absurd rfl h
    | cons z zs ih =>
      intro f _ hl
      obtain⟨g,d⟩:=f.cons
      by_cases c:zs=[]
      ·subst c
       simp at hl
       simp[val];omega
      ·have a:0<zs.length:=List.length_pos_iff.2 c
       have:=ih d c (by
        rw[eI,show zs.length+1-1=(zs.length-1)+1 from by omega,fi]at hl
        exact hl)
       simp only[val];omega
   exact key (y :: ys) hy (by simp) (hl.resolve_left (by simp)) (by rw[<-h];rfl)
 | x :: xs,[],hx,_,hl,_,h=>by
   exfalso
   have key:∀(zs:List Int),Wd zs->zs≠[]->zs.getD (zs.length-1) 0≠0->val zs≠0:=by
    intro zs
    induction zs with
    | nil=>intro _ h _;exact absurd rfl h
    | cons z zs ih =>
      intro f _ hl
      obtain⟨g,d⟩:=f.cons
      by_cases c:zs=[]
      ·subst c
       simp at hl
       simp[val];omega
      ·have a:0<zs.length:=List.length_pos_iff.2 c
       have:=ih d c (by
        rw[eI,show zs.length+1-1=(zs.length-1)+1 from by omega,fi]at hl
        exact hl)
       simp only[val];omega
   exact key (x :: xs) hx (by simp) (hl.resolve_left (by simp)) (by rw[h];rfl)
 | x :: xs,y :: ys,hx,hy,lx,ly,h=>by
   obtain⟨g,d⟩:=hx.cons
   obtain⟨k,i⟩:=hy.cons
   simp only[val]at h
   have j:val xs=val ys∧x.toNat=y.toNat:=by omega
   have b:∀(z:Int)(zs:List Int),(z :: zs=[]∨(z :: zs).getD ((z :: zs).length-1) 0≠0)->(zs=[]∨zs.getD (zs.length-1) 0≠0):=fun z zs hh=>by
    by_cases c:zs=[]
    ·exact Or.inl c
    ·right
     have a:0<zs.length:=List.length_pos_iff.2 c
     have:=hh.resolve_left (by simp)
     rw[eI,show zs.length+1-1=(zs.length-1)+1 from by omega,fi]at this
     exact this
   have:=pF xs ys d i (b x xs lx) (b y ys ly) j.1
   rw[this,show x=y from by omega]

def az (n:Nat):List Int:=if h:n=0 then [] else ((n%4294967296:Nat):Int) :: az (n/4294967296)
termination_by n
decreasing_by omega
theorem dF:az 0=[]:=by rw[az];simp
theorem kH (n:Nat)(h:n≠0):az n=((n%4294967296:Nat):Int) :: az (n/4294967296):=by rw[az];simp[h]
theorem aV (n:Nat):val (az n)=n:=by
 induction n using Nat.strongRecOn with
 | ind n ih =>
   by_cases h:n=0
   ·subst h;rw[dF];rfl
   ·rw[kH n h]
    simp only[val,av,ih (n/4294967296) (by omega)]
    omega
theorem bC (n:Nat):Wd (az n):=by
 induction n using Nat.strongRecOn with
 | ind n ih =>
   by_cases h:n=0
   ·subst h;rw[dF];exact Wd.nil
   ·rw[kH n h];exact Wd.mk (by omega) (ih _ (by omega))
theorem qN (n:Nat):az n=[]∨(az n).getD ((az n).length-1) 0≠0:=by
 induction n using Nat.strongRecOn with
 | ind n ih =>
   by_cases h:n=0
   ·subst h;exact Or.inl dF
   ·right
    rw[kH n h]
    by_cases c:n/4294967296=0
    ·rw[c,dF];simp;omega
    ·have b:=ih (n/4294967296) (by omega)
     have a:az (n/4294967296)≠[]:=by rw[kH _ c];simp
     have d:=b.resolve_left a
     have f:0<(az (n/4294967296)).length:=List.length_pos_iff.2 a
     rw[eI,show(az (n/4294967296)).length+1-1=((az (n/4294967296)).length-1)+1 from by omega,fi]
     exact d
theorem eZ (L:List Int)(h:Wd L):nz L=az (val L) :=
 pF _ _ (h.take _) (bC _) (zG L) (qN _) (by rw[eO,aV])
def aS (n:Nat):Nat:=(az n).length
theorem fS (L:List Int)(h:Wd L):tl L=aS (val L):=by
 rw[<-bM,eZ L h];rfl
theorem oy (n:Nat):tl (az n)=aS n:=by rw[fS _ (bC n),aV]
def na (a b:Nat):List Int × Int:=if 16384<aS a∨16384<aS b then ([],2) else if 16384<aS (a+b) then ([],2) else (az (a+b),0)

def dW (a b:Nat):Int:=if a<b then -1 else if b<a then 1 else 0
def ij (x y:Int):Int:=if x<y then -1 else if y<x then 1 else 0
theorem gJ {a b:Nat}(h:a<b):dW a b = -1:=by unfold dW;rw[if_pos h]
theorem mn {a b:Nat}(h:b<a):dW a b=1:=by unfold dW;rw[if_neg (by omega),if_pos h]
theorem ud {a b:Nat}(h:a=b):dW a b=0:=by unfold dW;rw[if_neg (by omega),if_neg (by omega)]
theorem dE (xs:List Int)(h:Wd xs)(k:Nat):val (xs.take k)<4294967296^k:=by
 have a:=fX (xs.take k) (h.take k)
 have b:(xs.take k).length<=k:=by rw[dG];omega
 exact aE a (al (by decide) b)
theorem mm (xs ys:List Int)(hx:Wd xs)(k:Nat)(h0:0<=xs.getD k 0)(h:xs.getD k 0<ys.getD k 0):∀n,k<n->(∀j,k<j->j<n->xs.getD j 0=ys.getD j 0)->val (xs.take n)<val (ys.take n):=by
 intro n
 induction n with
 | zero=>intro g;omega
 | succ n ih =>
   intro g d
   rw[bd,bd]
   by_cases c:k=n
   ·subst c
    have i:=dE xs hx k
    obtain⟨P,f⟩:=aA (4294967296^k)
    rw[<-f]at i|-
    have l:((xs.getD k 0).toNat+1)*P<=(ys.getD k 0).toNat*P:=ai P (by omega)
    rw[aH,aN]at l
    omega
   ·have:=ih (by omega) (fun j a b=>d j a (by omega))
    rw[d n (by omega) (by omega)]
    omega
theorem uc (xs ys:List Int):∀n,(∀j,j<n->xs.getD j 0=ys.getD j 0)->val (xs.take n)=val (ys.take n):=by
 intro n
 induction n with
 | zero=>intro _;simp
 | succ n ih =>
   intro a
   rw[bd,bd,ih (fun j h=>a j (by omega)),a n (by omega)]
theorem el (xs:List Int):val (xs.take (tl xs))=val xs:=eO xs
theorem kM (xs:List Int)(h:Wd xs)(k:Nat)(hk:k<tl xs):4294967296^k<=val xs:=by
 have a:=(jt xs xs.length).2
 have b:xs.getD (tl xs-1) 0≠0:=by
  rcases a with a|a
  ·exfalso;have:tl xs=0:=a;omega
  ·exact a
 have c:=h (tl xs-1)
 rw[<-el xs]
 obtain⟨t,d⟩:∃t,tl xs=t+1:=⟨tl xs-1,by omega⟩
 rw[d]at b c|-
 rw[bd]
 simp only[b6]at b c
 have f:4294967296^k<=4294967296^t:=al (by decide) (by omega)
 have g:1*4294967296^t<=(xs.getD t 0).toNat*4294967296^t:=ai _ (by omega)
 omega
theorem iF (xs ys:List Int)(hx:Wd xs)(hy:Wd ys)(h:tl xs<tl ys):val xs<val ys:=by
 have a:=dE xs hx (tl xs)
 rw[el]at a
 exact aE a (kM ys hy (tl xs) h)
theorem sU (xs ys:List Int)(hx:Wd xs)(hy:Wd ys)(h:val xs<=val ys):tl xs<=tl ys:=by
 by_cases c:tl ys<tl xs
 ·have:=iF ys xs hy hx c;omega
 ·omega
theorem fA {a b:Nat}(h:a<=b):aS a<=aS b:=by
 rw[<-oy a,<-oy b]
 exact sU _ _ (bC a) (bC b) (by rw[aV,aV];exact h)
def jU (a b:Nat):List Int × Int:=if a<b then ([],1) else if 16384<aS a then ([],2) else (az (a-b),0)
theorem rF (x y b d:Nat)(hx:x<4294967296)(hy:y<4294967296)(hb:b<=1)(hd:d=(x+8589934592-y-b)%4294967296) :
  ((4294967295-x) &&& y ||| (4294967295-(x ^^^ y)) &&& d)/2147483648=if x<y+b then 1 else 0:=by
 have e:∀n:Nat,n/2147483648=n >>> 31:=fun n=>by rw[dX]
 have j:x ^^^ y<4294967296:=Nat.xor_lt_two_pow (n:=32) hx hy
 have h:(x ^^^ y)/2147483648=(x/2147483648) ^^^ (y/2147483648):=by rw[e,e,e,Nat.shiftRight_xor_distrib]
 have i:(4294967295-x)/2147483648=1-x/2147483648:=by omega
 have g:(4294967295-(x ^^^ y))/2147483648=1-(x ^^^ y)/2147483648:=by omega
 rw[e,Nat.shiftRight_or_distrib,Nat.shiftRight_and_distrib,Nat.shiftRight_and_distrib,<-e,<-e,<-e,<-e,i,g,h]
 have l:d<4294967296:=by omega
 obtain⟨X,m⟩:=aA (x/2147483648)
 obtain⟨Y,k⟩:=aA (y/2147483648)
 obtain⟨D,o⟩:=aA (d/2147483648)
 rw[<-m,<-k,<-o]
 clear i g h j e
 rcases(by omega:X=0∨X=1)with a|a<;>rcases(by omega:Y=0∨Y=1)with f|f<;>rcases(by omega:D=0∨D=1)with c|c<;>rw[a,f,c]<;>simp<;>omega
theorem Bm (x:Nat)(h:x<4294967296):4294967295 ^^^ x=4294967295-x:=by
 apply eS
 intro i
 have a:(4294967295:Nat).testBit i=decide (i<32):=Nat.testBit_two_pow_sub_one 32 i
 have b:(4294967295-x).testBit i=(decide (i<32) && !x.testBit i):=by
  rw[<-eB (show x<2^32 from h) i]
  congr 1
  omega
 rw[Nat.testBit_xor,a,b]
 by_cases c:i<32
 ·simp[c]
 ·have:x.testBit i=false:=eG (aE h (al (n:=2) (by omega) (by omega:32<=i)))
  simp[c,this]
theorem nT (zs:List Int)(k C C' Z V T:Nat)(X Y:Int)(hk:k<zs.length)(hX:zs.getD k 0=X)(hZ:Z+(Y.toNat+C)=X.toNat+C'*4294967296)(h:val zs+T=V+C*4294967296^k) :
  val (zs.set k (Z:Int))+(T+Y.toNat*4294967296^k)=V+C'*4294967296^(k+1):=by
 have b:=fK zs k (Z:Int) hk
 rw[hX,av]at b
 obtain⟨P,a⟩:=aA (4294967296^k)
 rw[aF,<-a]
 rw[<-a]at h b
 have e:=congrArg (· * P) hZ
 simp only[aH]at e
 have c:C'*4294967296*P=C'*(P*4294967296):=by rw[ap P,ak]
 omega
theorem vm (zs xs ys:List Int)(j n:Nat)(hl:zs.length=n)(hz:Wd zs)(hle:val ys<=val xs)(h:val zs+val ys=val xs+1*4294967296^j):j<n:=by
 by_cases c:j<n
 ·exact c
 ·exfalso
  have a:=fX zs hz
  rw[hl]at a
  have b:4294967296^n<=4294967296^j:=al (by decide) (by omega)
  omega

def aq (n:Nat):Nat:=if n=0 then 0 else n.log2+1
theorem cP:aq 0=0:=by simp[aq]
theorem cK (n:Nat)(h:n≠0):2^(aq n-1)<=n∧n<2^aq n∧1<=aq n:=by
 have:=(Nat.log2_eq_iff h (k:=n.log2)).1 rfl
 unfold aq
 rw[if_neg h]
 simp only[b6]
 exact⟨this.1,this.2,by omega⟩
theorem ed (n k:Nat)(h1:2^k<=n)(h2:n<2^(k+1)):aq n=k+1:=by
 have a:=ah k
 have h:n≠0:=by omega
 have:=(Nat.log2_eq_iff h (k:=k)).2 ⟨h1,h2⟩
 unfold aq
 rw[if_neg h,this]
theorem vy (n:Nat)(h:n≠0):aq n=aq (n/2)+1:=by
 by_cases c:n=1
 ·subst c;simp[cP];exact ed 1 0 (by simp) (by simp)
 ·have g:n/2≠0:=by omega
  obtain⟨a,b,d⟩:=cK (n/2) g
  obtain⟨k,f⟩:∃k,aq (n/2)=k+1:=⟨aq (n/2)-1,by omega⟩
  rw[f]at a b|-
  simp only[b6]at a
  apply ed
  ·rw[aF];omega
  ·rw[aF];omega
theorem gp (n k:Nat)(h:n<2^k):aq n<=k:=by
 by_cases c:n=0
 ·subst c;rw[cP];omega
 ·obtain⟨a,_,d⟩:=cK n c
  have:=bs a h
  have:=(bK (by omega:1<2)).1 this
  omega
theorem nG (k:Nat):4294967296^k=2^(32*k):=by
 rw[Nat.pow_mul]
theorem m6 (xs:List Int)(h:Wd xs)(t:Nat)(ht:tl xs=t+1):aq (val xs)=32*t+aq (xs.getD t 0).toNat:=by
 have q:xs.getD t 0≠0:=by
  rcases(jt xs xs.length).2 with e|e
  ·exfalso;have:tl xs=0:=e;omega
  ·have j:xs.getD (tl xs-1) 0≠0:=e
   rw[ht,b6]at j
   exact j
 have r:=h t
 have l:=dE xs h t
 have c:=el xs
 rw[ht,bd]at c
 obtain⟨X,i⟩:=aA ((xs.getD t 0).toNat)
 rw[<-i]at c|-
 have f:X≠0:=by omega
 rw[nG]at l c
 obtain⟨P,g⟩:=aA (2^(32*t))
 obtain⟨a,b,d⟩:=cK X f
 obtain⟨k,o⟩:∃k,aq X=k+1:=⟨aq X-1,by omega⟩
 rw[o]at a b|-
 simp only[b6]at a
 have p:2^(32*t+k)=P*2^k:=by rw[ag,g]
 have m:2^(32*t+k+1)=P*(2^k*2):=by rw[show 32*t+k+1=32*t+(k+1)from by omega,ag,g,aF]
 rw[<-g]at l c
 rw[show 32*t+(k+1)=(32*t+k)+1 from by omega]
 have s:P*2^k<=P*X:=aR P a
 have n:P*(X+1)<=P*(2^k*2):=aR P (by rw[aF]at b;omega)
 rw[er,aG]at n
 rw[ap X P]at c
 exact ed _ _ (by rw[p];omega) (by rw[m];omega)
theorem mP (n k:Nat)(h:4294967296^k<=n):k<aS n:=by
 have a:=fX (az n) (bC n)
 rw[aV]at a
 by_cases c:k<aS n
 ·exact c
 ·exfalso
  have b:4294967296^(az n).length<=4294967296^k:=al (by omega) (by have:aS n=(az n).length:=rfl;omega)
  omega
theorem gZ (n k:Nat)(h:k<aS n):4294967296^k<=n:=by
 have:=kM (az n) (bC n) k (by rw[oy];exact h)
 rw[aV]at this
 exact this
def nm (a b:Nat):List Int × Int:=if 16384<aS a∨16384<aS b then ([],2) else if 16384<aS (a*b) then ([],2) else (az (a*b),0)
theorem uP (a b K:Nat)(ha:aS a<=K)(hb:aS b<=K)(h:K<aS a+aS b-1):K<aS (a*b):=by
 have d:=gZ a (aS a-1) (by omega)
 have f:=gZ b (aS b-1) (by omega)
 have c:=dB d f
 rw[<-ag]at c
 have:=mP _ _ c
 omega
theorem jp (a K:Nat)(h:aS a<=K):aq a<=32*K:=by
 apply gp
 rw[<-nG]
 by_cases c:a<4294967296^K
 ·exact c
 ·have:=mP a K (by omega);omega
theorem jl (ys:List Int)(X i k:Nat):val (ys.take (k+1))*X*4294967296^i=val (ys.take k)*X*4294967296^i+(ys.getD k 0).toNat*X*4294967296^(i+k):=by
 rw[bd,aH,aH,ag]
 congr 1
 generalize 4294967296^i=P
 generalize 4294967296^k=Q
 simp only[ak,ap,aZ]
theorem kt (A Y C Z:Nat)(hA:A<4294967296)(hY:Y<4294967296)(hC:C<4294967296)(hZ:Z<4294967296):C+(A*Y+Z)<18446744073709551616∧A*Y<=18446744065119617025:=by
 have:A*Y<=4294967295*4294967295:=dB (by omega) (by omega)
 omega
theorem qd (xs:List Int)(i V:Nat):val (xs.take i)*V+V*(xs.getD i 0).toNat*4294967296^i=val (xs.take (i+1))*V:=by
 rw[bd,aH,ak V,ap V]

theorem fZ (v x k:Nat)(hv:v<2^k):v ||| x*2^k=v+x*2^k:=by
 have:=Nat.shiftLeft_add_eq_or_of_lt hv x
 rw[dw]at this
 rw[eH,<-this,dz]
theorem iU (xs:List Int)(k:Nat)(h:k<xs.length):val (xs.drop k)=(xs.getD k 0).toNat+4294967296*val (xs.drop (k+1)):=by
 rw[List.drop_eq_getElem_cons h]
 simp[val,List.getD,h]
theorem yU (xs:List Int)(h:Wd xs)(hl:xs.length<=2)(k:Nat):val (xs.take k)<18446744073709551616:=by
 have a:=fX (xs.take k) (h.take k)
 have b:(xs.take k).length<=2:=by rw[dG];omega
 exact aE a (aT (al (by omega) b) (by decide))
def gT (a:Nat):Nat × Bool:=if 2<aS a then (0,false) else (a,true)

def jK (n:Nat):Nat:=if h:n=0 then 0 else if n%2=1 then 0 else jK (n/2)+1
termination_by n
decreasing_by omega
theorem rf:jK 0=0:=by rw[jK];simp
theorem po:∀(k o:Nat),o%2=1->jK (o*2^k)=k
 | 0,o,h=>by
   rw[aB,aG,jK]
   by_cases c:o=0
   ·subst c;simp at h
   ·rw[dif_neg c,if_pos h]
 | k+1,o,h=>by
   have hp:=ah k
   have hne:o*2^(k+1)≠0:=by
    have:0<o*2^(k+1):=aQ (by omega) (ah _)
    omega
   have a:o*2^(k+1)=2*(o*2^k):=by rw[aF,<-ak,ap]
   rw[jK,dif_neg hne,a,if_neg (by omega),Nat.mul_div_cancel_left _ (by omega),po k o h]
theorem kr:∀(x:Nat),x≠0->∃o k,o%2=1∧x=o*2^k:=by
 intro x
 induction x using Nat.strongRecOn with
 | ind x ih =>
   intro h
   by_cases c:x%2=1
   ·exact⟨x,0,c,by simp⟩
   ·obtain⟨o,k,a,b⟩:=ih (x/2) (by omega) (by omega)
    refine⟨o,k+1,a, ?_⟩
    rw[aF,<-ak,<-b]
    omega
theorem pH (xs:List Int)(i:Nat)(h:∀j,j<i->xs.getD j 0=0)(hi:i<xs.length):∃r,val xs=((xs.getD i 0).toNat+4294967296*r)*4294967296^i:=by
 have b:∀n,n<=i->val (xs.take n)=0:=by
  intro n
  induction n with
  | zero=>intro _;rfl
  | succ n ih=>intro c;rw[bd,ih (by omega),h n (by omega)];simp
 have a:=gX (xs.take i) (xs.drop i)
 rw[List.take_append_drop,b i (ao _),dG,cW (by omega),List.drop_eq_getElem_cons hi]at a
 refine⟨val (xs.drop (i+1)), ?_⟩
 rw[a]
 simp[val,List.getD,hi]
 rw[ap]
theorem t9 (xs:List Int)(i o k:Nat)(h:∀j,j<i->xs.getD j 0=0)(hi:i<xs.length)(ho:o%2=1)(hk:k<32)(hx:(xs.getD i 0).toNat=o*2^k):jK (val xs)=32*i+k:=by
 obtain⟨r,c⟩:=pH xs i h hi
 have e:(4294967296:Nat)=2^(31-k)*2*2^k:=by
  rw[ak,<-Nat.pow_succ',<-ag,show 31-k+(k+1)=32 from by omega]
 have b:val xs=(o+2*(2^(31-k)*r))*2^(32*i+k):=by
  rw[c,hx,ag,<-nG]
  have a:o*2^k+4294967296*r=(o+2*(2^(31-k)*r))*2^k:=by
   rw[aH]
   congr 1
   have:4294967296*r=2^(31-k)*2*2^k*r:=by rw[<-e]
   rw[this]
   simp only[ap,aZ]
  rw[a]
  simp only[ak,ap,aZ]
 rw[b]
 exact po _ _ (by omega)

theorem kK (S:Nat)(h:S<18446744073709551616):bits BinOp.and IntKind.u64 (S:Int) 4294967295=((S%4294967296:Nat):Int):=by
 have:=bits_and_u64_nat S 4294967295 h (by decide)
 have e:S &&& 4294967295=S%4294967296:=cG S 32
 rw[e]at this
 exact this
theorem Wd.one {x:Int}(h:0<=x∧x<4294967296):Wd [x]:=Wd.mk h Wd.nil

theorem jT (zs:List Int)(k C S V:Nat)(X Y:Int)(hk:k<zs.length)(hX:zs.getD k 0=X)(hS:S=X.toNat+Y.toNat+C)(h:val zs+C*4294967296^k=V) :
  val (zs.set k ((S%4294967296:Nat):Int))+S/4294967296*4294967296^(k+1)=V+Y.toNat*4294967296^k:=by
 have b:=fK zs k ((S%4294967296:Nat):Int) hk
 rw[hX,av]at b
 have e:S%4294967296+4294967296*(S/4294967296)=S:=Nat.mod_add_div _ _
 obtain⟨P,a⟩:=aA (4294967296^k)
 rw[aF,<-a]
 rw[<-a]at h b
 have d:S%4294967296*P+S/4294967296*(P*4294967296)=S*P:=by
  have:S/4294967296*(P*4294967296)=4294967296*(S/4294967296)*P:=by
   rw[ap P,<-ak,ap (S/4294967296)]
  rw[this,<-aH,e]
 have c:S*P=X.toNat*P+Y.toNat*P+C*P:=by rw[hS,aH,aH]
 omega
theorem vY (xs ys zs:List Int)(k:Nat)(hx:Wd xs)(hy:Wd ys)(hl:ys.length<=xs.length)(h:val zs+1*4294967296^k=val xs+val ys):k<=xs.length:=by
 by_cases c:k<=xs.length
 ·exact c
 ·exfalso
  have d:=fX xs hx
  have b:=fX ys hy
  have f:4294967296^ys.length<=4294967296^xs.length:=al (by decide) hl
  have a:4294967296^(xs.length+1)<=4294967296^k:=al (by decide) (by omega)
  rw[aF]at a
  omega
theorem oj (xs:List Int):val (xs ++ [0])=val xs:=by rw[gX];simp[val]
theorem qS (xs:List Int)(j:Nat):(xs ++ [0]).getD j 0=if j<xs.length then xs.getD j 0 else 0:=by
 by_cases c:j<xs.length
 ·rw[if_pos c];simp[List.getD,List.getElem?_append,c]
 ·rw[if_neg c]
  by_cases d:j=xs.length
  ·subst d;simp[List.getD]
  ·simp[List.getD,List.getElem?_eq_none (by simp;omega:(xs ++ [0]).length<=j)]

def iI (a:Nat)(n:Int):List Int × Int:=if n<0 then ([],1) else if 16384<aS a then ([],2) else if a=0 then ([],0) else if 524288<aq a+n.toNat then ([],2) else (az (a*2^n.toNat),0)
def nh (a:Nat)(n:Int):List Int × Bool × Int:=if n<0 then ([],false,1) else if 16384<aS a then ([],false,2) else (az (a/2^n.toNat),decide (a%2^n.toNat≠0),0)
theorem m5 (X s:Nat):((X*2^s%4294967296:Nat):Int)=(X:Int)*2^s%4294967296:=by
 rw[Int.natCast_emod,aK,Int.natCast_pow];rfl
theorem mb (s:Nat)(h:s<32):(4294967296:Nat)=2^s*2^(32-s):=by
 rw[<-ag,show s+(32-s)=32 from by omega]
theorem pX (X C s:Nat)(hs:s<32)(hX:X<4294967296)(hC:C<2^s):X*2^s%4294967296 ||| C=X*2^s%4294967296+C∧X*2^s%4294967296+C<4294967296∧X/2^(32-s)<2^s∧(X*2^s%4294967296+C)+4294967296*(X/2^(32-s))=X*2^s+C:=by
 have e:=mb s hs
 have d:=ah s
 have a:=ah (32-s)
 have b:X*2^s%4294967296=(X%2^(32-s))*2^s:=by
  rw[e,ap (2^s) (2^(32-s)),cI]
 have g:X*2^s/4294967296=X/2^(32-s):=by
  rw[e,ap (2^s) (2^(32-s)),cQ _ _ d]
 have f:=fZ C (X%2^(32-s)) s hC
 have j:=Nat.mod_add_div (X*2^s) 4294967296
 have h:X/2^(32-s)<2^s:=by
  rw[bz a,<-e];exact hX
 refine⟨by rw[b,eH,f,dz], ?_,h,by rw[<-g];omega⟩
 rw[b]
 have i:X%2^(32-s)<2^(32-s):=bZ _ a
 have c:(X%2^(32-s)+1)*2^s<=2^(32-s)*2^s:=ai _ (by omega)
 rw[aH,aN,ap (2^(32-s)),<-e]at c
 omega
theorem rK (us xs:List Int)(o k C C' Z s X:Nat)(hk:o+k<us.length)(h0:us.getD (o+k) 0=0)(hX:(xs.getD k 0).toNat=X)(hZ:Z+4294967296*C'=X*2^s+C)(h:val us+C*4294967296^(o+k)=val (xs.take k)*2^s*4294967296^o) :
  val (us.set (o+k) (Z:Int))+C'*4294967296^(o+(k+1))=val (xs.take (k+1))*2^s*4294967296^o:=by
 have a:=fK us (o+k) (Z:Int) hk
 rw[h0,av]at a
 have b:=jl xs (2^s) o k
 rw[hX]at b
 rw[b,<-h,<-dH o k 1,aF]
 generalize 4294967296^(o+k)=P at a h|-
 have e:=congrArg (· * P) hZ
 simp only[aH]at e
 have c:C'*(P*4294967296)=4294967296*C'*P:=by
  simp only[ap,aZ]
 simp at a
 omega
theorem vj (us:List Int)(q:Nat)(h:∀j,j<us.length->us.getD j 0=((q/4294967296^j%4294967296:Nat):Int)):∀n,n<=us.length->val (us.take n)=q%4294967296^n:=by
 intro n
 induction n with
 | zero=>intro _;simp[val,fW]
 | succ n ih =>
   intro a
   rw[bd,ih (by omega),h n (by omega),av,aF,Nat.mod_mul,ap (4294967296^n)]
theorem pT (D X Y r s:Nat)(hs:s<32)(hX:X<4294967296)(hD:D=X+4294967296*(Y+4294967296*r)):D/2^s%4294967296=X/2^s ||| Y*2^(32-s)%4294967296:=by
 have e:=mb s hs
 have a:=ah s
 have f:=ah (32-s)
 have l:D/2^s=X/2^s+2^(32-s)*(Y+4294967296*r):=by
  have:D=X+2^s*(2^(32-s)*(Y+4294967296*r)):=by rw[hD,<-ak,<-e]
  rw[this,eT _ _ a]
 have b:X/2^s<2^(32-s):=by
  rw[bz a,ap,<-e];exact hX
 have k:Y*2^(32-s)%4294967296=(Y%2^s)*2^(32-s):=by
  rw[e,cI]
 have j:X/2^s+2^(32-s)*(Y+4294967296*r)=(X/2^s+(Y%2^s)*2^(32-s))+4294967296*(Y/2^s+2^(32-s)*r):=by
  have d:=Nat.mod_add_div Y (2^s)
  have:2^(32-s)*(Y+4294967296*r)=(Y%2^s)*2^(32-s)+4294967296*(Y/2^s+2^(32-s)*r):=by
   rw[er,er]
   have h:2^(32-s)*Y=(Y%2^s)*2^(32-s)+4294967296*(Y/2^s):=by
    have:=congrArg (2^(32-s) * ·) d
    simp only[er]at this
    rw[<-this,ap (2^(32-s)) (Y%2^s),<-ak,ap (2^(32-s)) (2^s),<-e]
   rw[h]
   have g:2^(32-s)*(4294967296*r)=4294967296*(2^(32-s)*r):=aZ _ _ _
   rw[g]
   omega
  omega
 have c:X/2^s+(Y%2^s)*2^(32-s)<4294967296:=by
  have m:Y%2^s<2^s:=bZ _ a
  have i:(Y%2^s+1)*2^(32-s)<=2^s*2^(32-s):=ai _ (by omega)
  rw[aH,aN,<-e]at i
  omega
 rw[l,j,dA,aX c,k,fZ _ _ _ b]

theorem jP (xs:List Int)(h:Wd xs)(o:Nat)(ho:o<=xs.length):val xs/4294967296^o=val (xs.drop o)∧val xs%4294967296^o=val (xs.take o):=by
 have a:=gX (xs.take o) (xs.drop o)
 rw[List.take_append_drop,dG,cW ho]at a
 have b:=dE xs h o
 have c:0<4294967296^o:=aP (by decide)
 constructor
 ·rw[a,eT _ _ c,bh b,bJ]
 ·rw[a,dA,aX b]
theorem Wd.drop {xs:List Int}(h:Wd xs)(o:Nat):Wd (xs.drop o):=fun j=>by
 have:=h (o+j)
 simpa [List.getD,List.getElem?_drop]using this
theorem tC (a m:Nat):a/2^m=a/4294967296^(m/32)/2^(m%32):=by
 rw[dO,nG,<-ag,show 32*(m/32)+m%32=m from by omega]
theorem qH (ys:List Int)(h:Wd ys)(k s X Y:Nat)(hs:s<32)(hk:k+1<ys.length)(hX:ys.getD k 0=(X:Int))(hY:ys.getD (k+1) 0=(Y:Int)):val ys/2^s/4294967296^k%4294967296=X/2^s ||| Y*2^(32-s)%4294967296:=by
 have a:=h k
 rw[hX]at a
 have d:=(jP ys h k (by omega)).1
 have c:=iU ys k (by omega)
 have b:=iU ys (k+1) hk
 rw[hX,av]at c
 rw[hY,av]at b
 rw[dO,ap,<-dO,d]
 exact pT _ X Y (val (ys.drop (k+1+1))) s hs (by omega) (by rw[c,b])
theorem qI (ys:List Int)(h:Wd ys)(k s X:Nat)(hk:k+1=ys.length)(hX:ys.getD k 0=(X:Int)):val ys/2^s/4294967296^k%4294967296=X/2^s:=by
 have a:=h k
 rw[hX]at a
 have d:=(jP ys h k (by omega)).1
 have b:=iU ys k (by omega)
 have c:ys.drop (k+1)=[]:=List.drop_of_length_le (by omega)
 rw[hX,av,c]at b
 rw[dO,ap,<-dO,d,b]
 simp only[val,Nat.mul_zero,bi]
 apply aX
 exact bs (cS _ _) (by omega)
theorem oV (us ys:List Int)(h:Wd ys)(s:Nat)(hl:us.length=ys.length)(hd:∀j,j<us.length->us.getD j 0=((val ys/2^s/4294967296^j%4294967296:Nat):Int)):val us=val ys/2^s:=by
 have:=vj us (val ys/2^s) hd us.length (ao _)
 rw[di]at this
 rw[this]
 apply aX
 have a:=fX ys h
 rw[hl]
 exact bs (cS _ _) a

theorem zM (a m:Nat):a%2^m≠0 ↔ a≠0∧jK a<m:=by
 by_cases b:a=0
 ·subst b;simp
 ·obtain⟨o,k,d,rfl⟩:=kr a b
  rw[po k o d]
  constructor
  ·intro h
   refine⟨b, ?_⟩
   by_cases c:k<m
   ·exact c
   ·exfalso
    apply h
    rw[show k=m+(k-m)from by omega,ag,<-ak,ap o,ak]
    exact Nat.mul_mod_right _ _
  ·rintro⟨_,c⟩ h
   rw[show m=(m-k-1)+1+k from by omega,ag,cI,Nat.mul_eq_zero]at h
   rcases h with h|h
   ·rw[aF]at h
    have f:o%2=0:=by
     have:=Nat.mod_mul_left_mod o (2^(m-k-1)) 2
     rw[h]at this
     simpa using this.symm
    omega
   ·have:=ah k;omega
theorem xG (xs:List Int)(h:Wd xs)(o s X:Nat)(hs:s<32)(ho:o<xs.length)(hX:xs.getD o 0=(X:Int)):val xs%(4294967296^o*2^s)≠0 ↔ X%2^s≠0∨val (xs.take o)≠0:=by
 obtain⟨i,f⟩:=jP xs h o (by omega)
 have b:=iU xs o ho
 rw[hX,av]at b
 have e:=mb s hs
 have d:0<4294967296^o:=aP (by decide)
 have g:val (xs.drop o)%2^s=X%2^s:=by
  have:(4294967296:Nat)*val (xs.drop (o+1))=2^s*(2^(32-s)*val (xs.drop (o+1))):=by rw[<-ak,<-e]
  rw[b,this,dA]
 rw[Nat.mod_mul,i,f,g]
 constructor
 ·intro a
  by_cases c:X%2^s=0
  ·right;rw[c]at a;simpa using a
  ·exact Or.inl c
 ·rintro(a|a) h2
  ·have:0<4294967296^o*(X%2^s):=aQ d (by omega)
   omega
  ·omega
theorem uT (X s:Nat)(hs:s<32):X*2^(31-s)%4294967296*2%4294967296=X%2^s*2^(32-s):=by
 have e:=mb s hs
 rw[Nat.mod_mul_mod,ak,<-aF,show(31-s).succ=32-s from by omega,e,cI]
theorem mD (ys:List Int)(h:Wd ys)(k s X Y:Nat)(hs:s<32)(hk:k<ys.length)(hX:ys.getD k 0=(X:Int))(hY:ys.getD (k+1) 0=(Y:Int)):val ys/2^s/4294967296^k%4294967296=(X+Y*4294967296)/2^s%4294967296:=by
 have a:=h k
 rw[hX]at a
 by_cases c:k+1<ys.length
 ·rw[qH ys h k s X Y hs c hX hY]
  exact(pT (X+Y*4294967296) X Y 0 s hs (by omega) (by omega)).symm
 ·have b:Y=0:=by
   have:ys.getD (k+1) 0=0:=by simp[List.getD,List.getElem?_eq_none (by omega:ys.length<=k+1)]
   omega
  rw[qI ys h k s X (by omega) hX,b,aM,bi]
  exact(aX (bs (cS _ _) (by omega))).symm

theorem iG (us ys:List Int)(i k O b b' H low D y u X V0:Nat)(hk:i+k<us.length)(hu:us.getD (i+k) 0=(u:Int))(hy:(ys.getD k 0).toNat=y)(hO:O+y*X=low+4294967296*H)(hD:D+(low+b)=u+b'*4294967296)(h:val us+val (ys.take k)*X*4294967296^i=V0+(O+b)*4294967296^(i+k)) :
  val (us.set (i+k) (D:Int))+val (ys.take (k+1))*X*4294967296^i=V0+(H+b')*4294967296^(i+(k+1)):=by
 have c:=fK us (i+k) (D:Int) hk
 rw[hu,av,av]at c
 have a:=jl ys X i k
 rw[hy]at a
 rw[a,<-dH i k 1,aF]
 generalize 4294967296^(i+k)=P at c h|-
 have g:=congrArg (· * P) hO
 have f:=congrArg (· * P) hD
 simp only[aH]at g f h
 have d:(H+b')*(P*4294967296)=4294967296*H*P+b'*4294967296*P:=by
  rw[aH]
  congr 1
  ·simp only[ap,aZ]
  ·rw[ap P,ak]
 rw[d]
 omega
def fR (head u v1 v0:Nat):Nat:=min ((head*4294967296+u)/(v1*4294967296+v0)) 4294967295
theorem pL (q r v1 v0 u head:Nat)(h:q*v1+r=head)(hv:0<v1):q<=(head*4294967296+u)/(v1*4294967296+v0) ↔ q*v0<=r*4294967296+u:=by
 rw[bj (by omega),<-h,er,aH,ak]
 omega
def TI (head u v1 v0 q r:Nat):Prop:=q*v1+r=head∧fR head u v1 v0<=q∧q<=4294967297∧r<8589934592∧(4294967296<=q->r<4294967296)
def TA (head u v1 v0:Nat):Prop:=2147483648<=v1∧v1<4294967296∧v0<4294967296∧u<4294967296∧head<=v1*4294967296+v0
theorem TI.start {head u v1 v0:Nat}(h:TA head u v1 v0):TI head u v1 v0 (head/v1) (head%v1):=by
 obtain⟨n,l,p,m,o⟩:=h
 obtain⟨b,f⟩:=aA (head/v1)
 obtain⟨j,a⟩:=aA (head%v1)
 rw[<-f,<-a]
 have g:b*v1+j=head:=by rw[f,a,ap];exact bU head v1
 have k:j<v1:=by rw[a];exact bZ _ (by omega)
 have i:b<=4294967297:=by
  have:head/v1<4294967298:=by rw[bz (by omega)];omega
  omega
 refine⟨g, ?_,i,by omega,fun _=>by omega⟩
 unfold fR
 by_cases c:4294967295<=b
 ·exact aT (Nat.min_le_right _ _) c
 ·have:(head*4294967296+u)/(v1*4294967296+v0)<=b:=by
   by_cases d:(head*4294967296+u)/(v1*4294967296+v0)<=b
   ·exact d
   ·exfalso
    have e:=(bj (by omega:0<v1*4294967296+v0) (x:=b+1) (y:=head*4294967296+u)).1 (by omega)
    rw[aH,aN,er,<-ak]at e
    omega
  exact aT (Nat.min_le_left _ _) this
theorem TI.step {head u v1 v0 q r:Nat}(h:TA head u v1 v0)(t:TI head u v1 v0 q r)(hr:r<4294967296)(hq:4294967296<=q∨r*4294967296+u<q*v0):1<=q∧TI head u v1 v0 (q-1) (r+v1):=by
 obtain⟨B,s,z,y,p⟩:=h
 obtain⟨i,j,A,x,o⟩:=t
 have c:=pL q r v1 v0 u head i (by omega)
 have l:1<=q:=by
  cases hq with
  | inl a=>omega
  | inr a =>
    by_cases e:q=0
    ·rw[e]at a;omega
    ·omega
 obtain⟨b,g⟩:=aA (q-1)
 have f:q=b+1:=by omega
 rw[<-g]
 have k:b*v1+(r+v1)=head:=by rw[f,aH,aN]at i;omega
 have n:fR head u v1 v0<=b:=by
  unfold fR at j|-
  cases hq with
  | inl a=>omega
  | inr a =>
    have:¬(q<=(head*4294967296+u)/(v1*4294967296+v0)):=fun e=>by have:=c.1 e;omega
    omega
 clear c j hq o i
 refine⟨l,k,n,by omega,by omega,fun hge=>?_⟩
 obtain⟨d,m⟩:∃d,b=4294967296+d:=⟨b-4294967296,by omega⟩
 rw[m,aH]at k
 omega
theorem TI.stop {head u v1 v0 q r:Nat}(h:TA head u v1 v0)(t:TI head u v1 v0 q r)(hr:4294967296<=r∨(q<4294967296∧q*v0<=r*4294967296+u)):q=fR head u v1 v0:=by
 obtain⟨n,j,s,m,o⟩:=h
 obtain⟨c,g,l,k,f⟩:=t
 have b:=pL q r v1 v0 u head c (by omega)
 have i:q<4294967296:=by
  cases hr with
  | inl a =>
    by_cases e:4294967296<=q
    ·have:=f e;omega
    ·omega
  | inr a=>exact a.1
 have d:q*v0<=r*4294967296+u:=by
  cases hr with
  | inl a =>
    have p:q*v0<=4294967296*4294967296:=dB (by omega) (by omega)
    omega
  | inr a=>exact a.2
 have:=b.2 d
 unfold fR at g|-
 omega
theorem TI.bounds {head u v1 v0 q r:Nat}(t:TI head u v1 v0 q r):q<=4294967297∧r<8589934592:=⟨t.2.2.1,t.2.2.2.1⟩
theorem TA.bounds {head u v1 v0:Nat}(h:TA head u v1 v0):0<v1∧v1<4294967296∧v0<4294967296∧u<4294967296∧head<18446744073709551616:=by
 obtain⟨d,b,c,a,f⟩:=h
 exact⟨by omega,b,c,a,by omega⟩
theorem Fo {q v:Nat}(hq:q<4294967296)(hv:v<4294967296):q*v<18446744073709551616:=by
 have:q*v<=4294967295*4294967295:=dB (by omega) (by omega)
 omega
theorem nv (head u v1 v0:Nat):fR head u v1 v0<4294967296:=by unfold fR;omega
theorem rv (L D P lowL lowD head u v1 v0:Nat)(hL:L=lowL+(head*4294967296+u)*P)(hlL:lowL<P)(hD:D=lowD+(v1*4294967296+v0)*P)(hlD:lowD<P)(hv:2147483648<=v1)(hlt:L<4294967296*D) :
  L/D<=fR head u v1 v0∧fR head u v1 v0<=L/D+1:=by
 obtain⟨V,c⟩:=aA (v1*4294967296+v0)
 obtain⟨U,f⟩:=aA (head*4294967296+u)
 have k:4294967296<=V:=by omega
 unfold fR
 rw[<-f]at hL|-
 rw[<-c]at hD|-
 clear c f hv
 have a:0<D:=by
  have:1*P<=V*P:=ai P (by omega)
  omega
 obtain⟨Q,b⟩:=aA (L/D)
 have j:Q<4294967296:=by rw[b];exact(bz a).2 hlt
 have h:Q*D<=L:=by rw[b];exact dS L D
 rw[<-b]
 have l:Q<=U/V:=by
  rw[bj (by omega)]
  have g:Q*V*P<=Q*D:=by rw[ak];exact aR Q (by omega)
  have d:Q*V*P<(U+1)*P:=by rw[aH];omega
  have:=bP d
  omega
 refine⟨by omega, ?_⟩
 obtain⟨t,i⟩:=aA (min (U/V) 4294967295)
 rw[<-i]
 by_cases n:t<=1
 ·omega
 ·obtain⟨s,rfl⟩:∃s,t=s+1:=⟨t-1,by omega⟩
  have m:s<=Q:=by
   rw[b,bj a]
   have g:(s+1)*V<=U:=by
    have:s+1<=U/V:=by omega
    exact(bj (by omega)).1 this
   have d:(s+1)*V*P<=U*P:=ai P g
   have o:s*D<=s*((V+1)*P):=aR s (by rw[hD,aH];omega)
   have p:s*((V+1)*P)<=(s+1)*V*P:=by
    rw[<-ak]
    refine ai P ?_
    rw[er,aH]
    omega
   omega
  omega
theorem qE (X Y c d P:Nat)(hX:X<P)(hY:Y<P)(h:X+c*P=Y+d*P):X=Y:=by
 have e:=congrArg (· % P) h
 simp only[Nat.add_mul_mod_self_right]at e
 rwa [aX hX,aX hY]at e
theorem nw (us zs:List Int)(k a b:Nat)(hl:us.length=zs.length)(hs:∀j,k<=j->us.getD j 0=zs.getD j 0)(h:val us+a=val zs+b):val (us.take k)+a=val (zs.take k)+b:=by
 have e:∀n,val (us.take (k+n))+val (zs.take k)=val (zs.take (k+n))+val (us.take k):=by
  intro n
  induction n with
  | zero=>rw[bi];omega
  | succ n ih =>
    rw[<-dH,bd,bd,hs (k+n) (by omega)]
    omega
 have c:=e us.length
 rw[aY (i:=k+us.length) (l:=us) (by omega),aY (i:=k+us.length) (l:=zs) (by omega)]at c
 omega
theorem ry (L V X i m lo z C Q:Nat)(hlo:lo<4294967296^(i+m))(hV:V<4294967296^m)(hV0:0<V)(hQ:Q=L/(V*4294967296^i))(hX:Q<=X)(h:lo+V*X*4294967296^i+z*4294967296^(i+m)=L+C*4294967296^(i+m))(hz:C<=z):X=Q∧lo=L%(V*4294967296^i):=by
 have k:4294967296^(i+m)=4294967296^m*4294967296^i:=by rw[ag,ap]
 have f:0<4294967296^i:=aP (by omega)
 obtain⟨D,b⟩:=aA (V*4294967296^i)
 have a:0<D:=by rw[b];exact aQ hV0 f
 have l:D<4294967296^(i+m):=by rw[b,k];exact am hV f
 have n:V*X*4294967296^i=D*X:=by rw[b,bG]
 rw[n]at h
 rw[<-b]at hQ|-
 generalize 4294967296^(i+m)=P at *
 have o:C*P<=z*P:=ai P hz
 have g:X<=Q:=by rw[hQ,bj a,ap];omega
 have d:X=Q:=by omega
 subst d
 have c:=bU L D
 rw[<-hQ]at c
 have j:=bZ L a
 refine⟨rfl, ?_⟩
 have:lo+z*P=L%D+C*P:=by omega
 exact qE _ _ _ _ P hlo (by omega) this
theorem uo (L V X i m lo lo2 c z C Q:Nat)(hlo:lo<4294967296^(i+m))(hlo2:lo2<4294967296^(i+m))(hV:V<4294967296^m)(hV0:0<V)(hQ:Q=L/(V*4294967296^i))(hX:Q<=X)(hX2:X<=Q+1)(h:lo+V*X*4294967296^i+z*4294967296^(i+m)=L+C*4294967296^(i+m))(hz:z<C)(hb:lo2+c*4294967296^(i+m)=lo+V*4294967296^i):1<=X∧X-1=Q∧lo2=L%(V*4294967296^i):=by
 have l:4294967296^(i+m)=4294967296^m*4294967296^i:=by rw[ag,ap]
 have g:0<4294967296^i:=aP (by omega)
 obtain⟨D,a⟩:=aA (V*4294967296^i)
 have d:0<D:=by rw[a];exact aQ hV0 g
 have o:D<4294967296^(i+m):=by rw[a,l];exact am hV g
 have p:V*X*4294967296^i=D*X:=by rw[a,bG]
 rw[p]at h
 rw[<-a]at hQ hb|-
 generalize 4294967296^(i+m)=P at *
 have n:(z+1)*P<=C*P:=ai P hz
 rw[aH,aN]at n
 have b:=bU L D
 rw[<-hQ]at b
 have k:=bZ L d
 have j:X≠Q:=fun e=>by rw[e]at h;omega
 have f:X=Q+1:=by omega
 subst f
 rw[er,aG]at h
 refine⟨by omega,by omega, ?_⟩
 have:lo2+(z+c)*P=L%D+C*P:=by rw[aH];omega
 exact qE _ _ _ _ P hlo2 (by omega) this
theorem vR (zs:List Int)(k a b c:Nat)(ha:(zs.getD k 0).toNat=a)(hb:(zs.getD (k+1) 0).toNat=b)(hc:(zs.getD (k+2) 0).toNat=c):val (zs.take (k+3))=val (zs.take k)+((c*4294967296+b)*4294967296+a)*4294967296^k:=by
 rw[show k+3=k+2+1 from rfl,bd,show k+2=k+1+1 from rfl,bd,bd,ha,hb,hc]
 simp only[aF]
 generalize 4294967296^k=P
 have e:((c*4294967296+b)*4294967296+a)*P=c*P*4294967296*4294967296+b*P*4294967296+a*P:=by simp only[aH,bG _ _ P]
 rw[e]
 simp only[<-ak]
 omega
theorem pG (zs:List Int)(k a b:Nat)(ha:(zs.getD k 0).toNat=a)(hb:(zs.getD (k+1) 0).toNat=b):val (zs.take (k+2))=val (zs.take k)+(b*4294967296+a)*4294967296^k:=by
 rw[show k+2=k+1+1 from rfl,bd,bd,ha,hb]
 simp only[aF]
 generalize 4294967296^k=P
 have e:(b*4294967296+a)*P=b*P*4294967296+a*P:=by simp only[aH,bG _ _ P]
 rw[e]
 simp only[<-ak]
 omega
theorem uW (zs ys:List Int)(hwz:Wd zs)(hwy:Wd ys)(i k a b c v1 v0:Nat)(hl:ys.length=k+2)(ha:(zs.getD (i+k) 0).toNat=a)(hb:(zs.getD (i+k+1) 0).toNat=b)(hc:(zs.getD (i+k+2) 0).toNat=c)(h0:(ys.getD k 0).toNat=v0)(h1:(ys.getD (k+1) 0).toNat=v1)(hv:2147483648<=v1)(hlt:val (zs.take (i+ys.length+1))<val ys*4294967296^(i+1)) :
  TA (c*4294967296+b) a v1 v0∧val (zs.take (i+ys.length+1))/(val ys*4294967296^i)<=fR (c*4294967296+b) a v1 v0∧fR (c*4294967296+b) a v1 v0<=val (zs.take (i+ys.length+1))/(val ys*4294967296^i)+1:=by
 have r:=hwz (i+k)
 have q:=hwy (k+1)
 have p:=hwy k
 have l:val (zs.take (i+ys.length+1))=val (zs.take (i+k))+((c*4294967296+b)*4294967296+a)*4294967296^(i+k):=by rw[hl,show i+(k+2)+1=i+k+3 from by omega];exact vR zs (i+k) a b c ha hb hc
 have n:val ys=val (ys.take k)+(v1*4294967296+v0)*4294967296^k:=by
  have:=pG ys k v0 v1 h0 h1
  rwa [aY (by omega)]at this
 have f:val (zs.take (i+k))<4294967296^(i+k):=dE zs hwz (i+k)
 have g:val (ys.take k)<4294967296^k:=dE ys hwy k
 have m:0<4294967296^i:=aP (by omega)
 have j:val ys*4294967296^i=val (ys.take k)*4294967296^i+(v1*4294967296+v0)*4294967296^(i+k):=by
  rw[n,aH,ag,ak,ap (4294967296^k)]
 have h:val (ys.take k)*4294967296^i<4294967296^(i+k):=by
  rw[ag,ap (4294967296^i)];exact am g m
 have d:val (zs.take (i+ys.length+1))<4294967296*(val ys*4294967296^i):=by
  rw[aF]at hlt
  rw[aZ,ap 4294967296]
  exact hlt
 refine⟨⟨hv,by omega,by omega,by omega, ?_⟩,rv _ _ (4294967296^(i+k)) _ _ _ _ _ _ l f j h hv d⟩
 rw[l,j]at d
 generalize 4294967296^(i+k)=P at *
 by_cases e:c*4294967296+b<=v1*4294967296+v0
 ·exact e
 ·exfalso
  have o:(v1*4294967296+v0+1)*4294967296*P<=((c*4294967296+b)*4294967296+a)*P:=ai P (by omega)
  rw[aH,aH,bG]at o
  omega
theorem vz (us ys:List Int)(i k C C' S y u V0:Nat)(hk:i+k<us.length)(hu:us.getD (i+k) 0=(u:Int))(hy:(ys.getD k 0).toNat=y)(hS:S+C'*4294967296=u+y+C)(h:val us+C*4294967296^(i+k)=V0+val (ys.take k)*4294967296^i) :
  val (us.set (i+k) (S:Int))+C'*4294967296^(i+(k+1))=V0+val (ys.take (k+1))*4294967296^i:=by
 have a:=fK us (i+k) (S:Int) hk
 rw[hu,av,av]at a
 have c:val (ys.take (k+1))*4294967296^i=val (ys.take k)*4294967296^i+y*4294967296^(i+k):=by
  rw[bd,hy,aH,ag,ak,ap (4294967296^k)]
 rw[c,<-dH i k 1,aF]
 generalize 4294967296^(i+k)=P at *
 have d:=congrArg (· * P) hS
 simp only[aH]at d
 have b:C'*(P*4294967296)=C'*4294967296*P:=by rw[ap P,ak]
 rw[b]
 omega
theorem rT (us zs ys:List Int)(i O b X:Nat)(hl:us.length=zs.length)(hs:∀j,i+ys.length<=j->us.getD j 0=zs.getD j 0)(hv:val us+val ys*X*4294967296^i=val zs+(O+b)*4294967296^(i+ys.length)) :
  val (us.take (i+ys.length))+val ys*X*4294967296^i+(zs.getD (i+ys.length) 0).toNat*4294967296^(i+ys.length)=val (zs.take (i+ys.length+1))+(O+b)*4294967296^(i+ys.length):=by
 have a:=nw us zs (i+ys.length) _ _ hl hs hv
 rw[bd]
 omega
theorem uL (us zs ys:List Int)(i O b X:Nat)(hl:us.length=zs.length)(hwu:Wd us)(hwy:Wd ys)(hs:∀j,i+ys.length<=j->us.getD j 0=zs.getD j 0)(hv:val us+val ys*X*4294967296^i=val zs+(O+b)*4294967296^(i+ys.length))(hV0:0<val ys)(hX:val (zs.take (i+ys.length+1))/(val ys*4294967296^i)<=X)(hz:¬((zs.getD (i+ys.length) 0).toNat<O+b)) :
  X=val (zs.take (i+ys.length+1))/(val ys*4294967296^i)∧val (us.take (i+ys.length))=val (zs.take (i+ys.length+1))%(val ys*4294967296^i) :=
 ry _ (val ys) X i ys.length _ _ (O+b) _ (dE us hwu _) (fX ys hwy) hV0 rfl hX (rT us zs ys i O b X hl hs hv) (by omega)
theorem xn (us vs zs ys:List Int)(i O b X C:Nat)(hl:us.length=zs.length)(hl2:vs.length=us.length)(hwu:Wd us)(hwv:Wd vs)(hwy:Wd ys)(hs:∀j,i+ys.length<=j->us.getD j 0=zs.getD j 0)(hv:val us+val ys*X*4294967296^i=val zs+(O+b)*4294967296^(i+ys.length))(hV0:0<val ys)(hX:val (zs.take (i+ys.length+1))/(val ys*4294967296^i)<=X)(hX2:X<=val (zs.take (i+ys.length+1))/(val ys*4294967296^i)+1)(hz:(zs.getD (i+ys.length) 0).toNat<O+b)(hs2:∀j,i+ys.length<=j->vs.getD j 0=us.getD j 0)(hv2:val vs+C*4294967296^(i+ys.length)=val us+val ys*4294967296^i) :
  1<=X∧X-1=val (zs.take (i+ys.length+1))/(val ys*4294967296^i)∧val (vs.take (i+ys.length))=val (zs.take (i+ys.length+1))%(val ys*4294967296^i) :=
 uo _ (val ys) X i ys.length _ _ C _ (O+b) _ (dE us hwu _) (dE vs hwv _) (fX ys hwy) hV0 rfl hX hX2 (rT us zs ys i O b X hl hs hv) hz (nw vs us _ _ _ hl2 hs2 hv2)
theorem lC (ys:List Int)(k:Nat)(h:(ys.getD k 0).toNat≠0):0<val ys:=by
 by_cases e:k<ys.length
 ·have a:=fK ys k 0 e
  have b:0<(ys.getD k 0).toNat*4294967296^k:=aQ (by omega) (aP (by omega))
  simp only[Int.toNat_zero,aM,bi]at a
  omega
 ·exfalso
  apply h
  simp[List.getD,List.getElem?_eq_none (show ys.length<=k from by omega)]
theorem ox (ys:List Int)(hwy:Wd ys)(k t:Nat)(hl:ys.length=k+1)(ht:(ys.getD k 0).toNat=t):t*4294967296^k<=val ys∧val ys<(t+1)*4294967296^k:=by
 have a:=bd ys k
 rw[aY (by omega),ht]at a
 have b:=dE ys hwy k
 rw[aH,aN]
 omega
theorem jM (t s:Nat)(h0:t≠0)(h1:t<4294967296)(hs:s=32-aq t):s<32∧2147483648<=t*2^s∧(t+1)*2^s<=4294967296∧aq t<=32:=by
 obtain⟨a,b,c⟩:=cK t h0
 have d:aq t<=32:=gp t 32 h1
 have g:(2:Nat)^(aq t-1)*2^s=2147483648:=by rw[<-ag,show aq t-1+s=31 from by omega]
 have f:(2:Nat)^(aq t)*2^s=4294967296:=by rw[<-ag,show aq t+s=32 from by omega]
 refine⟨by omega, ?_, ?_,d⟩
 ·rw[<-g];exact ai _ a
 ·rw[<-f];exact ai _ b
theorem qz (ys:List Int)(hwy:Wd ys)(k t s:Nat)(hl:ys.length=k+1)(ht:(ys.getD k 0).toNat=t)(h0:t≠0)(hs:s=32-aq t) :
  (az (val ys*2^s)).length=k+1∧2147483648<=((az (val ys*2^s)).getD k 0).toNat:=by
 have l:t<4294967296:=by have:=hwy k;omega
 obtain⟨m,g,h,_⟩:=jM t s h0 l hs
 obtain⟨f,i⟩:=ox ys hwy k t hl ht
 obtain⟨V,b⟩:=aA (val ys*2^s)
 rw[<-b]
 have c:2147483648*4294967296^k<=V:=by
  rw[b]
  refine aT (ai _ g) ?_
  rw[bG]
  exact ai _ f
 have c2:V<4294967296^(k+1):=by
  rw[b,aF,ap (4294967296^k)]
  refine aE (am i (aP (by omega))) ?_
  rw[bG]
  exact ai _ h
 have a:(az V).length=k+1:=by
  have n:k<aS V:=mP V k (aT (by omega) c)
  have o:¬(k+1<aS V):=fun e=>by have:=gZ V (k+1) e;omega
  have:aS V=k+1:=by omega
  exact this
 refine⟨a, ?_⟩
 have d:=(ox (az V) (bC V) k _ a rfl).2
 rw[aV]at d
 have j:2147483648*4294967296^k<(((az V).getD k 0).toNat+1)*4294967296^k:=bs c d
 have:=bP j
 omega
theorem yu (xs ys:List Int)(hwx:Wd xs)(hwy:Wd ys)(k t s:Nat)(hl:ys.length=k+1)(ht:(ys.getD k 0).toNat=t)(h0:t≠0)(hle:ys.length<=xs.length):val xs*2^s<val ys*2^s*4294967296^(xs.length-ys.length+1):=by
 have a:=fX xs hwx
 have b:=(ox ys hwy k t hl ht).1
 have c:4294967296^k<=val ys:=aT (cw _ (by omega)) b
 rw[bG]
 refine am (aE a ?_) (aP (by omega))
 refine aT ?_ (ai _ c)
 rw[<-ag]
 exact al (by omega) (by omega)
theorem AB (qs us us':List Int)(V r m d X:Nat)(hr:r<qs.length)(h0:qs.getD r 0=0)(hd:d=val (us.take (r+m+1))/(V*4294967296^r))(hlo:val (us'.take (r+m))=val (us.take (r+m+1))%(V*4294967296^r))(hV:0<V)(hlt:val (us.take (r+m+1))<V*4294967296^(r+1))(h:val qs*V+val (us.take (r+m+1))=X) :
  val (qs.set r (d:Int))*V+val (us'.take (r+m))=X∧val (us'.take (r+m))<V*4294967296^r∧d<4294967296:=by
 have a:=fK qs r (d:Int) hr
 rw[h0,av]at a
 simp only[Int.toNat_zero,aM,bi]at a
 have b:0<V*4294967296^r:=aQ hV (aP (by omega))
 have c:=bU (val (us.take (r+m+1))) (V*4294967296^r)
 rw[<-hd,<-hlo]at c
 refine⟨?_,by rw[hlo];exact bZ _ b, ?_⟩
 ·rw[a,aH,bG d,ak d,ap d,<-h]
  omega
 ·rw[hd,bz b]
  rw[aF,<-ak,ap]at hlt
  exact hlt
theorem yv (A V0 s q l:Nat)(h:q*(V0*2^s)+l=A*2^s)(hl:l<V0*2^s):q=A/V0∧l/2^s=A%V0:=by
 have a:0<2^s:=aP (by omega)
 have d:A*2^s/(V0*2^s)=A/V0:=cQ A V0 a
 have b:A*2^s%(V0*2^s)=A%V0*2^s:=cI _ _ _
 have f:A*2^s/(V0*2^s)=q:=by
  rw[<-h,ap q,Nat.mul_add_div (by omega),bh hl,bi]
 have c:A*2^s%(V0*2^s)=l:=by
  rw[<-h,ap q,Nat.mul_add_mod,aX hl]
 refine⟨by rw[<-d,f], ?_⟩
 rw[<-c,b,eg _ a]
theorem uh (qs xs:List Int)(b r q' rest rest' x A:Nat)(hr:r<qs.length)(h0:qs.getD r 0=0)(hx:(xs.getD r 0).toNat=x)(hd:q'*b+rest'=rest*4294967296+x)(h:val qs*b+rest*4294967296^(r+1)+val (xs.take (r+1))=A) :
  val (qs.set r (q':Int))*b+rest'*4294967296^r+val (xs.take r)=A:=by
 have a:=fK qs r (q':Int) hr
 rw[h0,av]at a
 simp only[Int.toNat_zero,aM,bi]at a
 rw[bd,hx,aF,<-ak]at h
 rw[a,aH,bG q']
 generalize 4294967296^r=P at *
 have e:=congrArg (· * P) hd
 simp only[aH]at e
 rw[bG rest]at e
 omega
theorem rd (rest x b:Nat)(hb:0<b)(hr:rest<b):(rest*4294967296+x)/b*b+(rest*4294967296+x)%b=rest*4294967296+x∧(rest*4294967296+x)%b<b∧(x<4294967296->(rest*4294967296+x)/b<4294967296):=by
 refine⟨by rw[ap];exact bU _ _,bZ _ hb,fun hx=>?_⟩
 rw[bz hb]
 have:(rest+1)*4294967296<=b*4294967296:=ai _ hr
 rw[ap 4294967296]
 omega
theorem D8 (q b r A:Nat)(h:q*b+r=A)(hr:r<b):q=A/b∧r=A%b:=by
 subst h
 rw[ap q,Nat.mul_add_div (by omega),bh hr,Nat.mul_add_mod,aX hr]
 exact⟨rfl,rfl⟩
def nk (a b:Nat):List Int × List Int × Int:=if b=0 then ([],[],1) else if 16384<aS a∨16384<aS b then ([],[],2) else (az (a/b),az (a%b),0)
def jJ (z y v:Nat):Nat:=if (z*4294967296+y)/(v+1)=0 then 1 else (z*4294967296+y)/(v+1)
theorem sn (zs ys:List Int)(hwy:Wd ys)(k z y v:Nat)(hl:ys.length=k+1)(hzl:zs.length=k+2)(hz:(zs.getD (k+1) 0).toNat=z)(hy:(zs.getD k 0).toNat=y)(hv:(ys.getD k 0).toNat=v)(hle:val ys<=val zs) :
  1<=jJ z y v∧jJ z y v*val ys<=val zs:=by
 have b:=pG zs k y z hy hz
 rw[aY (by omega)]at b
 have f:=(ox ys hwy k v hl hv).2
 unfold jJ
 by_cases c:(z*4294967296+y)/(v+1)=0
 ·rw[if_pos c,aN]
  exact⟨ao _,hle⟩
 ·rw[if_neg c]
  refine⟨Nat.one_le_iff_ne_zero.2 c, ?_⟩
  obtain⟨x,a⟩:=aA ((z*4294967296+y)/(v+1))
  rw[<-a]
  have d:x*(v+1)<=z*4294967296+y:=by rw[a];exact dS _ _
  have g:x*val ys<=x*((v+1)*4294967296^k):=aR x (by omega)
  have h:x*((v+1)*4294967296^k)<=(z*4294967296+y)*4294967296^k:=by rw[<-ak];exact ai _ d
  omega
theorem uA (us zs:List Int)(V X C n:Nat)(hl:us.length=n)(hw:Wd us)(hle:V*X<=val zs)(h:val us+V*X=val zs+C*4294967296^n):C=0∧val us=val zs-V*X:=by
 have a:=fX us hw
 rw[hl]at a
 have:C=0:=by
  by_cases e:C=0
  ·exact e
  ·exfalso
   have b:1*4294967296^n<=C*4294967296^n:=ai _ (by omega)
   omega
 subst this
 rw[aM]at h
 exact⟨rfl,by omega⟩
theorem uv (fs rs:List Int)(x:Nat)(h0:fs.getD 0 0=(x:Int))(n:Nat)(h:∀t,0<t->t<=n->fs.getD t 0=rs.getD (t-1) 0):val (fs.take (n+1))=x+4294967296*val (rs.take n):=by
 induction n with
 | zero=>rw[bd,h0];simp[val]
 | succ n ih =>
   rw[bd,ih (fun t a b=>h t a (by omega)),bd,h (n+1) (by omega) (by omega),b6,aF,er]
   have e:(rs.getD n 0).toNat*(4294967296^n*4294967296)=4294967296*((rs.getD n 0).toNat*4294967296^n):=by
    rw[<-ak,ap]
   omega
theorem ux (fs rs:List Int)(x m V:Nat)(hl:fs.length=m+1)(hrl:rs.length=m+1)(hV:V<=4294967296^m)(hr:val rs<V)(hx:x<4294967296)(h0:fs.getD 0 0=(x:Int))(h:∀t,0<t->t<=m->fs.getD t 0=rs.getD (t-1) 0):val fs=val rs*4294967296+x∧val fs<4294967296*V:=by
 have b:=uv fs rs x h0 m h
 rw[aY (by omega)]at b
 have a:=bd rs m
 rw[aY (by omega)]at a
 have c:(rs.getD m 0).toNat=0:=by
  by_cases e:(rs.getD m 0).toNat=0
  ·exact e
  ·exfalso
   have:1*4294967296^m<=(rs.getD m 0).toNat*4294967296^m:=ai _ (by omega)
   omega
 rw[c,aM,bi]at a
 rw[<-a]at b
 refine⟨by omega, ?_⟩
 have:4294967296*(val rs+1)<=4294967296*V:=aR _ hr
 omega
theorem AJ (qs us:List Int)(V r D T R R' U x:Nat)(hr:r<qs.length)(h0:qs.getD r 0=0)(hx:(us.getD r 0).toNat=x)(hT:T=R*4294967296+x)(hD:D*V+R'=T)(h:val qs*V+R*4294967296^(r+1)+val (us.take (r+1))=U) :
  val (qs.set r (D:Int))*V+R'*4294967296^r+val (us.take r)=U :=
 uh qs us V r D R R' x U hr h0 hx (by omega) h
theorem uw (ys:List Int)(hwy:Wd ys)(t:Nat)(ht:tl ys=t+1):(31-(aq (val ys)-1)%32=32-aq (ys.getD t 0).toNat)∧(ys.getD t 0).toNat≠0∧1<=aq (val ys):=by
 have g:=m6 ys hwy t ht
 have b:ys.getD t 0≠0:=by
  rcases(jt ys ys.length).2 with h|h
  ·have:tl ys=0:=h
   omega
  ·have e:gK ys ys.length-1=t:=by
    have:gK ys ys.length=t+1:=ht
    omega
   rw[e]at h
   exact h
 have f:=hwy t
 have a:(ys.getD t 0).toNat≠0:=by omega
 obtain⟨_,_,c⟩:=cK _ a
 have d:aq (ys.getD t 0).toNat<=32:=gp _ 32 (by omega)
 exact⟨by omega,a,by omega⟩
theorem uU (xs:List Int)(hwx:Wd xs)(s:Nat)(hs:s<32):(az (val xs*2^s)).length<=xs.length+1:=by
 have d:val xs*2^s<4294967296^(xs.length+1):=by
  have a:=fX xs hwx
  have b:2^s<=4294967296:=by
   have:(2:Nat)^s<=2^32:=al (by omega) (by omega)
   exact this
  rw[aF]
  exact aE (am a (aP (by omega))) (aR _ b)
 by_cases e:(az (val xs*2^s)).length<=xs.length+1
 ·exact e
 ·exfalso
  have c:xs.length+1<aS (val xs*2^s):=by unfold aS;omega
  have:=gZ _ _ c
  omega
theorem F4 (D V X F T:Nat)(h:D*V+F=T)(hT:T<4294967296*V)(hX:X*V<=F):X<4294967296∧D<4294967296∧(D+X)*V+(F-V*X)=T∧D+X<4294967296:=by
 have e:(D+X)*V+(F-V*X)=T:=by
  rw[aH,ap V X]
  omega
 have a:(D+X)*V<4294967296*V:=by omega
 have b:=bP a
 exact⟨by omega,by omega,e,b⟩
theorem D7 (D V F T:Nat)(h:D*V+F=T)(hT:T<4294967296*V):D<4294967296:=by
 have a:D*V<4294967296*V:=by omega
 exact bP a
def IA (a s:Nat):Prop:=s*s<=a∧a<(s+1)*(s+1)
def Gt (a:Nat):Nat:=if h:a=0 then 0 else if (2*Gt (a/4)+1)*(2*Gt (a/4)+1)<=a then 2*Gt (a/4)+1 else 2*Gt (a/4)
 termination_by a
 decreasing_by all_goals omega
def RI (v r e:Nat):Prop:=(∃x,r=x*2^e)∧r+2^e<=4294967296∧r*r<=v∧v<(r+2^e)*(r+2^e)
theorem iP (n:Nat):(az n).length=0 ↔ n=0:=by
 constructor
 ·intro e
  have:=List.length_eq_zero_iff.1 e
  have h:=aV n
  rw[this]at h
  exact h.symm
 ·intro e
  rw[e,dF];rfl
theorem He (x:Nat)(h:x<4294967296):Wd [(x:Int)]:=Wd.mk (by omega) Wd.nil
theorem pj:az 1=[1]:=by rw[kH 1 (by decide)];simp[dF]
theorem nN:aS 1=1:=by unfold aS;rw[pj];rfl
end Go.Proofs.YtmpjcknaelgnoaaGreatDoor
