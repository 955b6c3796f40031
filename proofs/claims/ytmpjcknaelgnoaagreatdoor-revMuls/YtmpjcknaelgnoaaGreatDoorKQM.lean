import Derived.Test.YtmpjcknaelgnoaaGreatDoorKAL
import Derived.Below
import Derived.Laws.BitsAllLaws
import Derived.Laws.FloatArith
import Derived.Lib.BitFns
import Derived.RowKit
namespace Go.Proofs.YtmpjcknaelgnoaaGreatDoor
open Go.RowKit
namespace Fq
open Ieee

def rg (f:Format)(x:Nat):Nat:=x%f.signWeight
def ng (f:Format)(x:Nat):Bool:=x/f.signWeight%2 == 1
def pl (f:Format)(x:Nat):Int:=if ng f x then -(rg f x:Int) else rg f x
def eE (f:Format)(r:Nat):Nat:=if r<f.binade then 0 else r/f.binade-1
def mM (f:Format)(r:Nat):Nat:=if r<f.binade then r else f.binade+r%f.binade
def vV (f:Format)(r:Nat):Nat:=mM f r*2^eE f r

theorem iQ (f:Format):0<f.binade:=ah _

theorem sR (f:Format)(r:Nat):vV f r<vV f (r+1):=by
 have a:=iQ f
 unfold vV mM eE
 generalize f.binade=B at *
 by_cases i:r+1<B
 ·have:r<B:=by omega
  simp[i,this]
 ·by_cases g:r<B
  ·have m:r+1=B:=by omega
   simp[g,m]
   rw[Nat.div_self a];simp;omega
  ·have o:1<=r/B:=(bj a).2 (by omega)
   simp only[i,g,if_false]
   have j:=bU r B
   have n:=bZ r a
   by_cases h:r%B+1<B
   ·have c:(r+1)/B=r/B:=by
     rw[show r+1=(r%B+1)+B*(r/B)from by omega,eT _ _ a,bh h];omega
    have b:(r+1)%B=r%B+1:=by
     rw[show r+1=(r%B+1)+B*(r/B)from by omega,dA,aX h]
    rw[c,b]
    exact am (by omega) (ah _)
   ·have d:r+1=B*(r/B+1):=by rw[er];omega
    have c:(r+1)/B=r/B+1:=by rw[d,Nat.mul_div_cancel_left _ a]
    have b:(r+1)%B=0:=by rw[d,Nat.mul_mod_right]
    rw[c,b]
    obtain⟨k,l⟩:∃k,r/B=k+1:=⟨r/B-1,by omega⟩
    rw[l]
    simp only[b6,bi]
    rw[aF,ap (2^k) 2,<-ak]
    exact am (by omega) (ah _)

theorem lF (f:Format){r s:Nat}(h:r<s):vV f r<vV f s:=by
 induction s with
 | zero=>omega
 | succ s ih =>
   by_cases e:r=s
   ·subst e;exact sR f r
   ·exact Nat.lt_trans (ih (by omega)) (sR f s)

theorem nu (f:Format)(r s:Nat):vV f r<vV f s ↔ r<s:=by
 constructor
 ·intro h
  by_cases c:r<s
  ·exact c
  ·exfalso
   by_cases e:r=s
   ·subst e;omega
   ·have:=lF f (r:=s) (s:=r) (by omega);omega
 ·exact lF f

theorem mr (f:Format)(r s:Nat):vV f r=vV f s ↔ r=s:=by
 constructor
 ·intro h
  by_cases c:r<s
  ·have:=lF f c;omega
  ·by_cases d:s<r
   ·have:=lF f d;omega
   ·omega
 ·intro h;rw[h]

theorem gj (f:Format):vV f 0=0:=by
 unfold vV mM;simp[iQ f]

theorem jZ (f:Format)(x:Nat)(h:rg f x<f.infRung) :
  f.read x=.number (ng f x) (mM f (rg f x)) (f.leastPlace+(eE f (rg f x):Nat)):=by
 unfold Format.read mM eE
 change (if rg f x<f.binade then _ else _)=_
 by_cases c:rg f x<f.binade
 ·rw[if_pos c,if_pos c,if_pos c,Int.natCast_zero,Int.add_zero];rfl
 ·rw[if_neg c]
  change (if rg f x<f.infRung then _ else _)=_
  rw[if_pos h,if_neg c,if_neg c];rfl

theorem jY (f:Format)(x:Nat)(hb:f.binade<=f.infRung)(h:rg f x=f.infRung) :
  f.read x=.infinity (ng f x):=by
 unfold Format.read
 change (if rg f x<f.binade then _ else if rg f x<f.infRung then _ else if rg f x=f.infRung then _ else _)=_
 rw[if_neg (by omega),if_neg (by omega),if_pos h];rfl

theorem ql (f:Format)(x:Nat)(hb:f.binade<=f.infRung)(h:f.infRung<rg f x) :
  f.read x=.nan (ng f x) (rg f x-f.infRung):=by
 unfold Format.read
 change (if rg f x<f.binade then _ else if rg f x<f.infRung then _ else if rg f x=f.infRung then _ else _)=_
 rw[if_neg (by omega),if_neg (by omega),if_neg (by omega)];rfl

theorem vw {a b c d:Int}(h1:a<b ↔ c<d)(h2:a=b ↔ c=d):compare a b=compare c d:=by
 simp only[compare,compareOfLessAndEq,h1,h2]

theorem lk {a b:Int}(h:a<b):compare a b=.lt:=by simp[compare,compareOfLessAndEq,h]
theorem lp {a b:Int}(h:b<a):compare a b=.gt:=by
 have c:¬a<b:=by omega
 have d:a≠b:=by omega
 simp[compare,compareOfLessAndEq,c,d]
theorem mX {a b:Int}(h:a=b):compare a b=.eq:=by subst h;simp[compare,compareOfLessAndEq]

theorem uu (s:Bool)(m k:Nat):signed s m k=if s then -((m*2^k:Nat):Int) else ((m*2^k:Nat):Int):=by
 unfold signed;rw[dw]

def sV (f:Format)(x:Nat):Int:=if ng f x then -(vV f (rg f x):Int) else vV f (rg f x)

theorem EL (f:Format)(x y:Nat):sV f x<sV f y ↔ pl f x<pl f y:=by
 have c:=nu f (rg f x) (rg f y)
 have d:=nu f (rg f y) (rg f x)
 have b:=mr f (rg f x) 0
 have a:=mr f (rg f y) 0
 rw[gj]at b a
 unfold sV pl
 cases ng f x<;>cases ng f y<;>simp<;>omega

theorem EM (f:Format)(x y:Nat):sV f x=sV f y ↔ pl f x=pl f y:=by
 have c:=mr f (rg f x) (rg f y)
 have b:=mr f (rg f x) 0
 have a:=mr f (rg f y) 0
 rw[gj]at b a
 unfold sV pl
 cases ng f x<;>cases ng f y<;>simp<;>omega

theorem Bf (f:Format)(x:Nat)(b:Int)(c:Nat)(hb:b=f.leastPlace+(c:Nat))(hc:c<=eE f (rg f x)) :
  signed (ng f x) (mM f (rg f x)) (f.leastPlace+(eE f (rg f x):Nat)-b).toNat*(2^c:Nat)=sV f x:=by
 subst hb
 rw[uu,show(f.leastPlace+(eE f (rg f x):Nat)-(f.leastPlace+(c:Nat)):Int).toNat=eE f (rg f x)-c from by omega]
 unfold sV vV
 have e:mM f (rg f x)*2^eE f (rg f x)=mM f (rg f x)*2^(eE f (rg f x)-c)*2^c:=by
  rw[ak,<-ag,Nat.sub_add_cancel hc]
 rw[e]
 cases ng f x
 ·simp only[Bool.false_eq_true,if_false];exact(aK _ _).symm
 ·simp only[if_true];rw[bF];congr 1

theorem uK (f:Format)(x y:Nat)(hx:rg f x<f.infRung)(hy:rg f y<f.infRung) :
  f.order x y=some (compare (pl f x) (pl f y)):=by
 unfold Format.order
 rw[jZ f x hx,jZ f y hy]
 simp only[Datum.order]
 congr 1
 have b:min (f.leastPlace+(eE f (rg f x):Nat)) (f.leastPlace+(eE f (rg f y):Nat))=f.leastPlace+((min (eE f (rg f x)) (eE f (rg f y)):Nat):Int):=by omega
 have a:=Bf f x _ _ b (Nat.min_le_left _ _)
 have c:=Bf f y _ _ b (Nat.min_le_right _ _)
 have d:(0:Int)<((2^(min (eE f (rg f x)) (eE f (rg f y))):Nat):Int):=by exact_mod_cast ah _
 refine vw ?_ ?_
 ·rw[<-EL,<-a,<-c]
  exact(Int.mul_lt_mul_right d).symm
 ·rw[<-EM,<-a,<-c]
  constructor
  ·intro h;rw[h]
  ·intro h;exact dQ (by omega) h

theorem uJ (f:Format)(x y:Nat)(hb:f.binade<=f.infRung)(hx:rg f x<=f.infRung)(hy:rg f y<=f.infRung) :
  f.order x y=some (compare (pl f x) (pl f y)):=by
 have d:=iQ f
 by_cases c:rg f x<f.infRung
 ·by_cases b:rg f y<f.infRung
  ·exact uK f x y c b
  ·have a:rg f y=f.infRung:=by omega
   unfold Format.order
   rw[jZ f x c,jY f y hb a]
   simp only[Datum.order]
   congr 1
   unfold pl
   rw[a]
   cases ng f x<;>cases ng f y<;>simp only[Bool.false_eq_true,if_false,if_true]<;>symm<;>first|(apply lk;omega)|(apply lp;omega)
 ·have ex:rg f x=f.infRung:=by omega
  by_cases b:rg f y<f.infRung
  ·unfold Format.order
   rw[jY f x hb ex,jZ f y b]
   simp only[Datum.order]
   congr 1
   unfold pl
   rw[ex]
   cases ng f x<;>cases ng f y<;>simp only[Bool.false_eq_true,if_false,if_true]<;>symm<;>first|(apply lk;omega)|(apply lp;omega)
  ·have a:rg f y=f.infRung:=by omega
   unfold Format.order
   rw[jY f x hb ex,jY f y hb a]
   simp only[Datum.order]
   congr 1
   unfold pl
   rw[ex,a]
   cases ng f x<;>cases ng f y<;>simp only[Bool.false_eq_true,if_false,if_true]
   ·rw[mX rfl];rfl
   ·rw[lp (by omega)];rfl
   ·rw[lk (by omega)];rfl
   ·rw[mX rfl];rfl

theorem mK (f:Format)(x y:Nat)(hb:f.binade<=f.infRung)(hx:f.infRung<rg f x):f.order x y=none:=by
 unfold Format.order;rw[ql f x hb hx];rfl

theorem lU (f:Format)(x y:Nat)(hb:f.binade<=f.infRung)(hy:f.infRung<rg f y):f.order x y=none:=by
 unfold Format.order;rw[ql f y hb hy]
 cases f.read x<;>rfl



def gU (n:Bool)(m:Nat):Int:=if n then -(m:Int) else m
def wD (n:Bool)(m:Nat):Nat:=if n then 9223372036854775808+m else m
theorem Be:double.signWeight=9223372036854775808:=by decide +kernel
theorem yc:double.infRung=9218868437227405312:=by decide +kernel
theorem D9:double.binade=4503599627370496:=by decide +kernel
theorem yE:double.binade<=double.infRung:=by rw[D9,yc];decide
theorem Em (n:Bool)(m:Nat)(h:m<9223372036854775808):rg double (wD n m)=m:=by
 unfold rg wD;rw[Be];cases n<;>simp<;>omega
theorem Hm (n:Bool)(m:Nat)(h:m<9223372036854775808):ng double (wD n m)=n:=by
 unfold ng wD;rw[Be];cases n<;>simp<;>omega
theorem GY (x:Nat)(h:x<18446744073709551616):∃n m,m<9223372036854775808∧x=wD n m:=by
 by_cases c:x<9223372036854775808
 ·exact⟨false,x,c,rfl⟩
 ·exact⟨true,x-9223372036854775808,by omega,by unfold wD;simp;omega⟩
theorem CY (n n':Bool)(m m':Nat)(h:m<=9218868437227405312)(h':m'<=9218868437227405312) :
  FloatKind.f64.format.order (wD n m) (wD n' m')=some (compare (gU n m) (gU n' m')):=by
 have e:=uJ double (wD n m) (wD n' m') yE (by rw[Em n m (by omega),yc];exact h) (by rw[Em n' m' (by omega),yc];exact h')
 have b:pl double (wD n m)=gU n m:=by unfold pl gU;rw[Em n m (by omega),Hm n m (by omega)]
 have a:pl double (wD n' m')=gU n' m':=by unfold pl gU;rw[Em n' m' (by omega),Hm n' m' (by omega)]
 rw[b,a]at e;exact e
theorem kY (n:Bool)(m y:Nat)(h:9218868437227405312<m)(h2:m<9223372036854775808):FloatKind.f64.format.order (wD n m) y=none :=
 mK double _ _ yE (by rw[Em n m h2,yc];exact h)
theorem nJ (n:Bool)(m y:Nat)(h:9218868437227405312<m)(h2:m<9223372036854775808):FloatKind.f64.format.order y (wD n m)=none :=
 lU double _ _ yE (by rw[Em n m h2,yc];exact h)
theorem yS (k m:Nat)(h:m<2^k):m ^^^ 2^k=2^k+m:=by
 apply eS
 intro i
 rw[Nat.testBit_xor,Nat.testBit_two_pow]
 by_cases c:k=i
 ·subst c
  rw[Nat.testBit_two_pow_add_eq,eG h];simp
 ·by_cases d:i<k
  ·rw[Nat.testBit_two_pow_add_gt d];simp[c]
  ·have g:k<i:=by omega
   have b:m<2^i:=aE h (al (by decide) (by omega))
   have a:2^k+m<2^i:=aE (by rw[aF];omega:2^k+m<2^(k+1)) (al (by decide) (by omega))
   rw[eG b,eG a];simp[c]

theorem Fl (n:Bool)(m:Nat)(h:m<9223372036854775808):Op.negFloat .f64 (wD n m)=wD (!n) m:=by
 have e:=yS 63 m h
 have a:Op.negFloat .f64 (wD n m)=wD n m ^^^ 2^63:=rfl
 rw[a]
 cases n
 ·show m ^^^ 2^63=_;rw[e];rfl
 ·show(2^63+m) ^^^ 2^63=m
  rw[<-e,Nat.xor_assoc,Nat.xor_self,Nat.xor_zero]
theorem G3 (n:Bool)(m:Nat)(h:m<9223372036854775808):RowKit.wrap64 (bits .andNot .u64 ((wD n m:Nat):Int) 9223372036854775808)=(m:Int):=by
 have e:=u64_andNot_nat (wD n m) 9223372036854775808 (by unfold wD;split<;>omega) (by decide)
 have b:wD n m &&& (18446744073709551615-9223372036854775808)=m:=by
  have:=cG (wD n m) 63
  rw[show(18446744073709551615-9223372036854775808:Nat)=2^63-1 from by decide,this]
  unfold wD;split<;>omega
 rw[b]at e
 have a:bits .andNot .u64 ((wD n m:Nat):Int) 9223372036854775808=(m:Int):=e
 rw[a];unfold RowKit.wrap64;omega
theorem GF (n:Bool)(m:Nat)(h:m<9223372036854775808):(((wD n m:Nat):Int)/9223372036854775808 != 0)=n:=by
 unfold wD;cases n<;>simp<;>omega
theorem vK {x:Int}(h:0<=x)(h2:x<18446744073709551616):IntKind.u64.wrap x=x:=by
 rw[IntKind.wrap_u64];omega
theorem il {x:Int}(h:-9223372036854775808<=x)(h2:x<9223372036854775808):wrap64 x=x:=by
 unfold wrap64;omega
def Cm (B I:Nat)(m:Nat):Nat:=if m<B then m else if m<I then B+m%B else m%B
def DS (L:Int)(B I:Nat)(m:Nat):Int:=if m<B then L else if m<I then L+(m/B:Nat)-1 else L
def uy:=Cm 4503599627370496 9218868437227405312
def vi:=DS (-1074) 4503599627370496 9218868437227405312
theorem GZ (n:Bool)(m:Nat)(h:m<9223372036854775808):(FloatKind.f64.format.order (wD n m) 0 == some .eq)=(m == 0):=by
 by_cases c:9218868437227405312<m
 ·rw[kY n m 0 c h];simp;omega
 ·have e:FloatKind.f64.format.order (wD n m) 0=some (compare (gU n m) 0):=CY n false m 0 (by omega) (by omega)
  rw[e];by_cases d:m=0
  ·subst d;rw[mX (by unfold gU;split<;>rfl)];simp
  ·have a:(m == 0)=false:=by simp[d]
   rw[a]
   cases n
   ·rw[lp (by show(0:Int)<(m:Int);omega)];rfl
   ·rw[lk (by show -(m:Int)<0;omega)];rfl
def ij (x y:Int):Int:=if x<y then -1 else if y<x then 1 else 0

theorem xe (n:Bool)(m:Nat):-(m:Int)<=gU n m∧gU n m<=m:=by unfold gU;cases n<;>simp<;>omega

def fD (p:Int):Nat:=wD (decide (p<0)) p.natAbs
end Fq
namespace Fq
open Ieee
theorem A5 (f:Format)(q k:Nat)(h1:f.binade<=k)(h2:k<2*f.binade):vV f (q*f.binade+k)=k*2^q:=by
 have c:=iQ f
 unfold vV mM eE
 have a:¬(q*f.binade+k<f.binade):=by have:=aW (q*f.binade);omega
 have d:(q*f.binade+k)/f.binade=q+1:=by
  rw[show q*f.binade+k=(k-f.binade)+(q+1)*f.binade from by rw[aH];omega,Nat.add_mul_div_right _ _ c,bh (by omega)];omega
 have b:(q*f.binade+k)%f.binade=k-f.binade:=by
  rw[show q*f.binade+k=(k-f.binade)+(q+1)*f.binade from by rw[aH];omega,Nat.add_mul_mod_self_right,aX (by omega)]
 rw[if_neg a,if_neg a,d,b,show f.binade+(k-f.binade)=k from by omega,b6]

def Hg (m:Nat):Nat:=vV double m
end Fq
namespace Fq
open Ieee
theorem nY (o:Nat)(h0:o≠0)(h:o<18446744073709551616):0<Lib.bitLen o∧Lib.bitLen o<=64∧2^(Lib.bitLen o-1)<=o∧o<2^Lib.bitLen o:=by
 have a:(2:Nat)^64=18446744073709551616:=by decide
 have c:∀k o:Nat,o≠0->o<2^64->o.log2=k->Lib.bitLen o=k+1:=by
  intro k
  induction k with
  | zero =>
    intro o h0 h b
    have i:o<2^1:=(Nat.log2_lt h0).1 (by omega)
    have:o=1:=by omega
    subst this;decide
  | succ k ih =>
    intro o h0 h b
    have f:2^(k+1)<=o:=by rw[<-b];exact Nat.log2_self_le h0
    have g:=ah k
    rw[aF]at f
    have d:(o/2).log2=k:=by rw[Nat.log2_def]at b;rw[if_pos (by omega)]at b;omega
    rw[Lib.bitLen_half o h0 h,ih (o/2) (by omega) (by omega) d];omega
 have e:=c o.log2 o h0 (by rw[a];exact h) rfl
 have l:=(Nat.log2_lt h0 (k:=64)).2 (by rw[a];exact h)
 rw[e]
 exact⟨by omega,by omega,by rw[b6];exact Nat.log2_self_le h0,Nat.lt_log2_self⟩

def xU (o:Nat)(E:Int):Bool:=decide (Lib.bitLen o<=53) && decide (-1074<=E) && decide (E+Lib.bitLen o<=1024)
def xS (o:Nat)(E:Int):Nat:=min (53-Lib.bitLen o) (E+1074).toNat
def Do (o:Nat)(E:Int):Nat:=((E+1074).toNat-xS o E)*4503599627370496+o*2^xS o E
theorem mR (o:Nat)(E:Int):xU o E=true ↔ Lib.bitLen o<=53∧-1074<=E∧E+Lib.bitLen o<=1024:=by
 unfold xU;simp only[Bool.and_eq_true,decide_eq_true_eq,and_assoc]
theorem xT (o:Nat)(h0:o≠0)(h:o<18446744073709551616)(E:Int)(hj:xU o E=true) :
  0<Do o E∧Do o E<9218868437227405312∧Hg (Do o E)=o*2^(E+1074).toNat∧o*2^xS o E<9007199254740992:=by
 obtain⟨t,z,r⟩:=(mR o E).1 hj
 obtain⟨y,x,g,f⟩:=nY o h0 h
 obtain⟨n,u⟩:=aA (Lib.bitLen o)
 obtain⟨X,s⟩:∃X:Nat,X=(E+1074).toNat:=⟨_,rfl⟩
 unfold Do xS
 rw[<-u]at t r y x g f|-
 rw[<-s]
 have i:(2:Nat)^52=4503599627370496:=by decide
 have b:=D9
 by_cases c:53-n<=X
 ·rw[cW c]
  have l:4503599627370496<=o*2^(53-n):=by
   rw[<-i]
   refine aT (Nat.le_of_eq ?_) (ai _ g)
   rw[<-ag];congr 1;omega
  have a:o*2^(53-n)<9007199254740992:=by
   have m:(2:Nat)^53=9007199254740992:=by decide
   rw[<-m]
   refine aE (am f (ah _)) (Nat.le_of_eq ?_)
   rw[<-ag];congr 1;omega
  obtain⟨M,k⟩:=aA (o*2^(53-n))
  rw[<-k]at l a|-
  obtain⟨q,p⟩:=aA (X-(53-n))
  rw[<-p]
  have j:=A5 double q M (by omega) (by omega)
  rw[b]at j
  refine⟨by omega, ?_, ?_,a⟩
  ·have d:q<=2045:=by omega
   have:=ai 4503599627370496 d
   omega
  ·show vV double (q*4503599627370496+M)=_
   rw[j,k,ak,<-ag];congr 2;omega
 ·rw[Nat.min_eq_right (by omega),Nat.sub_self,aM,bJ]
  have a:o*2^X<4503599627370496:=by
   rw[<-i]
   refine aE (am f (ah _)) ?_
   rw[<-ag];exact al (by decide) (by omega)
  refine⟨aQ (by omega) (ah _),by omega, ?_,by omega⟩
  show vV double (o*2^X)=_
  unfold vV mM eE
  rw[if_pos (by rw[b];exact a),if_pos (by rw[b];exact a),aB,aG]

end Fq
namespace Fq
open Ieee
theorem Hf (m:Nat)(hm:m<9218868437227405312):uy m*2^(vi m+1074).toNat=Hg m∧uy m<9007199254740992∧(m=0 ↔ uy m=0)∧-1074<=vi m∧vi m<=971:=by
 have a:=D9
 by_cases c:m<4503599627370496
 ·have d:uy m=m:=by unfold uy Cm;rw[if_pos c]
  have b:vi m = -1074:=by unfold vi DS;rw[if_pos c]
  rw[d,b,show(-1074+1074:Int).toNat=0 from rfl,aB,aG]
  refine⟨?_,by omega,Iff.rfl,by omega,by omega⟩
  show m=vV double m
  unfold vV mM eE
  rw[a,if_pos c,if_pos c,aB,aG]
 ·have d:uy m=4503599627370496+m%4503599627370496:=by unfold uy Cm;rw[if_neg c,if_pos hm]
  have b:vi m = -1074+m/4503599627370496-1:=by unfold vi DS;(repeat' split)<;>omega
  rw[d,b]
  have h:=bU m 4503599627370496
  have i:1<=m/4503599627370496:=by omega
  have j:=bZ m (by decide:0<4503599627370496)
  have g:m/4503599627370496<=2046:=by omega
  refine⟨?_,by omega,by omega,by omega,by omega⟩
  rw[show(-1074+(m:Int)/4503599627370496-1+1074).toNat=m/4503599627370496-1 from by omega]
  have f:=A5 double (m/4503599627370496-1) (4503599627370496+m%4503599627370496) (by rw[a];omega) (by rw[a];omega)
  rw[<-f]
  show vV double _=vV double m
  congr 1
  rw[a]
  have:(m/4503599627370496-1)*4503599627370496+4503599627370496=m/4503599627370496*4503599627370496:=by rw[Nat.sub_mul,aN,Nat.sub_add_cancel (by omega)]
  omega
end Fq
end Go.Proofs.YtmpjcknaelgnoaaGreatDoor
