import Derived.Test.YtmpjcknaelgnoaaGreatDoorKNF
set_option maxHeartbeats 1000000
set_option maxRecDepth 20000
namespace Go.Proofs.YtmpjcknaelgnoaaGreatDoor
open Go.RowKit Tryz
theorem uS (o k:Nat)(ho:o%2=1)(hx:o*2^k<2^32):(o*2^k) &&& (2^32-o*2^k)=2^k:=by
 have f:=ah k
 have d:0<o*2^k:=aQ (by omega) f
 apply eS
 intro i
 rw[Nat.testBit_and,show 2^32-o*2^k=2^32-((o*2^k-1)+1)from by omega,eB (by omega),Nat.testBit_two_pow]
 have l:(o*2^k).testBit i=(decide (i ≥ k) && o.testBit (i-k)):=by rw[<-dw,Nat.testBit_shiftLeft]
 have h:(o*2^k-1).testBit i=if i<k then (2^k-1).testBit i else (o-1).testBit (i-k):=by
  rw[<-Nat.testBit_two_pow_mul_add (o-1) (by omega:2^k-1<2^k) i]
  congr 1
  have:2^k*(o-1)+2^k=2^k*o:=by rw[<-Nat.mul_succ];congr 1;omega
  rw[ap o]
  omega
 have g:k<32:=by
  have a:2^k<=o*2^k:=cw _ (by omega)
  exact(bK (by decide:1<2)).1 (bs a hx)
 rw[l,h]
 by_cases c:i<k
 ·have:¬i ≥ k:=by omega
  have b:¬k=i:=by omega
  simp[this,b]
 ·rw[if_neg c]
  obtain⟨j,rfl⟩:∃j,i=k+j:=⟨i-k,by omega⟩
  rw[show k+j-k=j from by omega]
  cases j with
  | zero =>
    have a:(o-1).testBit 0=false:=by rw[Nat.testBit_zero];simp;omega
    have b:o.testBit 0=true:=by rw[Nat.testBit_zero];simp;omega
    simp[a,b,g]
  | succ j =>
    have a:(o-1).testBit (j+1)=o.testBit (j+1):=by
     rw[Nat.testBit_succ,Nat.testBit_succ];congr 1;omega
    rw[a]
    have b:¬k=k+(j+1):=by omega
    cases o.testBit (j+1)<;>simp

def rC:List Int:=[0,1,28,2,29,14,24,3,30,22,20,15,25,17,4,8,31,27,13,23,21,19,16,7,26,12,18,6,11,5,10,9]
def Tab (w:World):Prop:=∀i:Nat,i<32->w.cell? ⟨2,i,none⟩=some (.int .u8 (rC.getD i 0))
theorem Tab.grown {w w':World}(h:Tab w)(g:Kp w w'):Tab w':=fun i hi=>ac g (h i hi)
theorem rA:∀k:Fin 32,2^k.val*125613361%4294967296/134217728<32∧rC.getD (2^k.val*125613361%4294967296/134217728) 0=(k.val:Int):=by decide +kernel
theorem EB (o k:Nat)(ho:o%2=1)(hx:o*2^k<4294967296)(w:World)(hT:Tab w) :
  Calls prog 280 #[.int .u32 ((o*2^k:Nat):Int)] w (RE (.int .i64 (k:Int)) w):=by
 have j:=ah k
 have c:0<o*2^k:=aQ (by omega) j
 have b:(2:Nat)^32=4294967296:=by decide
 have l:k<32:=by
  have p:2^k<=o*2^k:=cw _ (by omega)
  exact(bK (by decide:1<2)).1 (bs p (by rw[b];exact hx))
 have a:=uS o k ho (by rw[b];exact hx)
 rw[b]at a
 obtain⟨g,f⟩:=rA ⟨k,l⟩
 simp only at g f
 obtain⟨x,d⟩:∃x:Nat,x=o*2^k:=⟨_,rfl⟩
 rw[<-d]at a hx c|-
 obtain⟨P,h⟩:∃P:Nat,P=2^k:=⟨_,rfl⟩
 rw[<-h]at a g f
 have q:w.cell? ⟨2,P*125613361%4294967296/134217728,none⟩=some (.int .u8 (k:Int)):=by rw[hT _ g,f]
 have r:((x:Int) == 0)=false:=by simp;omega
 have m:IntKind.u32.wrap (-(x:Int))=((4294967296-x:Nat):Int):=by rw[IntKind.wrap_u32];omega
 have n:bits BinOp.and IntKind.u32 (x:Int) ((4294967296-x:Nat):Int)=(P:Int):=by
  rw[u32_and_nat x (4294967296-x) hx (by omega),a]
 obtain⟨y,i⟩:∃y:Int,y=((4294967296-x:Nat):Int):=⟨_,rfl⟩
 rw[<-i]at m n
 have t:(0:Int)<=(P:Int)*125613361%4294967296/134217728:=by omega
 have s:(P:Int)*125613361%4294967296/134217728<32:=by omega
 have u:wrap64 (k:Int)=(k:Int):=by unfold wrap64;omega
 clear i h d a g f c j b hx ho hT l
 go_enter func280,ntmps280
 go_wp2
 exact BR ⟨rfl,rfl⟩
theorem zF (p:Option Addr)(c:Nat)(xs:List Int)(w:World)(hx:Arr w p xs)(hwx:Wd xs)(lx:xs.length<=16777216)(hT:Tab w) :
  Calls prog 277 #[.slice p xs.length c] w (RE (.int .i64 (jK (val xs):Nat)) w):=by
 obtain⟨N,d⟩:=aA xs.length
 obtain⟨R,a⟩:=aA (jK (val xs))
 have q:Hid (Arr w p xs∧Wd xs∧N=xs.length∧R=jK (val xs)∧Tab w):=⟨hx,hwx,d,a,hT⟩
 have J:N<=16777216:=by omega
 rw[<-d,<-a]
 clear hx hwx lx d a hT
 go_enter func277,ntmps277
 go_wp2
 go_loop [6] (fun i=>∃k:Nat,i=.int .i64 k∧k<=N∧∀j,j<k->xs.getD j 0=0) (fun i=>N-(intOf i).toNat)
 case atStart=>exact⟨0,rfl,aW _,fun j h=>by omega⟩
 case round =>
  obtain⟨k,rfl,K,g⟩:=hrel
  obtain⟨hx,hwx,d,a,hT⟩:=q.out
  by_cases I:k<N
  ·obtain⟨b,D,rfl,t⟩:=hx.at (k:=k) (by omega)
   have u:=t k (by omega)
   have wx:=hwx k
   have i0:(0:Int)<=(k:Int):=by omega
   have F:(k:Int)<(N:Int):=by omega
   by_cases r:xs.getD k 0=0
   ·have E:Hid (∀j,j<k+1->xs.getD j 0=0):=fun j hj=>by
     by_cases e:j=k
     ·subst e;exact r
     ·exact g j (by omega)
    rw[r]at u
    clear q hx hwx d a hT t wx r g
    go_wp2
    exact⟨⟨k+1,by go_num,by omega,E.out⟩,by simp[intOf];omega⟩
   ·obtain⟨o,s,y,x⟩:=kr (xs.getD k 0).toNat (by omega)
    have f:o*2^s<4294967296:=by omega
    have n:s<32:=by
     have G:2^s<=o*2^s:=cw _ (by omega)
     exact(bK (by decide:1<2)).1 (bs G (aE f (by decide)))
    have l:=t9 xs k o s g (by omega) y n x
    rw[<-a]at l
    have m:=EB o s y f w hT
    have z:xs.getD k 0=((o*2^s:Nat):Int):=by omega
    rw[z]at u
    obtain⟨X,A⟩:∃X:Nat,X=o*2^s:=⟨_,rfl⟩
    rw[<-A]at u m x
    have L:((X:Int) != 0)=true:=by simp;omega
    have H:(k:Int)*32+(s:Int)=(R:Int):=by omega
    have C:k<=16777216:=by omega
    clear q hx hwx d a hT t wx r g y x f z A l
    go_wp2_with (first|(go_at_call 280;refine SM m ?_))
    exact BR ⟨rfl,rfl⟩
  ·have B:val xs=0:=fG xs (fun j=>by
    by_cases e:j<k
    ·exact g j e
    ·simp[List.getD,List.getElem?_eq_none (by omega:xs.length<=j)])
   rw[B,rf]at a
   subst a
   have F:¬((k:Int)<(N:Int)):=by omega
   clear q hx hwx d hT g B
   go_wp2
   exact BR ⟨rfl,rfl⟩
theorem ER (p:Option Addr)(c i j:Nat)(xs:List Int)(w:World)(hx:Arr w p xs)(hwx:Wd xs)(lx:xs.length<=16777216)(hi:i<xs.length)(hj:j<32) :
  Calls prog 173 #[.slice p xs.length c,.int .i64 ((32*i+j:Nat):Int)] w (RE (.int .u32 ((xs.getD i 0).toNat/2^j%2:Nat)) w):=by
 obtain⟨N,h⟩:=aA xs.length
 obtain⟨b,n,rfl,f⟩:=hx.at hi
 have q:=f i hi
 have wx:=hwx i
 obtain⟨X,g⟩:∃X:Nat,(X:Int)=xs.getD i 0:=⟨(xs.getD i 0).toNat,by omega⟩
 rw[<-g]at q|-
 rw[av]
 obtain⟨k,m⟩:=aA (32*i+j)
 rw[<-m,<-h]
 have u:¬((k:Int)<0):=by omega
 have s:(k:Int)/32=(i:Int):=by omega
 have t:(k:Int)%32=(j:Int):=by omega
 have i0:(0:Int)<=(i:Int):=by omega
 have A:(i:Int)<(N:Int):=by omega
 have z:¬((N:Int)<=(i:Int)):=by omega
 have r:IntKind.u64.wrap (j:Int)=(j:Int):=by rw[IntKind.wrap_u64];omega
 have C:wrap64 (i:Int)=(i:Int):=by unfold wrap64;omega
 have x:wrap64 (j:Int)=(j:Int):=by unfold wrap64;omega
 obtain⟨Q,a⟩:=aA (X/2^j)
 rw[<-a]
 have d:Q<=X:=by rw[a];exact cS _ _
 have y:(X:Int)/2^j=(Q:Int):=by rw[a];push_cast;rfl
 have o:bits BinOp.and IntKind.u32 (Q:Int) 1=((Q%2:Nat):Int):=by
  have:=u32_and_nat Q 1 (by omega) (by omega)
  rw[Nat.and_one_is_mod]at this
  exact this
 obtain⟨B,l⟩:=aA (Q%2)
 rw[<-l]at o|-
 clear hx hwx lx hi f wx g m h a d l
 go_enter func173,ntmps173
 go_wp2
 exact BR ⟨rfl,rfl⟩
theorem zg (p:Option Addr)(c:Nat)(xs:List Int)(w:World)(hx:Arr w p xs)(hwx:Wd xs)(lx:xs.length<=16777216) :
  Calls prog 169 #[.slice p xs.length c] w (RE (.int .i64 (jK (val xs):Nat)) w):=by
 have E:=dD.2 p c xs w hx (by omega)
 have s:=dJ xs
 obtain⟨R,f⟩:=aA (jK (val xs))
 rcases bS (tl xs)with m|m
 ·have U:val xs=0:=by rw[<-el xs,m];rfl
  rw[m]at E
  rw[U,rf]
  obtain⟨N,n⟩:=aA xs.length
  rw[<-n]at E|-
  clear hx hwx lx s m U n f
  go_enter func169,ntmps169
  go_wp2_with fail
  refine SM E ?_
  go_wp2
  exact BR ⟨rfl,rfl⟩
 ·have g:=fun(i j:Nat) hi G=>ER p c i j xs w hx hwx lx hi G
  have a:xs.getD (tl xs-1) 0≠0:=by
   rcases(jt xs xs.length).2 with e|e
   ·exfalso;have:tl xs=0:=e;omega
   ·exact e
  obtain⟨N,n⟩:=aA xs.length
  obtain⟨S,T⟩:=aA (tl xs)
  rw[<-n,<-T]at E
  rw[<-T]at a m s
  rw[<-f]
  rw[<-n]at g s lx|-
  have t0:((S:Int) == 0)=false:=by simp;omega
  have H:Hid (Arr w p xs∧Wd xs∧N=xs.length∧R=jK (val xs)∧xs.getD (S-1) 0≠0∧0<S∧S<=N):=⟨hx,hwx,n,f,a,m,s⟩
  have I:Hid (∀(i j:Nat),i<N->j<32->Calls prog 173 #[.slice p N c,.int .i64 ((32*i+j:Nat):Int)] w (RE (.int .u32 ((xs.getD i 0).toNat/2^j%2:Nat)) w)):=g
  clear hx hwx n f g a m T s
  go_enter func169,ntmps169
  go_wp2_with fail
  refine SM E ?_
  clear E
  go_wp2
  clear t0
  go_loop [3] (fun z=>∃i:Nat,z=.int .i64 ((32*i:Nat):Int)∧i<S∧∀j,j<i->xs.getD j 0=0) (fun z=>32*S-(intOf z).toNat)
  case atStart=>exact⟨0,rfl,H.out.2.2.2.2.2.1,fun j h=>by omega⟩
  case round =>
   obtain⟨i,rfl,hi,q⟩:=hrel
   obtain⟨hx,hwx,n,f,a,m,s⟩:=H.out
   obtain⟨b,aa,rfl,J⟩:=hx.at (k:=i) (by omega)
   have L:=J i (by omega)
   obtain⟨k,t⟩:=aA (32*i)
   rw[<-t]
   have V:(k:Int)/32=(i:Int):=by omega
   have i0:(0:Int)<=(i:Int):=by omega
   have i1:(i:Int)<(N:Int):=by omega
   have Z:k<=536870912:=by omega
   by_cases F:xs.getD i 0=0
   ·have O:i+1<S:=by
     by_cases e:i=S-1
     ·subst e;exact absurd F a
     ·omega
    have D:Hid ((∀j,j<i+1->xs.getD j 0=0)∧k=32*i):=⟨fun j G=>by
     by_cases e:j=i
     ·subst e;exact F
     ·exact q j (by omega),t⟩
    rw[F]at L
    clear H I hx hwx n f a m s J F q t
    go_wp2
    exact⟨⟨i+1,by have:=D.out.2;go_num,O,D.out.1⟩,by have:=D.out.2;simp[intOf];omega⟩
   ·have wx:=hwx i
    obtain⟨X,o⟩:∃X:Nat,(X:Int)=xs.getD i 0:=⟨(xs.getD i 0).toNat,by omega⟩
    have u:Hid (R=jK (val xs)∧(∀j,j<i->xs.getD j 0=0)∧i<xs.length∧(X:Int)=xs.getD i 0∧X≠0∧X<4294967296∧k=32*i∧i<N):=⟨f,q,by omega,o,by omega,by omega,t,by omega⟩
    rw[<-o]at L
    have t1:((X:Int) == 0)=false:=by simp;omega
    clear H hx hwx n f a m s J F q wx o
    go_wp2
    clear L t1 V i0 i1 t hi
    go_loop [3] (fun z=>∃j:Nat,z=.int .i64 ((32*i+j:Nat):Int)∧j<32∧X%2^j=0) (fun z=>32*(i+1)-(intOf z).toNat)
    case atStart=>exact⟨0,by simp,by omega,by simp[fW]⟩
    case round =>
     obtain⟨j,rfl,G,P⟩:=hrel
     obtain⟨f,q,hi,o,A,r,t,C⟩:=u.out
     have l:=I.out i j C G
     rw[<-o,av]at l
     have d:X=X/2^j*2^j:=by
      have:=bU X (2^j)
      rw[P,bi,ap]at this
      exact this.symm
     obtain⟨Q,M⟩:=aA (X/2^j)
     rw[<-M]at l d
     rcases(by omega:Q%2=0∨Q%2=1)with y|y
     ·rw[y]at l
      have K:j+1<32:=by
       by_cases e:j=31
       ·exfalso
        subst e
        have:Q=0∨2<=Q:=by omega
        rcases this with q0|q0
        ·rw[q0]at d;simp at d;exact A d
        ·have:2*2^31<=Q*2^31:=ai _ q0
         omega
       ·omega
      have W:Hid (X%2^(j+1)=0):=by
       show X%2^(j+1)=0
       rw[d,aF,ap Q,Nat.mul_mod_mul_left,y,Nat.mul_zero]
      obtain⟨z,B⟩:=aA (32*i+j)
      rw[<-B]at l|-
      have Y:z<=536870944:=by omega
      have D:Hid (z=32*i+j):=B
      clear u I f q hi o A r t C d M y P B
      go_wp2_with fail
      refine SM l ?_
      clear l
      go_wp2
      exact⟨⟨j+1,by have:=D.out;go_num,K,W.out⟩,by have:=D.out;simp[intOf];omega⟩
     ·rw[y]at l
      have x:=t9 xs i Q j q hi y G (by rw[<-o,av];exact d)
      rw[<-f]at x
      rw[<-x]at l|-
      clear u I f q hi o A r t C d M y P x
      go_wp2_with fail
      refine SM l ?_
      clear l
      go_wp2
      exact BR ⟨rfl,rfl⟩
theorem mF (g n o s c1 d:Nat)(q:Option Addr)(us0 xs:List Int)(w:World)(hr:Rw w g n us0)(hul:us0.length=n)(hz:∀j,us0.getD j 0=0)(hx:Arr w q xs)(hwx:Wd xs)(hq:0<xs.length->∀b off,q=some ⟨b,off,none⟩->b≠g)(ho:o+xs.length+1=n)(hn:n<=16777216)(hs:s<32)(hcc:xs.length+1<=c1) :
  Calls prog 265 #[.slice (some ⟨g,o,none⟩) (xs.length+1) c1,.slice q xs.length d,.int .i64 (s:Int)] w fun e w'=>∃us,(∃v,e=.returned v)∧Rw w' g n us∧us.length=n∧Wd us∧val us=val xs*2^s*4294967296^o∧Kb g w w':=by
 obtain⟨N,l⟩:=aA xs.length
 have D:=fG us0 hz
 have x:Wd us0:=fun j=>by rw[hz j];omega
 rw[<-l]at ho hcc|-
 have K:Hid (Arr w q xs∧(0<xs.length->∀b off,q=some ⟨b,off,none⟩->b≠g)∧Wd xs∧N=xs.length):=⟨hx,hq,hwx,l⟩
 have u:Hid (Rw w g n us0∧us0.length=n∧Wd us0∧val us0=0∧∀j,us0.getD j 0=0):=⟨hr,hul,x,D,hz⟩
 clear hx hq hwx l hr hul hz D x
 go_enter func265,ntmps265
 go_wp2
 go_loopw [6,10] (fun cc ii wr=>∃(k C:Nat)(us:List Int),cc=.int .u32 (C:Int)∧ii=.int .i64 k∧k<=N∧Rw wr g n us∧us.length=n∧Wd us∧C<2^s∧val us+C*4294967296^(o+k)=val (xs.take k)*2^s*4294967296^o∧(∀j,o+k<=j->us.getD j 0=0)∧Kb g w wr) (fun _ i _=>N-(intOf i).toNat)
 case atStart=>exact⟨0,0,us0,rfl,rfl,aW _,u.out.1,u.out.2.1,u.out.2.2.1,ah s,by rw[u.out.2.2.2.1];simp[val],fun j _=>u.out.2.2.2.2 j,Kb.refl _ _⟩
 case round =>
  clear u
  obtain⟨k,C,us,rfl,rfl,hk,a,hul,f,S,z,hz,c⟩:=hrel
  obtain⟨hx,hq,hwx,l⟩:=K.out
  have E:2^s<=2147483648:=by
   have:=al (show 0<2 by decide) (show s<=31 by omega)
   exact aT this (by decide)
  by_cases ck:k<N
  ·obtain⟨W,h,rfl,y⟩:=hx.at (k:=k) (by omega)
   have A:=hq (by omega) W h rfl
   have V:=c.arr A (y k (by omega))
   have wx:=hwx k
   obtain⟨X,J⟩:∃X:Nat,(X:Int)=xs.getD k 0:=⟨(xs.getD k 0).toNat,by omega⟩
   rw[<-J]at V
   obtain⟨H,U,R,G⟩:=pX X C s hs (by omega) S
   obtain⟨Y,M⟩:=aA (X*2^s%4294967296)
   obtain⟨F,r⟩:=aA (X/2^(32-s))
   rw[<-M]at H U G
   rw[<-r]at R G
   have B:=rK us xs o k C F (Y+C) s X (by omega) (hz _ (ao _)) (by rw[<-J,av]) G z
   have f1:IntKind.u32.wrap ((X:Int)*2^s)=(Y:Int):=by
    rw[IntKind.wrap_u32,M];exact(m5 X s).symm
   have T:=u32_or_nat Y C (by omega) (by omega)
   rw[H]at T
   have f3:(X:Int)/2^(32-s)=(F:Int):=by rw[r];push_cast;rfl
   obtain⟨Z,hZ⟩:=aA (Y+C)
   rw[<-hZ]at T B U
   have m:Wd (us.set (o+k) (Z:Int)):=f.set (o+k) Z (by omega)
   have t:(us.set (o+k) (Z:Int)).length=n:=by rw[bg];exact hul
   have Q:∀j,o+(k+1)<=j->(us.set (o+k) (Z:Int)).getD j 0=0:=fun j h1=>by
    have e1:(us.set (o+k) (Z:Int)).getD j 0=us.getD j 0:=by simp[List.getD,show ¬o+k=j from by omega]
    rw[e1];exact hz j (by omega)
   have e3:=World.rowIs.cell a (i:=o+k) (by omega)
   have e4:=World.rowIs.frozen a (o+k)
   have P:=a.set (o+k) (Z:Int) (by omega)
   have L:=c.setCell (o+k) (.int .u32 (Z:Int))
   have e5:(wr.setCell ⟨g,o+k,none⟩ (.int .u32 (Z:Int))).cell? ⟨W,h+k,none⟩=some (.int .u32 (X:Int)):=(World.cell?_setCell_far _ _ _ _ (Ne.symm A)).trans V
   have i0:(0:Int)<=(k:Int):=by omega
   have i1:(k:Int)<(N:Int):=by omega
   have i2:(k:Int)<(N:Int)+1:=by omega
   have i3:(0:Int)<=(s:Int):=by omega
   have i4:(0:Int)<=32-(s:Int):=by omega
   have i5:(32-(s:Int)).toNat=32-s:=by omega
   have HC:Hid (F<2^s):=R
   clear K hx hq hwx l y wx J M r z hz a hul f S H R G hZ c E
   go_wp2
   exact⟨⟨k+1,F,us.set (o+k) (Z:Int),rfl,by go_num,by omega,P,t,m,HC.out,B,Q,L⟩,by simp[intOf];omega⟩
  ·have I:k=N:=by omega
   subst I
   rw[l,di,<-l]at z
   have p:=fK us (o+k) (C:Int) (by omega)
   rw[hz _ (ao _),av]at p
   have O:val (us.set (o+k) (C:Int))=val xs*2^s*4294967296^o:=by rw[<-z];simpa using p
   have m:Wd (us.set (o+k) (C:Int)):=f.set (o+k) C (by omega)
   have t:(us.set (o+k) (C:Int)).length=n:=by rw[bg];exact hul
   have e3:=World.rowIs.cell a (i:=o+k) (by omega)
   have e4:=World.rowIs.frozen a (o+k)
   have P:=a.set (o+k) (C:Int) (by omega)
   have L:=c.setCell (o+k) (.int .u32 (C:Int))
   have i1:¬((k:Int)<(k:Int)):=by omega
   have i2:(k:Int)<(k:Int)+1:=by omega
   have i0:(0:Int)<=(k:Int):=by omega
   clear K hx hq hwx l z p hz a hul f S c E
   go_wp2
   exact bodyPost_end (v:=.tuple #[]) (by kernel_rfl) rfl ⟨⟨_,rfl⟩,_,P,t,m,O,L⟩
theorem EG (g o L K:Nat)(h:o+K=L)(hK:0<K)(w:World):(Instr.slice 55 (.slice (some ⟨g,0,none⟩) L L) (some (.int .i64 (o:Int))) none none).run prog w=.ok (.slice (some ⟨g,o,none⟩) K K) w:=by
 rw[run_slice_l w 55 (some ⟨g,0,none⟩) L L underlying55 .i64 (o:Int) (by omega) (by omega)]
 have e:(sizeOf (prog.elem 55)).run prog w=.ok 1 w:=by kernel_rfl
 have b:L-o=K:=by omega
 have a:¬L=o:=by omega
 rw[e]
 simp[Result.andThen,sliced,b,a,Addr.add_lit]
theorem kX (m:Nat):2^(m%32)*4294967296^(m/32)=2^m:=by
 rw[nG,<-ag,show m%32+32*(m/32)=m from by omega]
theorem tu (p:Option Addr)(c m:Nat)(xs:List Int)(w:World)(hx:Arr w p xs)(hwx:Wd xs)(h0:0<xs.length)(lx:xs.length<=1048576)(hm:m<=16777216) :
  Calls prog 243 #[.slice p xs.length c,.int .i64 (m:Int)] w fun e w'=>∃v,e=.returned v∧Own w' w.heap.size v (az (val xs*2^m))∧Kp w w':=by
 obtain⟨N,M⟩:=aA xs.length
 obtain⟨o,K⟩:=aA (m/32)
 obtain⟨s,J⟩:=aA (m%32)
 obtain⟨L,P⟩:=aA (o+N+1)
 have a:=kX m
 rw[<-K,<-J]at a
 have F:∀w:World,(Instr.makeSlice 55 (.int .i64 ((o:Int)+(N:Int)+1)) (.int .i64 ((o:Int)+(N:Int)+1))).run prog w=.ok (.slice (some ⟨w.heap.size,0,none⟩) L L) (w.alloc (.cells (madeCells #[.int .u32 0] L) 120)):=by
  have:=mN L (by omega)
  have e:((L:Nat):Int)=(o:Int)+(N:Int)+1:=by omega
  rw[e]at this
  exact this
 have d:Kp w (w.alloc (.cells (madeCells #[.int .u32 0] L) 120)):=(Kp.refl w).alloc _
 have u:Rw (w.alloc (.cells (madeCells #[.int .u32 0] L) 120)) w.heap.size L (List.replicate L 0):=World.rowIs.congr (World.rowIs_made w (.int .u32 0) L 120) (fun j _=>by rw[cJ])
 have i:=mF w.heap.size L o s (N+1) c p (List.replicate L 0) xs _ u (by simp) (fun j=>cJ L j) (hx.grown d) hwx (fun h b off e=>by
  obtain⟨V,o2,y,C⟩:=hx.at h
  rw[y]at e
  cases e
  have:=be (C 0 h)
  omega) (by omega) (by omega) (by omega) (by omega)
 rw[<-M]at i h0|-
 obtain⟨g,r⟩:=aA w.heap.size
 rw[<-r]at i
 have A:=EG g o L (N+1) (by omega) (by omega)
 have Q:(m:Int)/32=(o:Int):=by omega
 have R:(m:Int)%32=(s:Int):=by omega
 have Y:((N:Int) == 0)=false:=by simp;omega
 have i0:(0:Int)<=(o:Int):=by omega
 have Z:(o:Int)<=(L:Int):=by omega
 have S:¬(L=o):=by omega
 have U:L-o=N+1:=by omega
 have W:N<=1048576:=by omega
 have lo:o<=524288:=by omega
 have I:Hid (g=w.heap.size∧L<=2097152∧2^s*4294967296^o=2^m∧Kp w (w.alloc (.cells (madeCells #[.int .u32 0] L) 120))):=⟨r,by omega,a,d⟩
 clear hx hwx lx M K J P a u h0 d
 go_enter func243,ntmps243
 go_wp2_with fail
 rw[<-r]
 clear r
 refine i.mono ?_;rintro e z ⟨l,⟨X,rfl⟩,f,q,x,G,t⟩
 clear i
 obtain⟨r,E,a,d⟩:=I.out
 have D:Kp w z:=t.kp d (by omega)
 have B:=f.arr L (ao _) (by omega)
 rw[aY (by omega)]at B
 have n:=dD.1 (some ⟨g,0,none⟩) L l z B (by omega) (by omega)
 have O:Own z w.heap.size (.slice (some ⟨g,0,none⟩) (tl l) L) (az (val xs*2^m)):=by
  have y:=Own.of_row (base:=w.heap.size) (k:=tl l) f (by omega) (by have:=dJ l;omega) q (by unfold maxLen;omega)
  have C:l.take (tl l)=az (val xs*2^m):=by rw[<-a,<-ak,<-G,<-eZ l x];rfl
  rw[C]at y
  exact y
 rw[q]at n
 obtain⟨T,H⟩:=aA (tl l)
 rw[<-H]at n O
 clear B f q x G H I t E a d r A F
 go_wp2_with (first|(go_at_call 241;refine SM n ?_))
 exact BR ⟨_,rfl,O,D⟩
theorem qw (p:Option Addr)(c:Nat)(xs:List Int)(w:World)(n:Int)(hx:Arr w p xs)(hwx:Wd xs)(lx:xs.length<=16777216)(hc:xs.length<=c) :
  Calls prog 210 #[.slice p xs.length c,.int .i64 n] w fun e w'=>∃v,e=.returned (.tuple #[v,.int .i64 (iI (val xs) n).2])∧Own w' w.heap.size v (iI (val xs) n).1∧Kp w w':=by
 have u:=dD.1 p c xs w hx (by omega) hc
 have r:=gi p (tl xs) c
 have C:=dJ xs
 have l:=ji p c (nz xs) w (hx.take _) (hwx.take _) (by rw[bM];omega) (by rw[bM];omega)
 have k:=fun(m:Nat) a b d=>tu p c m (nz xs) w (hx.take _) (hwx.take _) a b d
 rw[bM,eO]at l k
 have q:=fS xs hwx
 have f:tl xs=0->val xs=0:=fun h=>by rw[<-el xs,h];rfl
 have g:val xs=0->tl xs=0:=fun h=>by rw[q,h];unfold aS;rw[dF];rfl
 obtain⟨a,B⟩:=aA (val xs)
 rw[<-B]at l k q f g
 obtain⟨N,z⟩:=aA xs.length
 obtain⟨S,A⟩:=aA (tl xs)
 rw[<-z,<-A]at u
 rw[<-A]at r l k q C f g
 rw[<-z,<-B]
 clear hx hwx lx hc z A B C
 by_cases o:n<0
 ·have i:iI a n=([],1):=by unfold iI;rw[if_pos o]
  rw[i]
  clear r l k q i f g
  go_enter func210,ntmps210
  go_wp2_with fail
  refine SM u ?_
  go_wp2
  exact BR ⟨_,rfl,Own.nil _ _,Kp.refl _⟩
 obtain⟨m,rfl⟩:=eu (by omega:0<=n)
 by_cases t:16384<S
 ·have i:iI a (m:Int)=([],2):=by unfold iI;rw[if_neg o,if_pos (by omega)]
  rw[i]
  rw[af t]at r
  clear l k q i t f g
  go_enter func210,ntmps210
  go_wp2_with fail
  refine SM u ?_
  go_wp2_with fail
  refine SM (r _) ?_
  go_wp2
  exact BR ⟨_,rfl,Own.nil _ _,Kp.refl _⟩
 rw[ae t]at r
 have I:¬((m:Int)<0):=by omega
 by_cases c2:a=0
 ·have i:iI a (m:Int)=([],0):=by unfold iI;rw[if_neg o,if_neg (by omega),if_pos c2]
  rw[i]
  have j:=g c2
  subst j
  clear l k q i t f g o c2
  go_enter func210,ntmps210
  go_wp2_with fail
  refine SM u ?_
  go_wp2_with fail
  refine SM (r _) ?_
  go_wp2
  exact BR ⟨_,rfl,Own.nil _ _,Kp.refl _⟩
 have j:S≠0:=fun h=>c2 (f h)
 have J:((S:Int) == 0)=false:=by simp;omega
 have s:=jp a 16384 (by omega)
 obtain⟨L,y⟩:=aA (aq a)
 rw[<-y]at l s
 by_cases c3:524288<L+m
 ·have i:iI a (m:Int)=([],2):=by unfold iI;rw[if_neg o,if_neg (by omega),if_neg c2,av,if_pos (by omega)]
  rw[i]
  have E:524288-(L:Int)<(m:Int):=by omega
  have x:L<=524288:=by omega
  clear k q i t f g o c2 c3 y s j
  go_enter func210,ntmps210
  go_wp2_with fail
  refine SM u ?_
  go_wp2_with fail
  refine SM (r _) ?_
  go_wp2_with fail
  refine SM l ?_
  go_wp2
  exact BR ⟨_,rfl,Own.nil _ _,Kp.refl _⟩
 have i:iI a (m:Int)=(az (a*2^m),0):=by unfold iI;rw[if_neg o,if_neg (by omega),if_neg c2,av,if_neg (by omega)]
 rw[i]
 have E:¬(524288-(L:Int)<(m:Int)):=by omega
 have x:L<=524288:=by omega
 have D:=k m (by omega) (by omega) (by omega)
 clear k q i t f g o c2 c3 y s j
 go_enter func210,ntmps210
 go_wp2_with fail
 refine SM u ?_
 go_wp2_with fail
 refine SM (r _) ?_
 go_wp2_with fail
 refine SM l ?_
 go_wp2_with fail
 refine D.mono ?_;rintro e H ⟨v,rfl,G,F⟩
 go_wp2
 exact BR ⟨_,rfl,G,F⟩
theorem EH (b off o N c:Nat)(h:o<N)(hc:N<=c)(w:World):(Instr.slice 55 (.slice (some ⟨b,off,none⟩) N c) (some (.int .i64 (o:Int))) none none).run prog w=.ok (.slice (some ⟨b,off+o,none⟩) (N-o) (c-o)) w:=by
 rw[run_slice_l w 55 (some ⟨b,off,none⟩) N c underlying55 .i64 (o:Int) (by omega) (by omega)]
 have e:(sizeOf (prog.elem 55)).run prog w=.ok 1 w:=by kernel_rfl
 have a:¬c=o:=by omega
 rw[e]
 simp[Result.andThen,sliced,a,Addr.add_lit]
theorem qG (p:Option Addr)(c m:Nat)(xs:List Int)(w:World)(hx:Arr w p xs)(hwx:Wd xs)(lx:xs.length<=1048576)(hc:xs.length<=c)(hm9:(m:Int)<9223372036854775808) :
  Calls prog 276 #[.slice p xs.length c,.int .i64 (m:Int)] w fun e w'=>∃v,e=.returned v∧Own w' w.heap.size v (az (val xs/2^m))∧Kp w w':=by
 obtain⟨o,ho⟩:=aA (m/32)
 obtain⟨s,hs⟩:=aA (m%32)
 have y:=tC (val xs) m
 rw[<-ho,<-hs]at y
 have q:s<32:=by omega
 have f1:(m:Int)/32=(o:Int):=by omega
 have f2:(m:Int)%32=(s:Int):=by omega
 by_cases co:xs.length<=o
 ·have e0:val xs/2^m=0:=by
   rw[y,bh (aE (fX xs hwx) (al (by decide) co)),ei]
  rw[e0,dF]
  obtain⟨N,hN⟩:=aA xs.length
  rw[<-hN]at co|-
  have t1:(N:Int)<=(o:Int):=by omega
  have f3:=El (o:Int) (Int.natCast_nonneg _) (by omega)
  clear hx hwx lx hc hN ho hs y q e0 co hm9
  go_enter func276,ntmps276
  go_wp2
  exact BR ⟨_,rfl,Own.nil _ _,Kp.refl _⟩
 ·obtain⟨b,I,rfl,B⟩:=hx.at (k:=o) (by omega)
  have hA:Arr w (some ⟨b,I+o,none⟩) (xs.drop o):=Or.inr ⟨b,I+o,rfl,fun j hj=>by
   rw[List.length_drop]at hj
   have:=B (o+j) (by omega)
   rw[dH,this]
   simp[List.getD,List.getElem?_drop]⟩
  have A:(xs.drop o).length=xs.length-o:=List.length_drop
  have H:=su (some ⟨b,I+o,none⟩) (c-o) (xs.drop o) w hA (by omega)
  have ad:=(jP xs hwx o (by omega)).1
  rw[ad]at y
  obtain⟨t,W⟩:=aA (xs.drop o)
  have f:Wd t:=by rw[W];exact hwx.drop o
  rw[<-W]at H y A
  rw[y]
  have V:=EH b I o xs.length c (by omega) hc
  obtain⟨N,hN⟩:=aA xs.length
  rw[<-hN]at A V co lx hc|-
  obtain⟨L,hL⟩:=aA (N-o)
  rw[<-hL]at V A
  rw[A]at H
  have t1:¬((N:Int)<=(o:Int)):=by omega
  have i0:(0:Int)<=(o:Int):=by omega
  have i1:(o:Int)<=(N:Int):=by omega
  have i2:¬(c=o):=by omega
  have i3:N-o=L:=by omega
  have lL:L<=1048576:=by omega
  have lo:o<=1048576:=by omega
  have bE:1<=L:=by omega
  have HX:Hid (Wd t∧t.length=L∧s<32):=⟨f,A,q⟩
  clear hx hwx lx hc B hA ad y W f A hN hL ho hs co hm9
  go_enter func276,ntmps276
  go_wp2_with fail
  refine H.mono ?_;rintro e w2 ⟨g,rfl,r,aw,au⟩
  clear H V
  have HG:Hid (w.heap.size<=g):=r
  clear r
  go_wp2
  go_loopw [23] (fun ii wr=>∃(k:Nat)(d:List Int),ii=.int .i64 k∧k+1<=L∧Rw wr g L d∧d.length=L∧Wd d∧(∀j,j<k->d.getD j 0=((val t/2^s/4294967296^j%4294967296:Nat):Int))∧(∀j,k<=j->d.getD j 0=t.getD j 0)∧Kp w wr) (fun i _=>L-(intOf i).toNat)
  case atStart=>exact⟨0,t,rfl,by omega,aw,HX.out.2.1,HX.out.1,fun j h=>by omega,fun j _=>rfl,au⟩
  case round =>
   clear aw au
   obtain⟨k,d,rfl,hk,a,J,K,G,l,F⟩:=hrel
   obtain⟨f,R,q⟩:=HX.out
   by_cases ck:k+1<L
   ·have wx:=f k
    have wy:=f (k+1)
    obtain⟨X,S⟩:∃X:Nat,t.getD k 0=(X:Int):=⟨(t.getD k 0).toNat,by omega⟩
    obtain⟨Y,hY⟩:∃Y:Nat,t.getD (k+1) 0=(Y:Int):=⟨(t.getD (k+1) 0).toNat,by omega⟩
    have e1:=World.rowIs.cell a (i:=k) (by omega)
    have e2:=World.rowIs.cell a (i:=k+1) (by omega)
    rw[l k (ao _),S]at e1
    rw[l (k+1) (by omega),hY]at e2
    have e4:=World.rowIs.frozen a k
    have u:=qH t f k s X Y q (by omega) S hY
    obtain⟨P,D⟩:=aA (X/2^s)
    obtain⟨Q,hQ⟩:=aA (Y*2^(32-s)%4294967296)
    have x:P<4294967296:=by rw[D];exact bs (cS _ _) (by omega)
    have C:Q<4294967296:=by rw[hQ];exact bZ _ (by decide)
    have f3:(X:Int)/2^s=(P:Int):=by rw[D];push_cast;rfl
    have f4:IntKind.u32.wrap ((Y:Int)*2^(32-s))=(Q:Int):=by rw[IntKind.wrap_u32,hQ];exact(m5 Y (32-s)).symm
    rw[<-D,<-hQ]at u
    have f5:=u32_or_nat P Q x C
    have O:P ||| Q<4294967296:=Nat.or_lt_two_pow (n:=32) x C
    obtain⟨Z,hZ⟩:=aA (P ||| Q)
    rw[<-hZ]at f5 u O
    have E:Wd (d.set k (Z:Int)):=K.set k Z (by omega)
    have z:(d.set k (Z:Int)).length=L:=by rw[bg];exact J
    have HD:Hid (∀j,j<k+1->(d.set k (Z:Int)).getD j 0=((val t/2^s/4294967296^j%4294967296:Nat):Int)):=fun j hj=>by
     by_cases e:j=k
     ·subst e;rw[u];simp[List.getD,show j<d.length from by omega]
     ·rw[<-G j (by omega)];simp[List.getD,show ¬k=j from fun h=>e h.symm]
    have HS:Hid (∀j,k+1<=j->(d.set k (Z:Int)).getD j 0=t.getD j 0):=fun j hj=>by
     rw[<-l j (by omega)];simp[List.getD,show ¬k=j from by omega]
    have hR:∀w',Kp wr w'->Rw (w'.setCell ⟨g,k,none⟩ (.int .u32 (Z:Int))) g L (d.set k (Z:Int)):=fun w' h=>(a.grown h).set k Z (by omega)
    have r:=HG.out
    have i4:(0:Int)<=(k:Int):=by omega
    have i5:(k:Int)<(L:Int):=by omega
    have i6:(k:Int)<(L:Int)-1:=by omega
    have i7:(0:Int)<=(k:Int)+1:=by omega
    have i8:(k:Int)+1<(L:Int):=by omega
    have i9:(0:Int)<=(s:Int):=by omega
    have a4:(0:Int)<=32-(s:Int):=by omega
    have b3:(32-(s:Int)).toNat=32-s:=by omega
    have a9:=vO ((k:Int)+1) i7 (by omega)
    have ba:=vO (32-(s:Int)) a4 (by omega)
    clear HX f R q wx wy S hY u D hQ x C hZ O a J K G l HG
    have a8:Rw (wr.setCell ⟨g,k,none⟩ (.int .u32 (Z:Int))).drew g L (d.set k (Z:Int)):=hR wr (Kp.refl _)
    have a7:Kp w (wr.setCell ⟨g,k,none⟩ (.int .u32 (Z:Int))).drew:=(F.setCell r _).drew
    clear hR F r
    go_wp2
    (go_region_with (fail))
    all_goals clear a9 ba e1 e2 e4
    all_goals go_wp2
    all_goals exact⟨⟨k+1,d.set k (Z:Int),by go_num,by omega,a8,z,E,HD.out,HS.out,a7⟩,by simp[intOf];omega⟩
   ·have bc:L=k+1:=by omega
    have wx:=f k
    obtain⟨X,S⟩:∃X:Nat,t.getD k 0=(X:Int):=⟨(t.getD k 0).toNat,by omega⟩
    have e1:=World.rowIs.cell a (i:=k) (by omega)
    rw[l k (ao _),S]at e1
    have e4:=World.rowIs.frozen a k
    have u:=qI t f k s X (by omega) S
    obtain⟨P,D⟩:=aA (X/2^s)
    have x:P<4294967296:=by rw[D];exact bs (cS _ _) (by omega)
    have f3:(X:Int)/2^s=(P:Int):=by rw[D];push_cast;rfl
    rw[<-D]at u
    have E:Wd (d.set k (P:Int)):=K.set k P (by omega)
    have z:(d.set k (P:Int)).length=L:=by rw[bg];exact J
    have M:=oV (d.set k (P:Int)) t f s (by rw[z,R]) (fun j hj=>by
     rw[z]at hj
     by_cases e:j=k
     ·subst e;rw[u];simp[List.getD,show j<d.length from by omega]
     ·rw[<-G j (by omega)];simp[List.getD,show ¬k=j from fun h=>e h.symm])
    have hR:=a.set k (P:Int) (by omega)
    have r:=HG.out
    have hK:Kp w (wr.setCell ⟨g,k,none⟩ (.int .u32 (P:Int))):=F.setCell r _
    have hA:=hR.arr L (ao _) (by omega)
    rw[aY (by omega)]at hA
    have U:=dD.1 (some ⟨g,0,none⟩) L (d.set k (P:Int)) _ hA (by omega) (by omega)
    have hO:Own (wr.setCell ⟨g,k,none⟩ (.int .u32 (P:Int))) w.heap.size (.slice (some ⟨g,0,none⟩) (tl (d.set k (P:Int))) L) (az (val t/2^s)):=by
     have h1:=Own.of_row (base:=w.heap.size) (k:=tl (d.set k (P:Int))) hR r (by have:=dJ (d.set k (P:Int));omega) z (by unfold maxLen;omega)
     have h2:(d.set k (P:Int)).take (tl (d.set k (P:Int)))=az (val t/2^s):=by rw[<-M,<-eZ _ E];rfl
     rw[h2]at h1
     exact h1
    rw[z]at U
    obtain⟨T,hT⟩:=aA (tl (d.set k (P:Int)))
    rw[<-hT]at U hO
    have i4:(0:Int)<=(k:Int):=by omega
    have i5:¬((k:Int)<(L:Int)-1):=by omega
    have i6:(L:Int)-1=(k:Int):=by omega
    have i7:(k:Int)<(L:Int):=by omega
    have i9:(0:Int)<=(s:Int):=by omega
    clear HX f R q wx S u D x a J K G l HG F r hR hA M hT E z bc ck hk
    go_wp2_with (first|(go_at_call 241;refine U.mono ?_;rintro e w' ⟨rfl,a3⟩;subst a3))
    exact BR ⟨_,rfl,hO,hK⟩
theorem Fh (p:Option Addr)(c:Nat)(xs:List Int)(w:World)(n:Int)(hn9:n<9223372036854775808)(hT:Tab w)(hx:Arr w p xs)(hwx:Wd xs)(lx:xs.length<=1048576)(hc:xs.length<=c) :
  Calls prog 271 #[.slice p xs.length c,.int .i64 n] w fun e w'=>∃v,e=.returned (.tuple #[v,.bool (nh (val xs) n).2.1,.int .i64 (nh (val xs) n).2.2])∧Own w' w.heap.size v (nh (val xs) n).1∧Kp w w':=by
 have z:=dD.1 p c xs w hx (by omega) hc
 have r:=gi p (tl xs) c
 have J:=dJ xs
 have i:=fun w' (k:Kp w w')=>zF p c (nz xs) w' ((hx.take _).grown k) (hwx.take _) (by rw[bM];omega) (hT.grown k)
 have l:=fun(m:Nat) d=>qG p c m (nz xs) w (hx.take _) (hwx.take _) (by rw[bM];omega) (by rw[bM];omega) d
 rw[bM,eO]at i l
 have q:=fS xs hwx
 have b:tl xs=0->val xs=0:=fun h=>by rw[<-el xs,h];rfl
 have f:val xs=0->tl xs=0:=fun h=>by rw[q,h];unfold aS;rw[dF];rfl
 obtain⟨a,H⟩:=aA (val xs)
 rw[<-H]at i l q b f
 obtain⟨N,F⟩:=aA xs.length
 obtain⟨S,G⟩:=aA (tl xs)
 rw[<-F,<-G]at z
 rw[<-G]at r i l q J b f
 rw[<-F,<-H]
 clear hx hwx lx hc F G H J hT
 by_cases x:n<0
 ·have j:nh a n=([],false,1):=by unfold nh;rw[if_pos x]
  rw[j]
  clear r i l q j b f hn9
  go_enter func271,ntmps271
  go_wp2_with fail
  refine SM z ?_
  go_wp2
  exact BR ⟨_,rfl,Own.nil _ _,Kp.refl _⟩
 obtain⟨m,rfl⟩:=eu (by omega:0<=n)
 have L:¬((m:Int)<0):=by omega
 by_cases y:16384<S
 ·have j:nh a (m:Int)=([],false,2):=by unfold nh;rw[if_neg x,if_pos (by omega)]
  rw[j]
  rw[af y]at r
  clear i l q j y b f hn9
  go_enter func271,ntmps271
  go_wp2_with fail
  refine SM z ?_
  go_wp2_with fail
  refine SM (r _) ?_
  go_wp2
  exact BR ⟨_,rfl,Own.nil _ _,Kp.refl _⟩
 rw[ae y]at r
 have j:nh a (m:Int)=(az (a/2^m),decide (a%2^m≠0),0):=by unfold nh;rw[if_neg x,if_neg (by omega),av]
 rw[j]
 have u:=l m hn9
 have g:=zM a m
 obtain⟨Z,D⟩:=aA (az (a/2^m))
 rw[<-D]at u|-
 by_cases c2:S=0
 ·have o:decide (a%2^m≠0)=false:=by
   rw[ae];intro h;exact(g.1 h).1 (b c2)
  rw[o]
  subst c2
  clear l q j x y b f hn9 g D i o
  go_enter func271,ntmps271
  go_wp2_with fail
  refine SM z ?_
  go_wp2_with fail
  refine SM (r _) ?_
  go_wp2_with fail
  refine u.mono ?_;rintro e B ⟨v,rfl,A,t⟩
  go_wp2
  exact BR ⟨_,rfl,A,t⟩
 have M:(0:Int)<(S:Int):=by omega
 have s:a≠0:=fun h=>c2 (f h)
 obtain⟨C,I⟩:=aA (jK a)
 rw[<-I]at i g
 by_cases c3:C<m
 ·have o:decide (a%2^m≠0)=true:=af (g.2 ⟨s,c3⟩)
  rw[o]
  have K:(C:Int)<(m:Int):=by omega
  clear l q j x y b f hn9 g D o c2 s I c3
  go_enter func271,ntmps271
  go_wp2_with fail
  refine SM z ?_
  go_wp2_with fail
  refine SM (r _) ?_
  go_wp2_with fail
  refine u.mono ?_;rintro e B ⟨v,rfl,A,t⟩
  have E:=i B t
  clear u i
  go_wp2_with fail
  refine SM E ?_
  go_wp2
  exact BR ⟨_,rfl,A,t⟩
 ·have o:decide (a%2^m≠0)=false:=by
   rw[ae];intro h;exact c3 (g.1 h).2
  rw[o]
  have K:¬((C:Int)<(m:Int)):=by omega
  clear l q j x y b f hn9 g D o c2 s I c3
  go_enter func271,ntmps271
  go_wp2_with fail
  refine SM z ?_
  go_wp2_with fail
  refine SM (r _) ?_
  go_wp2_with fail
  refine u.mono ?_;rintro e B ⟨v,rfl,A,t⟩
  have E:=i B t
  clear u i
  go_wp2_with fail
  refine SM E ?_
  go_wp2
  exact BR ⟨_,rfl,A,t⟩ (by simp[results,results271,go_sem]<;>omega)
end Go.Proofs.YtmpjcknaelgnoaaGreatDoor
