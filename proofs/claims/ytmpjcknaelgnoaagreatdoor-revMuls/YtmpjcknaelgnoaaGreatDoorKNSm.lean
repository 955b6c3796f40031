import Derived.Test.YtmpjcknaelgnoaaGreatDoorKMR7Q
import Derived.Test.YtmpjcknaelgnoaaGreatDoorKXRL
import Derived.Deep.DeepCutAuto
import Derived.Laws.Cover1
import Derived.Laws.Small
set_option maxHeartbeats 1000000
set_option maxRecDepth 20000
namespace Go.Proofs.YtmpjcknaelgnoaaGreatDoor
open Go.RowKit Tryz
theorem EO (w:World)(x y:Int):Rw (w.alloc (.cells #[.int .u32 x,.int .u32 y] 120)) w.heap.size 2 [x,y]:=by
 have:=World.rowIs_alloc w #[.int .u32 x,.int .u32 y] 120 (fun i=>.int .u32 ([x,y].getD i 0)) (fun i hi=>by
  have h:i=0∨i=1:=by simp at hi;omega
  rcases h with rfl|rfl<;>rfl)
 exact this
theorem EP (w:World)(x:Int):Rw (w.alloc (.cells #[.int .u32 x] 120)) w.heap.size 1 [x]:=by
 have:=World.rowIs_alloc w #[.int .u32 x] 120 (fun i=>.int .u32 ([x].getD i 0)) (fun i hi=>by
  have h:i=0:=by simp at hi;omega
  rcases h with rfl;rfl)
 exact this
theorem zB (w:World):Own (w.alloc (.cells #[.int .u32 1] 120)) w.heap.size (.slice (some ⟨w.heap.size,0,none⟩) 1 1) [1] :=
 Own.of_row (EP w 1) (ao _) (ao _) rfl (by unfold maxLen;omega)
theorem tK (v:Nat)(hv:v<18446744073709551616)(w:World) :
  Calls prog 209 #[.int .u64 (v:Int)] w fun e w'=>∃r,e=.returned r∧Own w' w.heap.size r (az v)∧Kp w w':=by
 obtain⟨lo,h⟩:∃lo:Nat,lo=v%4294967296:=⟨_,rfl⟩
 obtain⟨hi,d⟩:∃hi:Nat,hi=v/4294967296:=⟨_,rfl⟩
 have q:IntKind.u32.wrap (v:Int)=(lo:Int):=by rw[IntKind.wrap_u32];omega
 have s:(v:Int)/4294967296=(hi:Int):=by omega
 have p:IntKind.u32.wrap (hi:Int)=(hi:Int):=by rw[IntKind.wrap_u32];omega
 have j:Wd [(lo:Int),(hi:Int)]:=Wd.mk (by omega) (Wd.mk (by omega) Wd.nil)
 have a:val [(lo:Int),(hi:Int)]=v:=by simp[val];omega
 have g:=EO w (lo:Int) (hi:Int)
 have c:=dD.1 (some ⟨w.heap.size,0,none⟩) 2 [(lo:Int),(hi:Int)] _ (by simpa using g.arr 2 (ao _) (by simp)) (by simp) (by simp)
 have l:Own (w.alloc (.cells #[.int .u32 (lo:Int),.int .u32 (hi:Int)] 120)) w.heap.size (.slice (some ⟨w.heap.size,0,none⟩) (tl [(lo:Int),(hi:Int)]) 2) (az v):=by
  have m:=Own.of_row (base:=w.heap.size) (k:=tl [(lo:Int),(hi:Int)]) g (ao _) (dJ _) rfl (by unfold maxLen;omega)
  have n:[(lo:Int),(hi:Int)].take (tl [(lo:Int),(hi:Int)])=az v:=by rw[<-a,<-eZ _ j];rfl
  rw[n]at m
  exact m
 have o:Kp w (w.alloc (.cells #[.int .u32 (lo:Int),.int .u32 (hi:Int)] 120)):=(Kp.refl w).alloc _
 obtain⟨T,i⟩:=aA (tl [(lo:Int),(hi:Int)])
 rw[<-i]at c l
 have b:Calls prog 241 #[.slice (some ⟨w.heap.size,0,none⟩) 2 2] (w.alloc (.cells #[.int .u32 (lo:Int),.int .u32 (hi:Int)] 120)) fun e w'=>e=.returned (.slice (some ⟨w.heap.size,0,none⟩) T 2)∧w'=w.alloc (.cells #[.int .u32 (lo:Int),.int .u32 (hi:Int)] 120):=c
 clear c i a j h d hv g
 go_enter func209,ntmps209
 go_wp2_with fail
 refine b.mono ?_;rintro e w' ⟨rfl,f⟩;subst f
 clear b
 go_wp2
 exact BR ⟨_,rfl,l,o⟩
theorem mc (v:Nat)(hv:v<18446744073709551616)(w:World) :
  Calls prog 158 #[.int .u64 (v:Int)] w fun e w'=>∃r,e=.returned r∧Own w' w.heap.size r (az v)∧Kp w w':=by
 have o:=kK v hv
 obtain⟨lo,f⟩:∃lo:Nat,lo=v%4294967296:=⟨_,rfl⟩
 obtain⟨hi,g⟩:∃hi:Nat,hi=v/4294967296:=⟨_,rfl⟩
 rw[<-f]at o
 have q:IntKind.u32.wrap (lo:Int)=(lo:Int):=by rw[IntKind.wrap_u32];omega
 have s:(v:Int)/4294967296=(hi:Int):=by omega
 have p:IntKind.u32.wrap (hi:Int)=(hi:Int):=by rw[IntKind.wrap_u32];omega
 have l:Wd [(lo:Int),(hi:Int)]:=Wd.mk (by omega) (Wd.mk (by omega) Wd.nil)
 have c:val [(lo:Int),(hi:Int)]=v:=by simp[val];omega
 have k:=EO w (lo:Int) (hi:Int)
 have j:Kp w (w.alloc (.cells #[.int .u32 (lo:Int),.int .u32 (hi:Int)] 120)):=(Kp.refl w).alloc _
 have a:=iy (some ⟨w.heap.size,0,none⟩) 2 [(lo:Int),(hi:Int)] _ (by simpa using k.arr 2 (ao _) (by simp)) (by simp)
 rw[eZ _ l,c]at a
 obtain⟨Z,m⟩:=aA (az v)
 rw[<-m]at a|-
 have b:Calls prog 130 #[.slice (some ⟨w.heap.size,0,none⟩) 2 2] (w.alloc (.cells #[.int .u32 (lo:Int),.int .u32 (hi:Int)] 120)) fun e w'=>∃v,e=.returned v∧Own w' (w.alloc (.cells #[.int .u32 (lo:Int),.int .u32 (hi:Int)] 120)).heap.size v Z∧Kp (w.alloc (.cells #[.int .u32 (lo:Int),.int .u32 (hi:Int)] 120)) w':=a
 clear a m c l f g hv k
 go_enter func158,ntmps158
 go_wp2_with fail
 refine b.mono ?_;rintro e t ⟨r,rfl,n,d⟩
 have i:=n.mono j.size
 have h:=j.trans d
 clear b n j d
 go_wp2
 exact BR ⟨_,rfl,i,h⟩
theorem zZ (p:Option Addr)(c:Nat)(xs:List Int)(w:World)(hx:Arr w p xs)(hwx:Wd xs)(lx:xs.length<=2) :
  Calls prog 274 #[.slice p xs.length c] w (RE (.int .u64 (val xs:Nat)) w):=by
 obtain⟨N,h⟩:=aA xs.length
 have r:Hid (Arr w p xs∧Wd xs∧N=xs.length):=⟨hx,hwx,h⟩
 have u:min (N:Int) 2=(N:Int):=by omega
 have E:N<=2:=by omega
 rw[<-h]
 clear hx hwx lx h
 go_enter func274,ntmps274
 go_wp2
 go_loop [3,8] (fun v i=>∃k:Nat,i=.int .i64 k∧k<=N∧v=.int .u64 (val (xs.take k):Nat)) (fun _ i=>N-(intOf i).toNat)
 case atStart=>exact⟨0,rfl,aW _,by simp[val]⟩
 case round =>
  obtain⟨k,rfl,L,rfl⟩:=hrel
  obtain⟨hx,hwx,h⟩:=r.out
  by_cases K:k<N
  ·obtain⟨b,H,rfl,t⟩:=hx.at (k:=k) (by omega)
   have A:=t k (by omega)
   have wx:=hwx k
   have a:=bd xs k
   have j:=yU xs hwx (by omega) (k+1)
   have d:=dE xs hwx k
   obtain⟨X,y⟩:∃X:Nat,(X:Int)=xs.getD k 0:=⟨(xs.getD k 0).toNat,by omega⟩
   rw[<-y]at A a
   rw[av]at a
   obtain⟨V,l⟩:=aA (val (xs.take k))
   obtain⟨f,g⟩:=aA (val (xs.take (k+1)))
   rw[<-l]at a d|-
   rw[<-g]at a j
   have B:Hid (f=val (xs.take (k+1))):=g
   have J:IntKind.u64.wrap (X:Int)=(X:Int):=by rw[IntKind.wrap_u64];omega
   have i0:(0:Int)<=(k:Int):=by omega
   have I:(k:Int)<(N:Int):=by omega
   have C:X<4294967296:=by omega
   clear hx hwx h t wx y l g r
   rcases(by omega:k=0∨k=1)with rfl|rfl
   ·have s:V=0:=by simpa using d
    subst s
    have n:f=X:=by simpa using a
    subst n
    have o:bits BinOp.or IntKind.u64 0 (f:Int)=(f:Int):=by
     have:=bits_or_u64_nat 0 f (by omega) (by omega)
     simpa using this
    rw[bi]at A
    clear a j d
    go_wp2
    exact⟨⟨1,by go_num,by omega,by rw[<-B.out]⟩,by simp[intOf];omega⟩
   ·have D:IntKind.u64.wrap ((X:Int)*4294967296)=((X*4294967296:Nat):Int):=by rw[IntKind.wrap_u64];omega
    have m:=fZ V X 32 (by simpa using d)
    have o:=bits_or_u64_nat V (X*4294967296) (by omega) (by omega)
    have x:V ||| X*4294967296=f:=by
     have G:V+X*4294967296=f:=by omega
     rw[<-G];exact m
    rw[x]at o
    obtain⟨Y,z⟩:∃Y:Nat,Y=X*4294967296:=⟨_,rfl⟩
    rw[<-z]at D o
    clear a j d m x z
    go_wp2
    exact⟨⟨2,by go_num,by omega,by rw[<-B.out]⟩,by simp[intOf];omega⟩
  ·have q:k=N:=by omega
   subst q
   rw[h,di]
   obtain⟨V,l⟩:=aA (val xs)
   rw[<-l]
   have I:¬((k:Int)<(k:Int)):=by omega
   have F:Hid (V=val xs):=l
   clear r hx hwx h l
   go_wp2
   exact BR (v:=.int .u64 (V:Int)) ⟨by rw[F.out],rfl⟩
theorem rW (p:Option Addr)(c:Nat)(xs:List Int)(w:World)(hx:Arr w p xs)(hwx:Wd xs)(lx:xs.length<=16777216)(hc:xs.length<=c) :
  Calls prog 254 #[.slice p xs.length c] w (RE (.tuple #[.int .u64 ((gT (val xs)).1:Nat),.bool (gT (val xs)).2]) w):=by
 have j:=dD.1 p c xs w hx (by omega) hc
 have f:=fS xs hwx
 have b:tl xs<=2->Calls prog 274 #[.slice p (tl xs) c] w (RE (.int .u64 (val xs:Nat)) w):=fun h=>by
  have:=zZ p c (nz xs) w (hx.take _) (hwx.take _) (by rw[bM];exact h)
  rw[bM,eO]at this
  exact this
 obtain⟨a,k⟩:=aA (val xs)
 obtain⟨N,g⟩:=aA xs.length
 obtain⟨S,i⟩:=aA (tl xs)
 rw[<-k]at f b|-
 rw[<-g,<-i]at j
 rw[<-i]at f b
 rw[<-g]
 clear hx hwx lx hc k g i
 by_cases l:2<S
 ·have d:gT a=(0,false):=by unfold gT;rw[if_pos (by omega)]
  rw[d]
  have m:(2:Int)<(S:Int):=by omega
  clear b f d l
  go_enter func254,ntmps254
  go_wp2_with fail
  refine SM j ?_
  go_wp2
  exact BR ⟨rfl,rfl⟩
 ·have d:gT a=(a,true):=by unfold gT;rw[if_neg (by omega)]
  rw[d]
  have m:¬((2:Int)<(S:Int)):=by omega
  have n:=b (by omega)
  clear b f d l
  go_enter func254,ntmps254
  go_wp2_with fail
  refine SM j ?_
  go_wp2_with fail
  refine SM n ?_
  go_wp2
  exact BR ⟨rfl,rfl⟩
theorem Cn (p:Option Addr)(c:Nat)(xs:List Int)(w:World)(hx:Arr w p xs)(hwx:Wd xs)(lx:xs.length<=16777216) :
  Calls prog 220 #[.slice p xs.length c] w (RE (.tuple #[.int .u64 ((gT (val xs)).1:Nat),.bool (gT (val xs)).2]) w):=by
 have s:=dD.2 p c xs w hx (by omega)
 have q:=fS xs hwx
 have A:=dJ xs
 have d:val ((nz xs).drop 0)=val xs:=by rw[List.drop_zero,eO]
 have g:=bM xs
 have m:∀k,k<tl xs->(nz xs).getD k 0=xs.getD k 0:=fun k B=>by unfold nz;simp[List.getD,B]
 obtain⟨h,o⟩:=aA (nz xs)
 have f:Wd h:=by rw[o];exact hwx.take _
 rw[<-o]at d g m
 obtain⟨a,P⟩:=aA (val xs)
 obtain⟨N,r⟩:=aA xs.length
 obtain⟨S,F⟩:=aA (tl xs)
 rw[<-P]at q d|-
 rw[<-r,<-F]at s
 rw[<-F]at q g m A
 rw[<-r]at A|-
 have t:Hid (Arr w p xs∧Wd h∧N=xs.length∧h.length=S∧val (h.drop 0)=a∧(∀k,k<S->h.getD k 0=xs.getD k 0)):=⟨hx,f,r,g,d,m⟩
 clear hx hwx lx P r F o f g d m
 by_cases M:2<S
 ·have l:gT a=(0,false):=by unfold gT;rw[if_pos (by omega)]
  rw[l]
  have Q:(2:Int)<(S:Int):=by omega
  clear q l M t A
  go_enter func220,ntmps220
  go_wp2_with fail
  refine SM s ?_
  go_wp2
  exact BR ⟨rfl,rfl⟩
 ·have l:gT a=(a,true):=by unfold gT;rw[if_neg (by omega)]
  rw[l]
  have Q:¬((2:Int)<(S:Int)):=by omega
  have E:S<=2:=by omega
  clear q l M
  go_enter func220,ntmps220
  go_wp2_with fail
  refine SM s ?_
  clear s
  go_wp2
  clear Q
  go_loop [5,6] (fun v i=>∃(k:Nat)(z:Int),z=(k:Int)-1∧i=.int .i64 z∧k<=S∧v=.int .u64 (val (h.drop k):Nat)) (fun _ i=>(intOf i+1).toNat)
  case atStart=>exact⟨S,_,rfl,by go_num,ao _,by rw[List.drop_of_length_le (by have:=t.out.2.2.2.1;omega)];rfl⟩
  case round =>
   obtain⟨k,z,I,rfl,B,rfl⟩:=hrel
   obtain⟨hx,f,r,g,d,m⟩:=t.out
   rcases k with _|k
   ·have n:z = -1:=by omega
    subst n
    rw[d]
    clear I t hx f r g d m B
    go_wp2
    exact BR ⟨rfl,rfl⟩
   ·have n:z=(k:Int):=by omega
    subst n
    obtain⟨b,W,rfl,G⟩:=hx.at (k:=k) (by omega)
    have q:=G k (by omega)
    rw[<-m k (by omega)]at q
    have Z:=f k
    have u:=iU h k (by omega)
    have y:val (h.drop (k+1))<4294967296:=by
     have s:=fX (h.drop (k+1)) (fun j=>by
      have:=f (k+1+j)
      simpa [List.getD,List.getElem?_drop]using this)
     have U:(h.drop (k+1)).length<=1:=by rw[List.length_drop];omega
     exact aE s (aT (al (by omega) U) (by decide))
    obtain⟨X,H⟩:∃X:Nat,(X:Int)=h.getD k 0:=⟨(h.getD k 0).toNat,by omega⟩
    rw[<-H]at q u
    rw[av]at u
    obtain⟨V,O⟩:=aA (val (h.drop (k+1)))
    rw[<-O]at u y|-
    have L:Hid (val (h.drop k)=X+4294967296*V):=u
    have f0:IntKind.u64.wrap (X:Int)=(X:Int):=by rw[IntKind.wrap_u64];omega
    have R:IntKind.u64.wrap ((V:Int)*4294967296)=((V*4294967296:Nat):Int):=by rw[IntKind.wrap_u64];omega
    have x:=fZ X V 32 (by omega)
    have C:=bits_or_u64_nat (V*4294967296) X (by omega) (by omega)
    have l:V*4294967296 ||| X=X+4294967296*V:=by
     rw[eH,ap 4294967296];exact x
    rw[l]at C
    obtain⟨Y,J⟩:∃Y:Nat,Y=V*4294967296:=⟨_,rfl⟩
    obtain⟨T,K⟩:∃T:Nat,T=X+4294967296*V:=⟨_,rfl⟩
    rw[<-J]at R C
    rw[<-K]at C L
    have i0:(0:Int)<=(k:Int):=by omega
    have i1:(k:Int)<(N:Int):=by omega
    have D:k<=S:=by omega
    clear I t hx f r g d m G Z u H O x l J K y B A E
    go_wp2
    exact⟨⟨k,_,rfl,by go_num,D,by rw[L.out]⟩,by simp[intOf]⟩
theorem qL (v:Value)(a m:Nat)(w:World)(h:Ls w v (az a))(l:aq a<=16777216)(hm:m<=16777216) :
  Calls prog 171 #[v,.int .i64 (m:Int)] w fun e w'=>∃v',e=.returned v'∧Ls w' v' (az (a*2^m))∧Kp w w':=by
 obtain⟨p,c,rfl,b,d⟩:=h
 have h:=kR p c m (az a) w b (bC a) (aT (dZ a 524288 (by omega)) (by omega)) hm
 rw[aV]at h
 exact h.mono fun e w' ⟨v,h1,h2,h3⟩=>⟨v,h1,h2.ls,h3⟩
theorem AG (v1 v2:Value)(a b:Nat)(w:World)(h1:Ls w v1 (az a))(h2:Ls w v2 (az b))(l1:aq a<=33554432)(l2:aq b<=33554432) :
  Calls prog 134 #[v1,v2] w (RT (.int .i64 (dW a b)) w):=by
 obtain⟨p,c,rfl,g,i⟩:=h1
 obtain⟨q,d,rfl,f,j⟩:=h2
 have l:=dZ a 1048576 (by omega)
 have k:=dZ b 1048576 (by omega)
 have h:=qm p q c d (az a) (az b) w g f (bC a) (bC b) (by omega) (by omega)
 rw[aV,aV]at h
 exact h
theorem Fw (v:Value)(a:Nat)(w:World)(h:Ls w v (az a))(l:aq a<=33554432) :
  Calls prog 202 #[v] w (RE (.int .i64 (aq a:Nat)) w):=by
 obtain⟨p,c,rfl,b,d⟩:=h
 have f:=dZ a 1048576 (by omega)
 have h:=ti p c (az a) w b (bC a) (by omega)
 rw[aV]at h
 exact h
theorem Fi (v:Value)(L:List Int)(w:World)(h:Ls w v L)(hw:Wd L)(l:L.length<=1048576) :
  Calls prog 130 #[v] w fun e w'=>∃v',e=.returned v'∧Ls w' v' (az (val L))∧Kp w w':=by
 obtain⟨p,c,rfl,a,b⟩:=h
 have h:=iy p c L w a (by omega)
 rw[eZ L hw]at h
 exact h.mono fun e w' ⟨v,h1,h2,h3⟩=>⟨v,h1,h2.ls,h3⟩
theorem Ex (v:Value)(a:Nat)(w:World)(h:Ls w v (az a))(l:a<18446744073709551616) :
  Calls prog 220 #[v] w (RE (.tuple #[.int .u64 (a:Int),.bool true]) w):=by
 obtain⟨p,c,rfl,b,g⟩:=h
 have d:aS a<=2:=by
  by_cases c:aS a<=2
  ·exact c
  ·exfalso
   have:=gZ a 2 (by omega)
   omega
 have f:(az a).length<=2:=d
 have h:=Cn p c (az a) w b (bC a) (by omega)
 rw[aV]at h
 unfold gT at h
 rw[if_neg (by omega)]at h
 exact h
theorem Ix (v1 v2:Value)(a b:Nat)(w:World)(h1:Ls w v1 (az a))(h2:Ls w v2 (az b))(l1:aq a<=33554432)(l2:aq b<=8388608)(h0:0<b) :
  Calls prog 167 #[v1,v2] w fun e w'=>∃q r,e=.returned (.tuple #[q,r])∧Ls w' q (az (a/b))∧Ls w' r (az (a%b))∧Kp w w':=by
 obtain⟨p,c,rfl,i,k⟩:=h1
 obtain⟨q,d,rfl,g,l⟩:=h2
 have j:=dZ a 1048576 (by omega)
 have f:=dZ b 262144 (by omega)
 have h:=GJ p q c d (az a) (az b) w i g (bC a) (bC b) j (by omega) (by rw[oy];exact f) (by rw[aV];exact h0)
 rw[aV,aV]at h
 exact h.mono fun e w' ⟨v,he,⟨p1,c1,p2,c2,f,o1,o2,_⟩,hk⟩=>⟨_,_,by rw[he,f],o1.ls,o2.ls,hk⟩
theorem eQ (z:Int)(h0:-1099511627776<=z)(h1:z<=1099511627776):wrap64 z=z:=by unfold wrap64;omega
theorem xD (neg:Bool)(sig:Nat)(e:Int)(w:World)(hs:sig<=9007199254740992)(he:-1074<=e)(he2:e<5000)(hb:aq (sig*2^(e+1074).toNat)<=2098) :
  Calls prog 221 #[.bool neg,.int .u64 (sig:Int),.int .i64 e] w (RE (.int .u64 ((gO neg (fk 53 (sig*2^(e+1074).toNat)):Nat):Int)) w):=by
 by_cases X:sig=0
 ·subst X
  rw[aM,gR]
  clear hb
  go_enter func221,ntmps221
  go_wp2
  exact BR (v:=.int .u64 0) ⟨rfl,rfl⟩
 ·have t0:¬((sig:Int)=0):=by omega
  obtain⟨U,hU⟩:=aA (sig*2^(e+1074).toNat)
  rw[<-hU]at hb|-
  have HB:Hid (aq U<=2098):=hb
  have j0:MdI U sig e:=⟨X,hs,he,by omega,hU.symm⟩
  clear hb hU X hs he
  go_enter func221,ntmps221
  go_wp2
  go_loop [1,2] (fun a b=>∃(s:Nat)(x:Int),a=.int .u64 (s:Int)∧b=.int .i64 x∧MdI U s x∧(x<5000∨s<9007199254740992)) (fun a _=>(intOf a).toNat)
  case atStart=>exact⟨_,_,rfl,rfl,j0,Or.inl he2⟩
  case round =>
   clear j0 t0 he2
   obtain⟨s,x,rfl,rfl,l,hx⟩:=hrel
   obtain⟨o,C,D,u,B⟩:=id l
   by_cases f:9007199254740992<=s
   ·have N:9007199254740992<=(s:Int):=by omega
    obtain⟨q,I⟩:=l.half (by omega) f
    have G:s/2<s:=by omega
    obtain⟨h,hh⟩:=aA (s/2)
    rw[<-hh]at q I G
    have V:(s:Int)/2=(h:Int):=by omega
    have E:wrap64 (x+1)=x+1:=eQ _ (by omega) (by omega)
    have Q:Hid ((MdI U h (x+1)∧h<9007199254740992)∧h<s):=⟨⟨q,I⟩,G⟩
    clear o C D u B l hx q I f G hh
    go_wp2
    exact⟨⟨h,x+1,rfl,by rw[E],Q.out.1.1,Or.inr Q.out.1.2⟩,by simp only[intOf,av];exact Q.out.2⟩
   ·have A:s<9007199254740992:=by omega
    have N:¬(9007199254740992<=(s:Int)):=by omega
    have t2:¬(x < -1074):=by omega
    have T:bits BinOp.and IntKind.u64 (s:Int) 1=((s%2:Nat):Int):=by
     have:=u64_and_nat s 1 (by omega) (by omega)
     rw[Nat.and_one_is_mod]at this
     exact this
    clear o C D u B hx f
    rcases(by omega:s%2=0∨s%2=1)with S|S
    ·rw[S]at T
     have O:Hid (MdI U s x∧s<9007199254740992):=⟨l,A⟩
     clear S l A
     go_wp2
     obtain⟨l,A⟩:=O.out
     clear T N t2 O
     go_loop [1,2] (fun a b=>∃(s:Nat)(x:Int),a=.int .u64 (s:Int)∧b=.int .i64 x∧MdI U s x∧s<9007199254740992) (fun _ b=>(intOf b+1074).toNat)
     case atStart=>exact⟨_,_,rfl,rfl,l,A⟩
     case round =>
      clear l A
      obtain⟨s,x,rfl,rfl,g,hs⟩:=hrel
      obtain⟨o,C,D,u,B⟩:=id g
      by_cases f:s<4503599627370496
      ·have N:(s:Int)<4503599627370496:=by omega
       by_cases k2:-1074<x
       ·have q:=g.dbl f k2
        have I:2*s<9007199254740992:=by omega
        have V:IntKind.u64.wrap ((s:Int)*2)=((2*s:Nat):Int):=by rw[IntKind.wrap_u64];omega
        have E:wrap64 (x-1)=x-1:=eQ _ (by omega) (by omega)
        have G:(x-1+1074).toNat<(x+1074).toNat:=by omega
        have Q:Hid (MdI U (2*s) (x-1)∧2*s<9007199254740992):=⟨q,I⟩
        clear o C D u B g hs q I f
        go_wp2
        exact⟨⟨2*s,x-1,by exact congrArg _ (by omega),by rw[E],Q.out.1,Q.out.2⟩,by simp only[intOf,E];exact G⟩
       ·obtain⟨n,F⟩:=g.low f (by omega)
        have p:Hid (fk 53 U=s):=n
        have c:Hid (s≠0):=o
        have d:((s:Nat):Nat) ||| 9223372036854775808=9223372036854775808+s:=by
         have:=fZ s 1 63 (by rw[show(2:Nat)^63=9223372036854775808 from by decide];omega)
         rw[show 1*2^63=9223372036854775808 from by decide]at this
         omega
        obtain⟨m,t⟩:=aA s
        subst t
        obtain⟨Z,k⟩:=aA (9223372036854775808+m)
        have Y:bits BinOp.or IntKind.u64 (m:Int) 9223372036854775808=(Z:Int):=by
         have:=u64_or_nat m 9223372036854775808 (by omega) (by decide)
         rw[d,<-k]at this
         exact this
        have L:Hid (gO true m=Z):=by show _=_;rw[k];unfold gO;rw[if_neg c.out,if_pos rfl]
        have J:Hid (gO false m=m):=by show _=_;unfold gO;rw[if_neg c.out];rfl
        clear k
        have K:¬(4503599627370496<=(m:Int)):=by omega
        clear o C D u B g hs f n F d
        by_cases i:neg=true
        ·subst i
         go_wp2
         exact BR (v:=.int .u64 (Z:Int)) ⟨by rw[p.out,L.out],rfl⟩
        ·have j:neg=false:=by simpa using i
         subst j
         clear i
         go_wp2
         exact BR (v:=.int .u64 (m:Int)) ⟨by rw[p.out,J.out],rfl⟩
      ·have N:¬((s:Int)<4503599627370496):=by omega
       have K:4503599627370496<=(s:Int):=by omega
       obtain⟨W,n,F,M⟩:=g.top (by omega) hs HB.out
       obtain⟨m,t⟩:=aA (fk 53 U)
       rw[<-t]at n F M
       have p:Hid (fk 53 U=m):=t.symm
       have c:Hid (m≠0):=M
       have d:m ||| 9223372036854775808=9223372036854775808+m:=by
        have:=fZ m 1 63 (by rw[show(2:Nat)^63=9223372036854775808 from by decide];omega)
        rw[show 1*2^63=9223372036854775808 from by decide]at this
        omega
       obtain⟨Z,k⟩:=aA (9223372036854775808+m)
       have Y:bits BinOp.or IntKind.u64 (m:Int) 9223372036854775808=(Z:Int):=by
        have:=u64_or_nat m 9223372036854775808 (by omega) (by decide)
        rw[d,<-k]at this
        exact this
       have L:Hid (gO true m=Z):=by show _=_;rw[k];unfold gO;rw[if_neg c.out,if_pos rfl]
       have J:Hid (gO false m=m):=by show _=_;unfold gO;rw[if_neg c.out];rfl
       clear k
       obtain⟨y,P⟩:∃y:Nat,(y:Int)=x+1075:=⟨(x+1075).toNat,by omega⟩
       obtain⟨z,R⟩:∃z:Nat,z=s-4503599627370496:=⟨_,rfl⟩
       obtain⟨H,r⟩:∃H:Nat,H=y*4503599627370496:=⟨_,rfl⟩
       rw[show(x+1075).toNat=y from by omega,<-R,<-r]at n
       have V:IntKind.u64.wrap ((s:Int)-4503599627370496)=(z:Int):=by rw[IntKind.wrap_u64];omega
       have E:wrap64 (x+1075)=(y:Int):=by rw[<-P];exact eQ _ (by omega) (by omega)
       have G:IntKind.u64.wrap (y:Int)=(y:Int):=by rw[IntKind.wrap_u64];omega
       have f5:IntKind.u64.wrap ((y:Int)*4503599627370496)=(H:Int):=by rw[IntKind.wrap_u64];omega
       have f6:IntKind.u64.wrap ((z:Int)+(H:Int))=(m:Int):=by rw[IntKind.wrap_u64];omega
       clear o C D u B g hs f W n F M d t P R r
       by_cases i:neg=true
       ·subst i
        go_wp2
        exact BR (v:=.int .u64 (Z:Int)) ⟨by rw[p.out,L.out],rfl⟩
       ·have j:neg=false:=by simpa using i
        subst j
        clear i
        go_wp2
        exact BR (v:=.int .u64 (m:Int)) ⟨by rw[p.out,J.out],rfl⟩
    ·rw[S]at T
     have O:Hid (MdI U s x∧s<9007199254740992):=⟨l,A⟩
     clear S l A
     go_wp2
     obtain⟨l,A⟩:=O.out
     clear T N t2 O
     go_loop [1,2] (fun a b=>∃(s:Nat)(x:Int),a=.int .u64 (s:Int)∧b=.int .i64 x∧MdI U s x∧s<9007199254740992) (fun _ b=>(intOf b+1074).toNat)
     case atStart=>exact⟨_,_,rfl,rfl,l,A⟩
     case round =>
      clear l A
      obtain⟨s,x,rfl,rfl,g,hs⟩:=hrel
      obtain⟨o,C,D,u,B⟩:=id g
      by_cases f:s<4503599627370496
      ·have N:(s:Int)<4503599627370496:=by omega
       by_cases k2:-1074<x
       ·have q:=g.dbl f k2
        have I:2*s<9007199254740992:=by omega
        have V:IntKind.u64.wrap ((s:Int)*2)=((2*s:Nat):Int):=by rw[IntKind.wrap_u64];omega
        have E:wrap64 (x-1)=x-1:=eQ _ (by omega) (by omega)
        have G:(x-1+1074).toNat<(x+1074).toNat:=by omega
        have Q:Hid (MdI U (2*s) (x-1)∧2*s<9007199254740992):=⟨q,I⟩
        clear o C D u B g hs q I f
        go_wp2
        exact⟨⟨2*s,x-1,by exact congrArg _ (by omega),by rw[E],Q.out.1,Q.out.2⟩,by simp only[intOf,E];exact G⟩
       ·obtain⟨n,F⟩:=g.low f (by omega)
        have p:Hid (fk 53 U=s):=n
        have c:Hid (s≠0):=o
        have d:((s:Nat):Nat) ||| 9223372036854775808=9223372036854775808+s:=by
         have:=fZ s 1 63 (by rw[show(2:Nat)^63=9223372036854775808 from by decide];omega)
         rw[show 1*2^63=9223372036854775808 from by decide]at this
         omega
        obtain⟨m,t⟩:=aA s
        subst t
        obtain⟨Z,k⟩:=aA (9223372036854775808+m)
        have Y:bits BinOp.or IntKind.u64 (m:Int) 9223372036854775808=(Z:Int):=by
         have:=u64_or_nat m 9223372036854775808 (by omega) (by decide)
         rw[d,<-k]at this
         exact this
        have L:Hid (gO true m=Z):=by show _=_;rw[k];unfold gO;rw[if_neg c.out,if_pos rfl]
        have J:Hid (gO false m=m):=by show _=_;unfold gO;rw[if_neg c.out];rfl
        clear k
        have K:¬(4503599627370496<=(m:Int)):=by omega
        clear o C D u B g hs f n F d
        by_cases i:neg=true
        ·subst i
         go_wp2
         exact BR (v:=.int .u64 (Z:Int)) ⟨by rw[p.out,L.out],rfl⟩
        ·have j:neg=false:=by simpa using i
         subst j
         clear i
         go_wp2
         exact BR (v:=.int .u64 (m:Int)) ⟨by rw[p.out,J.out],rfl⟩
      ·have N:¬((s:Int)<4503599627370496):=by omega
       have K:4503599627370496<=(s:Int):=by omega
       obtain⟨W,n,F,M⟩:=g.top (by omega) hs HB.out
       obtain⟨m,t⟩:=aA (fk 53 U)
       rw[<-t]at n F M
       have p:Hid (fk 53 U=m):=t.symm
       have c:Hid (m≠0):=M
       have d:m ||| 9223372036854775808=9223372036854775808+m:=by
        have:=fZ m 1 63 (by rw[show(2:Nat)^63=9223372036854775808 from by decide];omega)
        rw[show 1*2^63=9223372036854775808 from by decide]at this
        omega
       obtain⟨Z,k⟩:=aA (9223372036854775808+m)
       have Y:bits BinOp.or IntKind.u64 (m:Int) 9223372036854775808=(Z:Int):=by
        have:=u64_or_nat m 9223372036854775808 (by omega) (by decide)
        rw[d,<-k]at this
        exact this
       have L:Hid (gO true m=Z):=by show _=_;rw[k];unfold gO;rw[if_neg c.out,if_pos rfl]
       have J:Hid (gO false m=m):=by show _=_;unfold gO;rw[if_neg c.out];rfl
       clear k
       obtain⟨y,P⟩:∃y:Nat,(y:Int)=x+1075:=⟨(x+1075).toNat,by omega⟩
       obtain⟨z,R⟩:∃z:Nat,z=s-4503599627370496:=⟨_,rfl⟩
       obtain⟨H,r⟩:∃H:Nat,H=y*4503599627370496:=⟨_,rfl⟩
       rw[show(x+1075).toNat=y from by omega,<-R,<-r]at n
       have V:IntKind.u64.wrap ((s:Int)-4503599627370496)=(z:Int):=by rw[IntKind.wrap_u64];omega
       have E:wrap64 (x+1075)=(y:Int):=by rw[<-P];exact eQ _ (by omega) (by omega)
       have G:IntKind.u64.wrap (y:Int)=(y:Int):=by rw[IntKind.wrap_u64];omega
       have f5:IntKind.u64.wrap ((y:Int)*4503599627370496)=(H:Int):=by rw[IntKind.wrap_u64];omega
       have f6:IntKind.u64.wrap ((z:Int)+(H:Int))=(m:Int):=by rw[IntKind.wrap_u64];omega
       clear o C D u B g hs f W n F M d t P R r
       by_cases i:neg=true
       ·subst i
        go_wp2
        exact BR (v:=.int .u64 (Z:Int)) ⟨by rw[p.out,L.out],rfl⟩
       ·have j:neg=false:=by simpa using i
        subst j
        clear i
        go_wp2
        exact BR (v:=.int .u64 (m:Int)) ⟨by rw[p.out,J.out],rfl⟩
theorem GS (sig P x s G:Nat)(hb:aq sig=P)(h0:sig≠0)(hP:P<=53)(hs:s=min (53-P) x)(hG:(x-s)*4503599627370496+sig*2^s=G)(hx:P+x<=2098):fk 53 (sig*2^x)=G∧aq (sig*2^x)<=2098:=by
 have h:=iq 53 sig x s h0 (by rw[hb];exact hs) (by rw[hb];exact hP)
 rw[show(2:Nat)^(53-1)=4503599627370496 from by decide,hG]at h
 exact⟨h,by rw[du _ _ h0,hb];exact hx⟩
theorem wF (neg:Bool)(w:World):Calls prog 218 #[.bool neg] w (RE (.int .u64 ((gO neg 9218868437227405312:Nat):Int)) w):=by
 cases neg
 ·rw[show((gO false 9218868437227405312:Nat):Int)=9218868437227405312 from rfl]
  go_enter func218,ntmps218
  go_wp2
  exact BR ⟨rfl,rfl⟩
 ·rw[show((gO true 9218868437227405312:Nat):Int)=18442240474082181120 from rfl]
  go_enter func218,ntmps218
  go_wp2
  exact BR ⟨rfl,rfl⟩
theorem CA (neg:Bool)(w:World):Calls prog 219 #[.bool neg,.int .i64 53,.int .i64 1023] w (RE (.int .u64 ((gO neg 9218868437227405311:Nat):Int)) w):=by
 obtain⟨x,f⟩:∃x:Int,x=971:=⟨_,rfl⟩
 have c:=GS 9007199254740991 53 (x+1074).toNat 0 9218868437227405311 (ed 9007199254740991 52 (by decide) (by decide)) (by decide) (by decide) (by omega) (by omega) (by omega)
 have b:=xD neg 9007199254740991 x w (by decide) (by omega) (by omega) c.2
 rw[c.1,f]at b
 obtain⟨Z,d⟩:=aA (gO neg 9218868437227405311)
 rw[<-d]at b|-
 clear d
 have a:Calls prog 221 #[.bool neg,.int .u64 9007199254740991,.int .i64 971] w (RE (.int .u64 (Z:Int)) w):=b
 clear b
 go_enter func219,ntmps219
 go_wp2_with fail
 refine SM a ?_;clear a
 go_wp2
 exact BR ⟨rfl,rfl⟩
theorem mB (neg:Bool)(vn vd:Value)(n:Nat)(w:World)(hn:Ls w vn (az n))(l:aq n<=33554432) :
  Calls prog 133 #[.agg #[.bool neg,vn,vd]] w (fun e w'=>e=.returned (.int .i64 (if n=0 then 0 else if neg then -1 else 1))∧Kp w w'):=by
 obtain⟨j,a⟩:=aA (w.alloc (.cells #[.bool neg,vn,vd] 57))
 have b:Kp w j:=by rw[a];exact(Kp.refl w).alloc _
 have o:j.cell? ⟨w.heap.size,0,none⟩=some (.bool neg):=by rw[a];simp[go_sem]
 have g:=Fi vn (az n) j (hn.kp b) (bC n) (dZ n 1048576 (by omega))
 rw[aV]at g
 have c:=iP n
 obtain⟨M,m⟩:=aA ((az n).length)
 have p:Hid (M=(az n).length):=m
 rw[<-m]at c
 clear hn l m
 by_cases d:n=0
 ·have h:M=0:=c.2 d
  rw[if_pos d]
  clear c d
  go_enter func133,ntmps133
  go_wp2_with fail
  rw[<-a]
  refine g.mono ?_;rintro e k ⟨r,rfl,⟨s,q,rfl,_,_⟩,f⟩
  rw[<-p.out]
  subst h
  have i:Kp w k:=b.trans f
  clear g f a b o
  go_wp2
  exact BR ⟨rfl,i⟩
 ·have h:¬((M:Int)=0):=by have:=mt c.1 d;omega
  rw[if_neg d]
  clear c d
  go_enter func133,ntmps133
  go_wp2_with fail
  rw[<-a]
  refine g.mono ?_;rintro e k ⟨r,rfl,⟨s,q,rfl,_,_⟩,f⟩
  rw[<-p.out]
  have i:Kp w k:=b.trans f
  have t:=ac f o
  clear g f a b o
  cases neg
  ·go_wp2
   exact BR ⟨rfl,i⟩
  ·go_wp2
   exact BR ⟨rfl,i⟩
theorem xc (d:Int)(neg:Bool)(sig:Nat)(exp:Int)(w:World)(hT:Fq.Tab w)(hd1:-9223372036854775808<=d)(hd2:d<9223372036854775808)(hs:sig<1152921504606846976)(he1:-4194304<=exp)(he2:exp<=4194304) :
  Calls prog 232 #[.int .i64 d,.bool neg,.int .u64 (sig:Int),.int .i64 exp] w fun e w'=>e=.returned (.float .f64 (pW 9223372036854775808 neg (dK 53 2098 9218868437227405311 9218868437227405312 (dU neg d) (rV (dU neg d) 53 sig 1 (exp+1074)))))∧Fq.Grown w w':=by
 obtain⟨m,ab⟩:=aA (dU neg d)
 obtain⟨n,X⟩:∃n:Int,n=if neg=true then wrap64 (-d) else d:=⟨_,rfl⟩
 have O:(n=1 ↔ m=1)∧(n = -1 ↔ m = -1):=by
  rw[X,ab];unfold dU
  cases neg
  ·simp
  ·simp only[if_true]
   by_cases c:d = -9223372036854775808
   ·rw[c];unfold wrap64;omega
   ·rw[show wrap64 (-d) = -d from by unfold wrap64;omega];exact⟨Iff.rfl,Iff.rfl⟩
 have S:∀a b c,fw n a b c=fw m a b c:=fun a b c=>by unfold fw;simp only[O.1,O.2]
 obtain⟨H,C⟩:=aA (aq sig)
 obtain⟨G,a0⟩:∃G:Int,G=exp+1074:=⟨_,rfl⟩
 obtain⟨J,a3⟩:∃J:Nat,(J:Int)=max (max G (G+H-53)) 0:=⟨(max (max G (G+H-53)) 0).toNat,by omega⟩
 obtain⟨c,bb⟩:∃c:Nat,(c:Int)=J-G:=⟨(J-G).toNat,by omega⟩
 obtain⟨hV,a5⟩:=rM m 53 sig G J c (by decide) (by rw[a3,C];rfl) bb
 obtain⟨U,hU⟩:=aA (rV m 53 sig 1 G)
 obtain⟨kp,L⟩:=aA (sig/2^c+(fw m (sig/2^c) (sig%2^c) (2^c)).toNat)
 rw[<-hU,<-L]at hV
 have ba:kp<=9007199254740992:=by
  rw[show(2:Nat)^53=9007199254740992 from by decide]at a5
  rw[L]
  have:=Bool.toNat_le (fw m (sig/2^c) (sig%2^c) (2^c))
  omega
 have hcut:=FW m sig c hs kp L
 obtain⟨T,aa⟩:=aA (min c 61)
 rw[<-aa]at hcut
 obtain⟨x,y⟩:=aA (sig/2^T)
 obtain⟨rs,P⟩:=aA (sig%2^T)
 obtain⟨B,s⟩:=aA (2^T)
 obtain⟨ub,W⟩:=aA (fw m x rs B)
 rw[<-y,<-P,<-s,<-W]at hcut
 obtain⟨f,p⟩:∃f:Int,f=(J:Int)-1074:=⟨_,rfl⟩
 rw[<-ab,<-a0,<-hU]
 have a8:H<=60:=by rw[C];exact gp sig 60 (by rw[show(2:Nat)^60=1152921504606846976 from by decide];exact hs)
 have V:∀w:World,Calls prog 258 #[.int .u64 (sig:Int)] w (RE (.int .i64 (H:Int)) w):=fun w=>by
  have h:=Fq.Dk (sig:Int) (by omega) (by omega) w
  rw[av]at h
  have e:Lib.bitLen sig=H:=by
   by_cases K:sig=0
   ·rw[C,K,cP];decide
   ·rw[C];exact jq sig K (by omega)
  rw[e]at h
  exact h
 have A:T<=61:=by rw[aa];exact Nat.min_le_right _ _
 have a9:B<=2305843009213693952:=by
  rw[s]
  have:(2:Nat)^T<=2^61:=al (by omega) A
  rw[show(2:Nat)^61=2305843009213693952 from by decide]at this
  exact this
 have a7:sig=x*B+rs:=by rw[y,P,s,ap];exact(bU _ _).symm
 have bx:rs<=sig:=by rw[P];exact Nat.mod_le _ _
 obtain⟨kc,au⟩:=aA (x*B)
 have f1:(sig:Int)/(B:Int)=(x:Int):=by rw[y,s];exact(eJ _ _).symm
 have f2:(x:Int)*(B:Int)=(kc:Int):=by rw[au];exact(aK _ _).symm
 have bv:IntKind.u64.wrap (kc:Int)=(kc:Int):=by rw[IntKind.wrap_u64];omega
 have f3:IntKind.u64.wrap ((sig:Int)-(kc:Int))=(rs:Int):=by rw[IntKind.wrap_u64];omega
 have f4:(2:Int)^T=(B:Int):=by rw[s];push_cast;rfl
 have br:IntKind.u64.wrap (B:Int)=(B:Int):=by rw[IntKind.wrap_u64];omega
 have a4:∀w:World,Calls prog 259 #[.int .i64 n,.int .u64 (x:Int),.int .u64 (rs:Int),.int .u64 (B:Int)] w (RE (.bool ub) w):=fun w=>by
  have h:=yV n x rs B w (by omega)
  rw[S,<-W]at h
  exact h
 have g1:wrap64 (exp+(H:Int))=exp+(H:Int):=eQ _ (by omega) (by omega)
 have g2:wrap64 (exp+(H:Int)-53)=exp+(H:Int)-53:=eQ _ (by omega) (by omega)
 have g3:∀w:World,(Builtin.max_ #[3,3,3] 3 #[.int .i64 exp,.int .i64 (exp+(H:Int)-53),.int .i64 (-1074)]).run prog w=.ok (.int .i64 f) w:=fun w=>by
  rw[run_max_int3]
  congr 2
  rw[p]
  split<;>split<;>omega
 have g4:wrap64 (f-exp)=(c:Int):=by rw[show f-exp=(c:Int)from by omega];exact eQ _ (by omega) (by omega)
 have g5:∀w:World,(Builtin.min_ #[3,3] 3 #[.int .i64 (c:Int),.int .i64 61]).run prog w=.ok (.int .i64 (T:Int)) w:=fun w=>by
  rw[run_min_int2]
  congr 2
  split<;>omega
 have r:Hid (U=kp*2^J∧kp=x+ub.toNat∧kp<=9007199254740992∧f=(J:Int)-1074∧x<=1152921504606846976∧-8388608<=f∧f<=8388608):=⟨hV,hcut,ba,p,by rw[y];exact aT (cS _ _) (by omega),by omega,by omega⟩
 have I:Hid ((n=1 ↔ m=1)∧(n = -1 ↔ m = -1)):=O
 have N:Hid (n=if neg=true then wrap64 (-d) else d):=X
 have F:Hid (Fq.Tab w):=hT
 have b2:T<=61:=A
 clear hd1 hd2 hs he1 he2 O S X ab C a0 a3 bb hV a5 hU L ba hcut aa y P s W p a8 A a9 a7 bx au hT
 go_enter func232,ntmps232
 go_upto_if 16 with fail
 go_cut [0] (fun s0 wx=>s0=.int .i64 n∧wx=w)
 case first =>
  have M:=N.out
  cases neg
  ·have a1:n=d:=by rw[M];rfl
   clear M r I N F
   go_wp2_with fail
   go_meet
   exact⟨by rw[a1],rfl⟩
  ·have a1:n=wrap64 (-d):=by rw[M];rfl
   clear M r I N F
   go_wp2_with fail
   go_meet
   exact⟨by rw[a1],rfl⟩
 case rest =>
 obtain⟨rfl,D⟩:=hcut
 obtain rfl:=D.symm
 clear D N
 have hf:=FF w
 go_wp2_with fail
 refine hf.mono ?_;rintro e w1 ⟨rfl,a6⟩
 have hl:=V w1
 clear hf V
 go_wp2_with fail
 refine SM hl ?_;clear hl
 go_upto_region 7 with fail
 go_quiet ((go_at_call 259;exact Calls.quiet_of_same (a4 _)))
 have g:Fq.Grown w (w1.drewN nq):=Fq.pi nq a6
 obtain⟨w2,aw⟩:=aA (w1.drewN nq)
 rw[<-aw]at g|-
 clear a4 a6 aw f1 f2 bv f3 f4 br g1 g2 g3 g4 g5
 go_upto_if 48 with fail
 go_cut [13] (fun s13 wx=>s13=.int .u64 (kp:Int)∧wx=w2)
 case first =>
  obtain⟨_,M,_,_,h2,_⟩:=r.out
  cases ub
  ·have a1:kp=x:=by rw[M];rfl
   clear M h2 r I F
   go_wp2_with fail
   go_meet
   exact⟨by rw[a1],rfl⟩
  ·have a1:kp=x+1:=by rw[M];rfl
   have a2:IntKind.u64.wrap ((x:Int)+1)=(kp:Int):=by rw[IntKind.wrap_u64];omega
   clear M h2 a1 r I F
   go_wp2_with fail
   go_meet
   exact⟨by rfl,rfl⟩
 case rest =>
 obtain⟨rfl,D⟩:=hcut
 obtain rfl:=D.symm
 clear D
 by_cases K:kp=0
 ·have t:=Fq.Gw neg f w2
  have Z:Hid (pW 9223372036854775808 neg (dK 53 2098 9218868437227405311 9218868437227405312 m U)=0):=by
   show _=_
   rw[r.out.1,K,aM]
   unfold dK
   rw[cP,if_pos (by omega),gR]
   rfl
  subst K
  clear r I F
  go_wp2_with fail
  refine SM t ?_;clear t
  go_wp2
  exact BR (v:=.float .f64 0) ⟨by rw[Z.out],g⟩
 ·obtain⟨o,k,ho,ek,l,j,Q⟩:=Dp kp J U f K r.out.2.2.1 r.out.2.2.2.1 r.out.1
  have ad:=r.out.2.2.2.2.2
  by_cases R:aq U<=2098
  ·obtain⟨r1,r2⟩:=Q R
   have t:=Fq.Fx.1 neg o k ho l f (by omega) (by omega) (j.2 R) w2 (F.out.grown g)
   rw[<-ek,r1]at t
   obtain⟨Y,z⟩:=aA (Fq.wD neg (fk 53 U))
   rw[<-z]at t
   have Z:Hid (pW 9223372036854775808 neg (dK 53 2098 9218868437227405311 9218868437227405312 m U)=Y):=by
    show _=_
    rw[z];unfold dK pW;rw[if_pos R,if_neg r2];rfl
   clear z r1 r2 Q j l ek ho R r I F K ad
   go_wp2_with fail
   refine t.mono ?_;rintro e w3 ⟨rfl,E⟩;clear t
   have u:=Fq.iC g E
   clear E g
   go_wp2
   exact BR (v:=.float .f64 Y) ⟨by rw[Z.out],u⟩
  ·have t:=Fq.Fx.2 neg o k ho l f (by omega) (by omega) (by cases hq:Fq.xU o (f+(k:Int))with|false=>rfl|true=>exact absurd (j.1 hq) R) w2 (F.out.grown g)
   rw[<-ek]at t
   by_cases cd:m = -1
   ·have t1:(n == -1)=true:=by have:=I.out.2.2 cd;simp[this]
    obtain⟨Y,z⟩:=aA (Fq.wD neg 9218868437227405311)
    have q:=DF neg
    rw[<-z]at q
    have Z:Hid (pW 9223372036854775808 neg (dK 53 2098 9218868437227405311 9218868437227405312 m U)=Y):=by
     show _=_
     rw[z];unfold dK pW;rw[if_neg R,if_pos cd,if_neg (by decide)];rfl
    clear z Q j l ek ho R r I F K ad cd
    go_wp2_with fail
    refine t.mono ?_;rintro e w3 ⟨rfl,E⟩;clear t
    have u:=Fq.iC g E
    have i:=q w3
    clear E g q
    go_wp2_with fail
    refine i.mono ?_;rintro e w4 ⟨rfl,E⟩;clear i
    have bt:=Fq.iC u E
    clear E u
    go_wp2
    exact BR (v:=.float .f64 Y) ⟨by rw[Z.out],bt⟩
   ·have t1:(n == -1)=false:=by have:=mt I.out.2.1 cd;simp[this]
    obtain⟨Y,z⟩:=aA (Fq.wD neg 9218868437227405312)
    have q:=ya neg
    rw[<-z]at q
    have Z:Hid (pW 9223372036854775808 neg (dK 53 2098 9218868437227405311 9218868437227405312 m U)=Y):=by
     show _=_
     rw[z];unfold dK pW;rw[if_neg R,if_neg cd,if_neg (by decide)];rfl
    clear z Q j l ek ho R r I F K ad cd
    go_wp2_with fail
    refine t.mono ?_;rintro e w3 ⟨rfl,E⟩;clear t
    have u:=Fq.iC g E
    have i:=q w3
    clear E g q
    go_wp2_with fail
    refine SM i ?_;clear i
    go_wp2
    exact BR (v:=.float .f64 Y) ⟨by rw[Z.out],u⟩
theorem oU (h:Nat)(more:Bool)(w:World)(hh:h<9223372036854775808):Calls prog 256 #[.int .u64 (h:Int),.bool more] w (fun e w'=>e=.returned (.int .u64 ((2*h+(if more=true then 1 else 0):Nat):Int))∧w'=w):=by
 obtain⟨c,a⟩:=aA (2*h)
 have j:IntKind.u64.wrap ((h:Int)*2)=(c:Int):=by rw[IntKind.wrap_u64];omega
 have i:IntKind.u64.wrap (2*(h:Int))=(c:Int):=by rw[IntKind.wrap_u64];omega
 cases more
 ·obtain⟨Z,d⟩:=aA (2*h+(if false=true then 1 else 0))
  have b:Z=c:=by rw[d,a];simp
  rw[<-d,b]
  clear d b a hh
  go_enter func256,ntmps256
  go_wp2
  exact BR ⟨rfl,rfl⟩
 ·obtain⟨Z,d⟩:=aA (2*h+(if true=true then 1 else 0))
  have b:Z=c+1:=by rw[d,a];simp
  have k:bits BinOp.or IntKind.u64 (c:Int) 1=(Z:Int):=by
   have g:=u64_or_nat c 1 (by omega) (by decide)
   have f:=fZ 1 h 1 (by decide)
   rw[eH,show c=h*2^1 from by omega,f,show 1+h*2^1=Z from by omega,show h*2^1=c from by omega]at g
   exact g
  rw[<-d]
  clear d b a hh
  go_enter func256,ntmps256
  go_wp2
  exact BR ⟨rfl,rfl⟩
def jC (e:Int):Int:=min (max e (-2097152)) 2097152
theorem nV (e:Int)(w:World):Calls prog 233 #[.int .i64 e] w (RE (.int .i64 (jC e)) w):=by
 obtain⟨m,b⟩:∃m:Int,m=max e (-2097152):=⟨_,rfl⟩
 obtain⟨c,a⟩:=aA (jC e)
 have d:∀w:World,(Builtin.max_ #[3,3] 3 #[.int .i64 e,.int .i64 (-2097152)]).run prog w=.ok (.int .i64 m) w:=fun w=>by
  rw[run_max_int2]
  congr 2
  rw[b];split<;>omega
 have f:∀w:World,(Builtin.min_ #[3,3] 3 #[.int .i64 m,.int .i64 2097152]).run prog w=.ok (.int .i64 c) w:=fun w=>by
  rw[run_min_int2]
  congr 2
  rw[a];unfold jC;rw[<-b];split<;>omega
 rw[<-a]
 clear a b
 go_enter func233,ntmps233
 go_wp2
 exact BR ⟨rfl,rfl⟩
theorem xy (w:World):Calls prog 228 #[] w (RE (.float .f64 9221120237041090561) w):=by
 have a:∀w:World,(callFunc 36 #[.int .u64 9221120237041090561]).run prog w=.ok (.value (.float .f64 9221120237041090561)) w:=fun w=>Fq.DO 9221120237041090561 w
 go_enter func228,ntmps228
 go_wp2
 exact BR (v:=.float .f64 9221120237041090561) ⟨rfl,rfl⟩
theorem xa (p:Option Addr)(c:Nat)(xs:List Int)(w:World)(hx:Arr w p xs)(hwx:Wd xs)(lx:xs.length<=1048576)(hc:xs.length<=c):Calls prog 227 #[.slice p xs.length c] w (RE (.bool (decide (524288<aq (val xs)))) w):=by
 have h:=ji p c xs w hx hwx (by omega) hc
 obtain⟨b,f⟩:=aA (aq (val xs))
 obtain⟨N,d⟩:=aA xs.length
 rw[<-f,<-d]at h
 rw[<-f,<-d]
 clear hx hwx lx hc f d
 by_cases a:524288<b
 ·have g:524288<(b:Int):=by omega
  rw[af a]
  clear a
  go_enter func227,ntmps227
  go_wp2_with fail
  refine SM h ?_;clear h
  go_wp2
  exact BR ⟨rfl,rfl⟩ (by simp[results,results227,go_sem]<;>omega)
 ·have g:¬(524288<(b:Int)):=by omega
  rw[ae a]
  clear a
  go_enter func227,ntmps227
  go_wp2_with fail
  refine SM h ?_;clear h
  go_wp2
  exact BR ⟨rfl,rfl⟩ (by simp[results,results227,go_sem]<;>omega)
theorem xP (p:Option Addr)(c:Nat)(xs:List Int)(w:World)(hT:Tab w)(hx:Arr w p xs)(hwx:Wd xs)(lx:xs.length<=1048576)(hc:xs.length<=c)(hb:aq (val xs)<=524288)(cut h H:Nat)(hcut:cut=aq (val xs)-56)(hh:h=val xs/2^cut)(hH:H=2*h+(if val xs%2^cut=0 then 0 else 1)) :
  Calls prog 249 #[.slice p xs.length c] w (RT (.tuple #[.int .u64 (H:Int),.int .i64 ((cut:Int)-1)]) w):=by
 have q:=ji p c xs w hx hwx (by omega) hc
 have f:=Fh p c xs w (cut:Int) (by omega) hT hx hwx lx hc
 have A:aS (val xs)<=16384:=dZ (val xs) 16384 (by omega)
 unfold nh at f
 rw[if_neg (by omega),if_neg (by omega),av,<-hh]at f
 have a:h<72057594037927936:=by
  have e:aq h<=56:=by rw[hh,kJ];omega
  rw[ay,show(2:Nat)^56=72057594037927936 from by decide]at e
  exact e
 obtain⟨k,d⟩:∃k:Bool,k=decide (val xs%2^cut≠0):=⟨_,rfl⟩
 have j:H=2*h+(if k=true then 1 else 0):=by
  rw[hH,d]
  by_cases C:val xs%2^cut=0<;>simp[C]
 rw[<-d]at f
 have m:=fun w=>oU h k w (by omega)
 rw[<-j]at m
 obtain⟨n,b⟩:=aA (aq (val xs))
 obtain⟨N,o⟩:=aA xs.length
 rw[<-b,<-o]at q
 rw[<-o]at f|-
 rw[<-b]at hcut hb
 have F:wrap64 ((n:Int)-56)=(n:Int)-56:=eQ _ (by omega) (by omega)
 have G:∀w:World,(Builtin.max_ #[3,3] 3 #[.int .i64 ((n:Int)-56),.int .i64 0]).run prog w=.ok (.int .i64 (cut:Int)) w:=fun w=>by
  rw[run_max_int2]
  congr 2
  split<;>omega
 have D:wrap64 ((cut:Int)-1)=(cut:Int)-1:=eQ _ (by omega) (by omega)
 have l:Hid (h<18446744073709551616∧aS h<=2):=by
  refine⟨by omega, ?_⟩
  have E:aq h<=56:=by
   rw[ay,show(2:Nat)^56=72057594037927936 from by decide];exact a
  exact dZ h 2 (by omega)
 clear hT hx hwx lx hc hb hcut hh hH A a d j b o
 go_enter func249,ntmps249
 go_wp2_with fail
 refine SM q ?_;clear q
 go_wp2_with fail
 refine f.mono ?_;rintro e r ⟨v,rfl,t,B⟩
 obtain⟨z,y,rfl,s,i⟩:=t.arr
 have g:=rW z y (az h) r s (bC h) (aT l.out.2 (by decide)) i
 rw[aV]at g
 unfold gT at g
 rw[if_neg (by have:=l.out.2;omega)]at g
 obtain⟨M,u⟩:=aA ((az h).length)
 rw[<-u]at g|-
 clear f t s i u l
 go_wp2_with fail
 refine SM g ?_;clear g
 have x:=m r
 clear m
 go_wp2_with fail
 refine SM x ?_;clear x
 go_wp2
 exact BR ⟨rfl,B⟩ (by simp[results,results249,go_sem,D])
def tI (d:Int)(neg:Bool)(a:Nat)(exp:Int):Nat:=if 524288<aq a then 9221120237041090561 else pW 9223372036854775808 neg (dK 53 2098 9218868437227405311 9218868437227405312 (dU neg d) (rV (dU neg d) 53 a 1 (jC exp+1074)))
theorem zD (d:Int)(a cut h H:Nat)(t:Int)(hcut:cut=aq a-56)(hh:h=a/2^cut)(hH:H=2*h+(if a%2^cut=0 then 0 else 1)):rV d 53 H 1 (t+(cut:Int)-1)=rV d 53 a 1 t∧H<1152921504606846976:=by
 have f:0<2^cut:=aP (by omega)
 have j:aq h=aq a-cut:=by rw[hh];exact kJ a cut
 have l:h<72057594037927936:=by
  have e:aq h<=56:=by omega
  rw[ay,show(2:Nat)^56=72057594037927936 from by decide]at e
  exact e
 have b:a%2^cut=0∨36028797018963968<=h:=by
  by_cases c:cut=0
  ·left;rw[c,aB,fW]
  ·right
   have k:h≠0:=by intro e;rw[e,cP]at j;omega
   have:=(cK h k).1
   rw[show aq h-1=55 from by omega,show(2:Nat)^55=36028797018963968 from by decide]at this
   exact this
 refine⟨?_,by rw[hH];split<;>omega⟩
 rw[<-nC d 53 a (2^cut) h (a%2^cut) H (t+(cut:Int)-1) f (by omega) (by omega) (by rw[hh,ap];exact(bU _ _).symm) (bZ _ f) hH b]
 have i:=ju d 53 (2*a) 1 cut (t+(cut:Int)-1) (by omega)
 rw[aN]at i
 have g:=jD d 53 a 1 1 (t+(cut:Int)-1-(cut:Int)) (by omega)
 rw[fV,ap a 2]at g
 rw[i,g]
 exact congrArg _ (by omega)
theorem yA (e:Int):-2097152<=jC e∧jC e<=2097152:=by unfold jC;omega
theorem GK (d:Int)(neg:Bool)(p:Option Addr)(c:Nat)(xs:List Int)(exp:Int)(w:World)(hT:Tab w)(hQ:Fq.Tab w)(hd1:-9223372036854775808<=d)(hd2:d<9223372036854775808)(hx:Arr w p xs)(hwx:Wd xs)(lx:xs.length<=1048576)(hc:xs.length<=c) :
  Calls prog 214 #[.int .i64 d,.bool neg,.slice p xs.length c,.int .i64 exp] w (RT (.float .f64 (tI d neg (val xs) exp)) w):=by
 have b:=xa p c xs w hx hwx lx hc
 unfold tI
 by_cases j:524288<aq (val xs)
 ·rw[if_pos j]
  rw[af j]at b
  have i:=xy w
  obtain⟨N,o⟩:=aA xs.length
  rw[<-o]at b|-
  clear hT hQ hd1 hd2 hx hwx lx hc j o
  go_enter func214,ntmps214
  go_wp2_with fail
  refine SM b ?_;clear b
  go_wp2_with fail
  refine SM i ?_;clear i
  go_wp2
  exact BR ⟨rfl,Kp.refl _⟩
 ·rw[if_neg j]
  rw[ae j]at b
  obtain⟨a,hcut⟩:=aA (aq (val xs)-56)
  obtain⟨h,z⟩:=aA (val xs/2^a)
  obtain⟨H,u⟩:=aA (2*h+(if val xs%2^a=0 then 0 else 1))
  have i:=xP p c xs w hT hx hwx lx hc (by omega) a h H hcut z u
  obtain⟨A,C⟩:=zD (dU neg d) (val xs) a h H (jC exp+1074) hcut z u
  have n:=yA exp
  have s:=nV exp
  obtain⟨q,f⟩:=aA (jC exp)
  rw[<-f]at s n A
  obtain⟨x,g⟩:∃x:Int,x=q+((a:Int)-1):=⟨_,rfl⟩
  have r:=fun m (k:Kp w m)=>xc d neg H x m (Fq.Tab.grown hQ k) hd1 hd2 C (by omega) (by omega)
  rw[show x+1074=q+1074+(a:Int)-1 from by omega,A]at r
  rw[<-f]
  obtain⟨Y,D⟩:=aA (pW 9223372036854775808 neg (dK 53 2098 9218868437227405311 9218868437227405312 (dU neg d) (rV (dU neg d) 53 (val xs) 1 (q+1074))))
  rw[<-D]at r|-
  have G:wrap64 (q+((a:Int)-1))=x:=by rw[<-g];exact eQ _ (by omega) (by omega)
  obtain⟨N,o⟩:=aA xs.length
  rw[<-o]at b i|-
  have E:Hid (q+((a:Int)-1)=x∧wrap64 x=x):=⟨g.symm,eQ _ (by omega) (by omega)⟩
  clear hT hQ hd1 hd2 hx hwx lx hc j hcut z u A C n f D o g
  go_enter func214,ntmps214
  go_wp2_with fail
  refine SM b ?_;clear b
  go_wp2_with fail
  refine i.mono ?_;rintro e m ⟨rfl,y⟩
  have B:=s m
  have F:=r m y
  clear i s r
  go_wp2_with fail
  refine SM B ?_;clear B
  go_wp2_with fail
  try rw[G]
  try rw[E.out.1]
  try rw[E.out.2]
  refine F.mono ?_;rintro e I ⟨rfl,l⟩
  have t:Kp w I:=Kp.trans y l
  clear F y l
  go_wp2
  exact BR ⟨rfl,t⟩
end Go.Proofs.YtmpjcknaelgnoaaGreatDoor
