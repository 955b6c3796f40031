import Derived.Test.YtmpjcknaelgnoaaGreatDoorKH2DQ
import Derived.Test.YtmpjcknaelgnoaaGreatDoorKLB
set_option maxHeartbeats 1000000
set_option maxRecDepth 20000
namespace Go.Proofs.YtmpjcknaelgnoaaGreatDoor
open Go.RowKit Tryz
theorem El (z:Int)(h0:0<=z)(h1:z<9223372036854775808):wrap64 z=z:=by unfold wrap64;omega
theorem vO (z:Int)(h0:0<=z)(h1:z<9223372036854775808):IntKind.i64.wrap z=z:=by simp[IntKind.wrap,IntKind.bits,IntKind.signed];omega
theorem ti (p:Option Addr)(c:Nat)(xs:List Int)(w:World)(hx:Arr w p xs)(hwx:Wd xs)(lx:xs.length<=1099511627776) :
  Calls prog 202 #[.slice p xs.length c] w (RE (.int .i64 (aq (val xs):Nat)) w):=by
 have f:=dD.2 p c xs w hx lx
 have s:=dJ xs
 rcases bS (tl xs)with h0|h0
 ·have y:val xs=0:=by rw[<-el xs,h0];rfl
  rw[h0]at f
  rw[y,cP]
  obtain⟨N,j⟩:=aA xs.length
  rw[<-j]at f|-
  clear hx hwx lx s h0 y j
  go_enter func202,ntmps202
  go_wp2_with fail
  refine f.mono ?_;rintro e I ⟨rfl,rfl⟩
  go_wp2
  exact BR ⟨rfl,rfl⟩
 ·obtain⟨t,m⟩:∃t,tl xs=t+1:=⟨tl xs-1,by omega⟩
  have l:=m6 xs hwx t m
  have D:=hwx t
  obtain⟨b,B,rfl,q⟩:=hx.at (k:=t) (by omega)
  have A:=q t (by omega)
  obtain⟨X,u⟩:∃X:Nat,(X:Int)=xs.getD t 0:=⟨(xs.getD t 0).toNat,by omega⟩
  rw[<-u]at A l
  rw[av]at l
  obtain⟨R,h⟩:=aA (aq (val xs))
  rw[<-h]at l|-
  rw[m]at f
  have o:t<xs.length:=by omega
  obtain⟨N,j⟩:=aA xs.length
  rw[<-j]at f o lx|-
  have G:(((t+1:Nat):Int)-1)=(t:Int):=by omega
  have H:(((t+1:Nat):Int) == 0)=false:=by simp;omega
  have g:Hid (R=32*t+aq X∧X<4294967296):=⟨l,by omega⟩
  have d:X<4294967296:=by omega
  clear hx hwx s h0 j l D u q h m
  go_enter func202,ntmps202
  go_wp2_with fail
  refine SM f ?_
  clear f
  go_wp2
  go_loop [4,5] (fun k x=>∃(a X:Nat),k=.int .i64 (a:Int)∧x=.int .u32 (X:Int)∧a+aq X=R∧X<4294967296∧R<=35184372088864) (fun _ x=>(intOf x).toNat)
  case atStart=>exact⟨32*t,X,by go_num,rfl,g.out.1.symm,g.out.2,by have:=g.out.1;have:=gp X 32 g.out.2;omega⟩
  case round =>
   clear A
   obtain⟨a,Y,rfl,rfl,h,J,n⟩:=hrel
   by_cases r:Y=0
   ·subst r
    rw[cP,bi]at h
    subst h
    clear g d
    go_wp2
    exact BR ⟨rfl,rfl⟩
   ·have E:=vy Y r
    have K:(0:Int)<(Y:Int):=by omega
    have C:(Y:Int)/2=((Y/2:Nat):Int):=by omega
    have i:a+1+aq (Y/2)=R:=by omega
    obtain⟨Z,z⟩:=aA (Y/2)
    rw[<-z]at C i
    have F:Z<Y:=by omega
    clear g d E z h
    go_wp2
    exact⟨⟨a+1,Z,by go_num,rfl,i,by omega,n⟩,by simp[intOf];omega⟩
theorem ji (p:Option Addr)(c:Nat)(xs:List Int)(w:World)(hx:Arr w p xs)(hwx:Wd xs)(lx:xs.length<=1099511627776)(hc:xs.length<=c) :
  Calls prog 229 #[.slice p xs.length c] w (RE (.int .i64 (aq (val xs):Nat)) w):=by
 have a:=dD.1 p c xs w hx lx hc
 have m:=dJ xs
 rcases bS (tl xs)with h0|h0
 ·have o:val xs=0:=by rw[<-el xs,h0];rfl
  rw[h0]at a
  rw[o,cP]
  obtain⟨N,f⟩:=aA xs.length
  rw[<-f]at a|-
  clear hx hwx lx m h0 o f hc
  go_enter func229,ntmps229
  go_wp2_with fail
  refine a.mono ?_;rintro e C ⟨rfl,rfl⟩
  go_wp2
  exact BR ⟨rfl,rfl⟩
 ·obtain⟨t,i⟩:∃t,tl xs=t+1:=⟨tl xs-1,by omega⟩
  have g:=m6 xs hwx t i
  have x:=hwx t
  obtain⟨b,u,rfl,h⟩:=hx.at (k:=t) (by omega)
  have y:=h t (by omega)
  obtain⟨X,n⟩:∃X:Nat,(X:Int)=xs.getD t 0:=⟨(xs.getD t 0).toNat,by omega⟩
  rw[<-n]at y g
  rw[av]at g
  have q:=xJ X (by omega)
  have d:=gp X 32 (aE (by omega:X<4294967296) (ao _))
  have l:X<4294967296:=by omega
  obtain⟨L,r⟩:=aA (aq X)
  obtain⟨R,s⟩:=aA (aq (val xs))
  rw[<-r]at q g d
  rw[<-s]at g|-
  rw[i]at a
  have j:t<xs.length:=by omega
  obtain⟨N,f⟩:=aA xs.length
  rw[<-f]at a j lx|-
  have A:(((t+1:Nat):Int)-1)=(t:Int):=by omega
  have B:(((t+1:Nat):Int) == 0)=false:=by simp;omega
  have i0:(0:Int)<=(t:Int):=by omega
  have E:(t:Int)<(t:Int)+1:=by omega
  have z:(t:Int)*32+(L:Int)=(R:Int):=by omega
  have D:wrap64 ((t:Int)*32)=(t:Int)*32:=El _ (by omega) (by omega)
  clear hx hwx m h0 f x n h s i hc r g
  go_enter func229,ntmps229
  go_wp2_with fail
  refine SM a ?_
  clear a
  go_wp2_with (first|(go_at_call 252;refine SM (q _) ?_))
  exact BR ⟨rfl,rfl⟩
end Go.Proofs.YtmpjcknaelgnoaaGreatDoor
