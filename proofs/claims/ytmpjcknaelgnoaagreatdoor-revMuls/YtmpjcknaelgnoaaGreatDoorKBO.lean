import Derived.Test.YtmpjcknaelgnoaaGreatDoorKNSm
set_option maxHeartbeats 1000000
set_option maxRecDepth 20000
namespace Go.Proofs.YtmpjcknaelgnoaaGreatDoor
open Go.RowKit Tryz
theorem DV (hi lo b:Nat)(h0:0<b)(h1:hi<b)(h2:b<4294967296)(h3:lo<4294967296)(w:World):Calls prog 281 #[.int .u32 (hi:Int),.int .u32 (lo:Int),.int .u32 (b:Int)] w (RE (.tuple #[.int .u32 (((hi*4294967296+lo)/b:Nat):Int),.int .u32 (((hi*4294967296+lo)%b:Nat):Int)]) w.drew):=by
 obtain⟨y,o,j⟩:=rd hi lo b h0 h1
 obtain⟨d,f⟩:=aA (hi*4294967296+lo)
 rw[<-f]at o j|-
 obtain⟨h,a⟩:=aA (d/b)
 obtain⟨g,c⟩:=aA (d%b)
 have D:(d:Int)/(b:Int)=(h:Int):=by rw[a];exact(eJ d b).symm
 have C:(d:Int)%(b:Int)=(g:Int):=by rw[c];exact(Int.natCast_emod d b).symm
 have k:Int.tdiv (d:Int) (b:Int)=(h:Int):=by rw[a];rfl
 have n:Int.tmod (d:Int) (b:Int)=(g:Int):=by rw[c];rfl
 rw[<-c]at o
 rw[<-a]at j
 rw[<-a,<-c]
 have i:=j h3
 have p:IntKind.u64.wrap (h:Int)=(h:Int):=by rw[IntKind.wrap_u64];omega
 have l:IntKind.u64.wrap (g:Int)=(g:Int):=by rw[IntKind.wrap_u64];omega
 have m:IntKind.u32.wrap (h:Int)=(h:Int):=by rw[IntKind.wrap_u32];omega
 have r:IntKind.u32.wrap (g:Int)=(g:Int):=by rw[IntKind.wrap_u32];omega
 obtain⟨S,s⟩:=aA (hi*4294967296)
 have u:IntKind.u64.wrap (hi:Int)=(hi:Int):=by rw[IntKind.wrap_u64];omega
 have x:IntKind.u64.wrap (lo:Int)=(lo:Int):=by rw[IntKind.wrap_u64];omega
 have q:IntKind.u64.wrap (b:Int)=(b:Int):=by rw[IntKind.wrap_u64];omega
 have t:IntKind.u64.wrap ((hi:Int)*4294967296)=(S:Int):=by rw[IntKind.wrap_u64];omega
 have B:bits BinOp.or IntKind.u64 (S:Int) (lo:Int)=(d:Int):=by
  rw[s,bits_or_u64_nat (hi*4294967296) lo (by omega) (by omega)]
  have z:hi*4294967296 ||| lo=d:=by
   rw[eH,f]
   have:=fZ lo hi 32 (by omega)
   rw[show(2:Nat)^32=4294967296 from rfl]at this
   omega
  rw[z]
 have A:¬b=0:=by omega
 have E:¬((b:Int)<=(hi:Int)):=by omega
 clear y o j f a c i s h0 h1 h2 h3
 go_enter func281,ntmps281
 go_wp2
 go_region
 clear D C k n p l m r u x q t B A E
 go_wp2
 exact BR ⟨rfl,rfl⟩
theorem AK (p:Option Addr)(c b:Nat)(xs:List Int)(w:World)(hx:Arr w p xs)(hwx:Wd xs)(lx:xs.length<=1048576)(hb0:0<b)(hb1:b<4294967296) :
  Calls prog 278 #[.slice p xs.length c,.int .u32 (b:Int)] w fun e w'=>∃v,e=.returned v∧uj w' w.heap.size (az (val xs/b)) (az (val xs%b)) v∧Kp w w':=by
 obtain⟨N,J⟩:=aA xs.length
 rw[<-J]
 have lN:N<=1048576:=by omega
 have Z:=mN N (by omega)
 obtain⟨n,M⟩:=aA w.heap.size
 have f:Rw (w.alloc (.cells (madeCells #[.int .u32 0] N) 120)) w.heap.size N (List.replicate N 0):=World.rowIs.congr (World.rowIs_made w (.int .u32 0) N 120) (fun j _=>by rw[cJ])
 rw[<-M]at f
 have HS:Hid (Rw (w.alloc (.cells (madeCells #[.int .u32 0] N) 120)) n N (List.replicate N 0)∧Kp w (w.alloc (.cells (madeCells #[.int .u32 0] N) 120))∧w.heap.size<=n):=⟨f,(Kp.refl w).alloc _,by omega⟩
 have HX:Hid (Arr w p xs∧Wd xs∧N=xs.length∧0<b∧b<4294967296):=⟨hx,hwx,J,hb0,hb1⟩
 clear hx hwx lx hb0 hb1 J f
 go_enter func278,ntmps278
 go_wp2
 rw[<-M]
 clear M
 go_loopw [6,14] (fun rr ii wr=>∃(k a:Nat)(d:List Int),rr=.int .u32 (a:Int)∧ii=.int .i64 k∧k<=N∧a<b∧Rw wr n N d∧d.length=N∧Wd d∧(∀j,j<N-k->d.getD j 0=0)∧val d*b+a*4294967296^(N-k)+val (xs.take (N-k))=val xs∧Kp w wr) (fun _ i _=>N-(intOf i).toNat)
 case atStart =>
  obtain⟨f,hk,hg⟩:=HS.out
  obtain⟨hx,hwx,J,hb0,hb1⟩:=HX.out
  refine⟨0,0,List.replicate N 0,rfl,rfl,aW _,hb0,f,by simp,fun j=>by rw[cJ];omega,fun j _=>cJ N j, ?_,hk⟩
  rw[fG _ (fun j=>cJ N j),aM,aM,bJ,Nat.sub_zero,aY (by omega)]
 case round =>
  obtain⟨k,a,d,rfl,rfl,hk,y,f,u,A,C,l,m⟩:=hrel
  obtain⟨_,_,E⟩:=HS.out
  obtain⟨hx,hwx,J,hb0,hb1⟩:=HX.out
  by_cases ck:k<N
  ·obtain⟨r,hr⟩:=aA (N-1-k)
   have V:N-k=r+1:=by omega
   rw[V]at l
   obtain⟨b',bn,rfl,L⟩:=hx.at (k:=r) (by omega)
   have e1:=ac m (L r (by omega))
   have bA:b'≠n:=by have:=be (L r (by omega));omega
   have wx:=hwx r
   obtain⟨x,I⟩:∃x:Nat,(x:Int)=xs.getD r 0:=⟨_,b7 wx.1⟩
   rw[<-I]at e1
   obtain⟨d1,d2,d3⟩:=rd a x b hb0 y
   have U:=DV a x b hb0 y hb1 (by omega)
   obtain⟨D,hD⟩:=aA ((a*4294967296+x)/b)
   obtain⟨R,hR⟩:=aA ((a*4294967296+x)%b)
   rw[<-hD,<-hR]at U d1
   rw[<-hR]at d2
   rw[<-hD]at d3
   have W:=d3 (by omega)
   have Q:=uh d xs b r D a R x _ (by omega) (C r (by omega)) (by rw[<-I];rfl) d1 l
   have bc:r<N:=by omega
   have e3:=World.rowIs.cell f (i:=r) bc
   have e4:=World.rowIs.frozen f r
   have ab:Rw (wr.drew.setCell ⟨n,r,none⟩ (.int .u32 (D:Int))) n N (d.set r (D:Int)):=by
    have h:Rw wr.drew n N d:=f
    exact h.set r (D:Int) (by omega)
   have S:Kp w (wr.drew.setCell ⟨n,r,none⟩ (.int .u32 (D:Int))):=(m.drew).setCell E _
   have O:Wd (d.set r (D:Int)):=A.set r D (by omega)
   have ad:(d.set r (D:Int)).length=N:=by rw[bg];exact u
   have aa:N-(k+1)=r:=by omega
   have X:∀j,j<N-(k+1)->(d.set r (D:Int)).getD j 0=0:=fun j hj=>by
    have e2:(d.set r (D:Int)).getD j 0=d.getD j 0:=by simp[List.getD,show ¬r=j from by omega]
    rw[e2,C j (by omega)]
   have HF:Hid (R<b∧Rw (wr.drew.setCell ⟨n,r,none⟩ (.int .u32 (D:Int))) n N (d.set r (D:Int))∧(d.set r (D:Int)).length=N∧Wd (d.set r (D:Int))∧(∀j,j<N-(k+1)->(d.set r (D:Int)).getD j 0=0)∧val (d.set r (D:Int))*b+R*4294967296^(N-(k+1))+val (xs.take (N-(k+1)))=val xs∧Kp w (wr.drew.setCell ⟨n,r,none⟩ (.int .u32 (D:Int)))):=⟨d2,ab,ad,O,X,by rw[aa];exact Q,S⟩
   have fr:IntKind.i64.wrap ((N:Int)-1-(k:Int))=(r:Int):=by rw[IntKind.wrap_i64];omega
   have bt:(N:Int)-1-(k:Int)=(r:Int):=by omega
   have i0:(k:Int)<(N:Int):=by omega
   have i1:(r:Int)<(N:Int):=by omega
   have G:k+1<=N:=by omega
   clear HX HS hx hwx J hb0 hb1 hk y f u A C l m E hr V L wx I d1 d2 d3 hD hR W Q ab S O ad aa X Z
   go_wp2_with (first|(go_at_call 281;refine(U _).mono ?_;rintro e w' ⟨rfl,a0⟩;obtain rfl:=a0.symm))
   obtain⟨a1,a2,a3,a4,a5,a6,a7⟩:=HF.out
   exact⟨⟨k+1,R,d.set r (D:Int),rfl,by go_num,G,a1,a2,a3,a4,a5,a6,a7⟩,by simp[intOf];omega⟩
  ·have G:k=N:=by omega
   subst G
   rw[Nat.sub_self,aB,aG,List.take_zero,show val ([]:List Int)=0 from rfl,bi]at l
   obtain⟨H,z⟩:=D8 _ _ _ _ l y
   have B:=dD.1 (some ⟨n,0,none⟩) k d wr (f.all u) (by omega) (by omega)
   have Y:=tK a (by omega)
   rw[u]at B
   have t:∀w',Kp wr w'->Own w' w.heap.size (.slice (some ⟨n,0,none⟩) (tl d) k) (az (val xs/b)):=fun w' h=>by
    have h1:=Own.of_row (base:=w.heap.size) (k:=tl d) (f.grown h) E (by have:=dJ d;omega) u (by unfold maxLen;omega)
    have h2:d.take (tl d)=az (val xs/b):=by rw[<-H,<-eZ d A];rfl
    rw[h2]at h1
    exact h1
   have o:tl d=(az (val xs/b)).length:=by rw[<-H,fS d A];rfl
   have q:n<wr.heap.size:=World.rowIs.lt f
   obtain⟨T,hT⟩:=aA (tl d)
   rw[<-hT]at B t o
   have i2:¬((k:Int)<(k:Int)):=by omega
   have f1:IntKind.u64.wrap (a:Int)=(a:Int):=by rw[IntKind.wrap_u64];omega
   have HF:Hid ((∀w',Kp wr w'->Own w' w.heap.size (.slice (some ⟨n,0,none⟩) T k) (az (val xs/b)))∧T=(az (val xs/b)).length∧n<wr.heap.size∧Kp w wr∧a=val xs%b):=⟨t,o,q,m,z⟩
   clear HX HS hx hwx J hb0 hb1 hk y f u A C l m E ck H z t o q hT Z
   go_wp2_with (first|(go_at_call 241;refine SM B ?_))
   refine(Y _).mono ?_
   rintro e w' ⟨vr,rfl,s,K⟩
   obtain⟨t,o,q,m,z⟩:=HF.out
   rw[z]at s
   have P:Kp w w':=m.trans K
   have F:uj w' w.heap.size (az (val xs/b)) (az (val xs%b)) (.tuple #[.slice (some ⟨n,0,none⟩) T k,vr]):=by
    obtain⟨pr,cr,rfl,b3⟩:=s.len
    refine⟨some ⟨n,0,none⟩,k,pr,cr,by rw[o],by rw[<-o];exact t w' K,s.mono m.size,fun g e e2=>?_⟩
    cases e
    rw[e2]at s
    have h1:=s.above.1
    omega
   have HZ:Hid (uj w' w.heap.size (az (val xs/b)) (az (val xs%b)) (.tuple #[.slice (some ⟨n,0,none⟩) T k,vr])∧Kp w w'):=⟨F,P⟩
   clear HF t o q m P F s K B Y f1 z
   go_wp2
   exact BR ⟨_,rfl,HZ.out.1,HZ.out.2⟩
theorem oX (x:Int)(w:World):Calls prog 267 #[.int .i64 x] w (RE (.bool false) w):=by
 go_enter func267,ntmps267
 go_wp2
 exact BR ⟨rfl,rfl⟩
theorem vt (x y:Int)(w:World):Calls prog 246 #[.int .i64 x,.int .i64 y] w (RE (.int .i64 (ij x y)) w):=by
 rcases(by omega:x<y∨y<x∨x=y)with c|c|c
 ·have a:ij x y = -1:=by unfold ij;simp[c]
  rw[a];clear a
  go_enter func246,ntmps246
  go_wp2_with (first|(go_at_call 267;refine(oX _ _).mono ?_;rintro e b ⟨rfl,rfl⟩))
  exact BR ⟨rfl,rfl⟩
 ·have d:¬(x<y):=by omega
  have a:ij x y=1:=by unfold ij;simp[c,d]
  rw[a];clear a
  go_enter func246,ntmps246
  go_wp2_with (first|(go_at_call 267;refine(oX _ _).mono ?_;rintro e b ⟨rfl,rfl⟩))
  exact BR ⟨rfl,rfl⟩
 ·subst c
  have d:¬(x<x):=by omega
  have a:ij x x=0:=by unfold ij;simp
  rw[a];clear a
  go_enter func246,ntmps246
  go_wp2_with (first|(go_at_call 267;refine(oX _ _).mono ?_;rintro e b ⟨rfl,rfl⟩))
  exact BR ⟨rfl,rfl⟩
theorem oW (x:Int)(w:World):Calls prog 268 #[.int .u32 x] w (RE (.bool false) w):=by
 go_enter func268,ntmps268
 go_wp2
 exact BR ⟨rfl,rfl⟩
theorem vo (x y:Int)(w:World):Calls prog 247 #[.int .u32 x,.int .u32 y] w (RE (.int .i64 (ij x y)) w):=by
 rcases(by omega:x<y∨y<x∨x=y)with c|c|c
 ·have a:ij x y = -1:=by unfold ij;simp[c]
  rw[a];clear a
  go_enter func247,ntmps247
  go_wp2_with (first|(go_at_call 268;refine(oW _ _).mono ?_;rintro e b ⟨rfl,rfl⟩))
  exact BR ⟨rfl,rfl⟩
 ·have d:¬(x<y):=by omega
  have a:ij x y=1:=by unfold ij;simp[c,d]
  rw[a];clear a
  go_enter func247,ntmps247
  go_wp2_with (first|(go_at_call 268;refine(oW _ _).mono ?_;rintro e b ⟨rfl,rfl⟩))
  exact BR ⟨rfl,rfl⟩
 ·subst c
  have d:¬(x<x):=by omega
  have a:ij x x=0:=by unfold ij;simp
  rw[a];clear a
  go_enter func247,ntmps247
  go_wp2_with (first|(go_at_call 268;refine(oW _ _).mono ?_;rintro e b ⟨rfl,rfl⟩))
  exact BR ⟨rfl,rfl⟩
theorem nK (p q:Option Addr)(c d:Nat)(xs ys:List Int)(w:World)(hx:Arr w p xs)(hy:Arr w q ys)(hwx:Wd xs)(hwy:Wd ys)(lx:xs.length<=1099511627776)(ly:ys.length<=1099511627776)(hc:xs.length<=c)(hd:ys.length<=d) :
  Calls prog 212 #[.slice p xs.length c,.slice q ys.length d] w (RT (.int .i64 (dW (val xs) (val ys))) w):=by
 have C:=dD.1 p c xs w hx lx hc
 have L:=dD.1 q d ys w hy ly hd
 have Z:=dJ xs
 have O:=dJ ys
 have g:Kp w w:=Kp.refl w
 have y:tl xs≠tl ys->ij (tl xs:Int) (tl ys:Int)=dW (val xs) (val ys):=fun h=>by
  rcases(by omega:tl xs<tl ys∨tl ys<tl xs)with e|e
  ·rw[gJ (iF xs ys hwx hwy e)];unfold ij;rw[if_pos (by omega)]
  ·rw[mn (iF ys xs hwy hwx e)];unfold ij;rw[if_neg (by omega),if_pos (by omega)]
 have x:tl xs=tl ys->(∀j,j<tl xs->xs.getD j 0=ys.getD j 0)->dW (val xs) (val ys)=0:=fun e h=>by
  apply ud
  rw[<-el xs,<-el ys,<-e]
  exact uc xs ys _ h
 have u:∀k,tl xs=tl ys->k<tl xs->xs.getD k 0≠ys.getD k 0->(∀j,k<j->j<tl xs->xs.getD j 0=ys.getD j 0)->ij (xs.getD k 0) (ys.getD k 0)=dW (val xs) (val ys):=fun k e C L h3=>by
  rcases(by omega:xs.getD k 0<ys.getD k 0∨ys.getD k 0<xs.getD k 0)with f|f
  ·rw[gJ (by rw[<-el xs,<-el ys,<-e];exact mm xs ys hwx k (hwx k).1 f _ C h3)];unfold ij;rw[if_pos f]
  ·rw[mn (by rw[<-el xs,<-el ys,<-e];exact mm ys xs hwy k (hwy k).1 f _ C (fun j a b=>(h3 j a b).symm))];unfold ij;rw[if_neg (by omega),if_pos f]
 obtain⟨R,hR⟩:=aA (dW (val xs) (val ys))
 obtain⟨N,E⟩:=aA xs.length
 obtain⟨M,D⟩:=aA ys.length
 obtain⟨S,hS⟩:=aA (tl xs)
 obtain⟨T,hT⟩:=aA (tl ys)
 rw[<-hS,<-E]at C Z
 rw[<-hT,<-D]at L O
 rw[<-hS,<-hT,<-hR]at y x u
 rw[<-E,<-D,<-hR]
 have P:Hid (Arr w p xs):=hx
 have W:Hid (Arr w q ys):=hy
 have U:Hid (N=xs.length∧M=ys.length):=⟨E,D⟩
 have a5:S<=1099511627776:=by omega
 clear hx hy hwx hwy lx ly E D hS hT hR hc hd
 by_cases z:S=T
 ·subst z
  have t1:((S:Int) != (S:Int))=false:=by simp
  have HD:Hid ((∀j,j<S->xs.getD j 0=ys.getD j 0)->R=0):=x rfl
  have HL:Hid (∀k,k<S->xs.getD k 0≠ys.getD k 0->(∀j,k<j->j<S->xs.getD j 0=ys.getD j 0)->ij (xs.getD k 0) (ys.getD k 0)=R):=fun k=>u k rfl
  clear y x u
  go_enter func212,ntmps212
  go_wp2_with fail
  refine SM C ?_
  go_wp2_with fail
  refine SM L ?_
  clear C L
  go_wp2
  clear t1
  go_loopw [23] (fun i wr=>∃(k:Nat),k<=S∧i=.int .i64 k∧Kp w wr∧∀j,S<=j+k->j<S->xs.getD j 0=ys.getD j 0) (fun i _=>S-(intOf i).toNat)
  case atStart=>exact⟨0,aW _,rfl,g,fun j _ _=>by omega⟩
  case round =>
   clear g
   obtain⟨k,hk,rfl,g,K⟩:=hrel
   by_cases ck:k<S
   ·obtain⟨E,D⟩:=U.out
    obtain⟨m,hm⟩:∃m:Nat,m+k+1=S:=⟨S-1-k,by omega⟩
    obtain⟨b,B,rfl,hc⟩:=P.out.at (k:=m) (by omega)
    obtain⟨b',l,rfl,I⟩:=W.out.at (k:=m) (by omega)
    have t:=ac g (hc m (by omega))
    have r:=ac g (I m (by omega))
    have A:m=S-1-k:=by omega
    rw[A]at t r
    have i0:(0:Int)<=(S:Int)-1-(k:Int):=by omega
    have i1:(S:Int)-1-(k:Int)<(S:Int):=by omega
    have i2:(k:Int)<(S:Int):=by omega
    have i3:wrap64 ((S:Int)-1)=(S:Int)-1:=by unfold wrap64;omega
    have i5:(k:Int)<=(S:Int)-1:=by omega
    have i4:wrap64 ((S:Int)-1-(k:Int))=(S:Int)-1-(k:Int):=by unfold wrap64;omega
    have V:=fun h=>HL.out m (by omega) h (fun j a b=>K j (by omega) b)
    have Q:xs.getD m 0=ys.getD m 0->∀j,S<=j+(k+1)->j<S->xs.getD j 0=ys.getD j 0:=fun h j a b=>by
     by_cases e:j=m
     ·subst e;exact h
     ·exact K j (by omega) b
    obtain⟨X,F⟩:=aA (xs.getD m 0)
    obtain⟨Y,J⟩:=aA (ys.getD m 0)
    rw[A]at F J
    rw[<-F]at t
    rw[<-J]at r
    rw[<-A]at F J
    rw[<-F,<-J]at V Q
    clear hc I P W U HD HL K E D F J Z O
    by_cases H:X=Y
    ·have a0:=Q H
     subst H
     have t1:(X != X)=false:=by simp
     clear V Q
     go_wp2
     refine eF (by kernel_rfl) (by kernel_rfl) (fun ι _ G hG hall=>?_)
     have c0:∀n,(G n).cell? ⟨b,B+(S-1-k),none⟩=some (.int .u32 X):=fun n=>ac (hG n) t
     have c1:∀n,(G n).cell? ⟨b',l+(S-1-k),none⟩=some (.int .u32 X):=fun n=>ac (hG n) r
     repeat(go_big_quiet_step (fail))
     refine wpQuiet_nil ?_
     rintro _ ⟨nq,rfl⟩
     have s:=hG nq
     replace t:=ac s t
     replace r:=ac s r
     replace g:=g.trans s
     clear c0 c1 hall hG s
     go_wp2
     exact⟨⟨k+1,by omega,by go_num,g,a0⟩,by simp[intOf];omega⟩
    ·have t1:(X != Y)=true:=by simp[H]
     have o:=vo X Y
     rw[V H]at o
     clear V Q H
     go_wp2
     refine eF (by kernel_rfl) (by kernel_rfl) (fun ι _ G hG hall=>?_)
     have c0:∀n,(G n).cell? ⟨b,B+(S-1-k),none⟩=some (.int .u32 X):=fun n=>ac (hG n) t
     have c1:∀n,(G n).cell? ⟨b',l+(S-1-k),none⟩=some (.int .u32 Y):=fun n=>ac (hG n) r
     repeat(go_big_quiet_step (fail))
     refine wpQuiet_nil ?_
     rintro _ ⟨nq,rfl⟩
     have s:=hG nq
     replace t:=ac s t
     replace r:=ac s r
     replace g:=g.trans s
     clear c0 c1 hall hG s
     go_wp2
     go_region_held3 (fun w'=>w'.cell? ⟨b,B+(S-1-k),none⟩=some (.int .u32 X)∧w'.cell? ⟨b',l+(S-1-k),none⟩=some (.int .u32 Y)) (exact⟨t,r⟩) (first|(go_at_call 247;refine(o _).mono ?_;rintro e w' ⟨rfl,rfl⟩))
     go_wp2
     exact BR (v:=.int .i64 R) ⟨rfl,(by repeat(with_reducible(first|assumption|apply Kp.drew)))⟩
   ·have aw:=HD.out (fun j hj=>K j (by omega) hj)
    subst aw
    have i2:¬((k:Int)<(S:Int)):=by omega
    clear P W U HD HL K Z O hk ck
    go_wp2
    exact BR ⟨rfl,g⟩
 ·have t1:((S:Int) != (T:Int))=true:=by simp;omega
  have o:=vt (S:Int) (T:Int)
  rw[y z]at o
  clear y x u P W U z Z O
  go_enter func212,ntmps212
  go_wp2_with fail
  refine SM C ?_
  go_wp2_with fail
  refine SM L ?_
  go_wp2_with (first|(go_at_call 246;refine(o _).mono ?_;rintro e w' ⟨rfl,rfl⟩))
  exact BR ⟨rfl,g⟩
theorem uH (p q:Option Addr)(c d:Nat)(xs ys:List Int)(w:World)(hx:Arr w p xs)(hy:Arr w q ys)(hnx:xs=az (val xs))(hny:ys=az (val ys))(lx:xs.length<=1048576)(ly:ys.length<=1048576)(hc:xs.length<=c)(hd:ys.length<=d)(h0:0<val ys) :
  Calls prog 273 #[.slice p xs.length c,.slice q ys.length d] w fun e w'=>∃v,e=.returned v∧uj w' w.heap.size (az (val xs/val ys)) (az (val xs%val ys)) v∧Kp w w':=by
 have n:Wd xs:=by rw[hnx];exact bC _
 have o:Wd ys:=by rw[hny];exact bC _
 have f:=nK p q c d xs ys w hx hy n o (by omega) (by omega) hc hd
 obtain⟨N,t⟩:=aA xs.length
 obtain⟨M,x⟩:=aA ys.length
 have i:ys.getD (ys.length-1) 0≠0:=by
  rcases qN (val ys)with h|h
  ·exfalso
   rw[<-hny]at h
   rw[h]at h0
   exact absurd h0 (by simp[val])
  ·rw[<-hny]at h
   exact h
 have z:0<M:=by
  by_cases e:M=0
  ·exfalso
   have:ys=[]:=List.length_eq_zero_iff.1 (by omega)
   rw[this]at h0
   exact absurd h0 (by simp[val])
  ·omega
 by_cases F:val xs<val ys
 ·rw[gJ F]at f
  have A:=fun w' h=>su p c xs w' (hx.grown h) (by omega)
  have D:val xs/val ys=0:=bh F
  have Y:val xs%val ys=val xs:=aX F
  rw[D,Y,dF,<-hnx]
  rw[<-t]at f A
  rw[<-x]at f
  have lN:N<=1048576:=by omega
  have T:Hid (N=xs.length):=t
  rw[<-t,<-x]
  clear hx hy hnx hny lx ly hc hd h0 n o i z F D Y t x
  go_enter func273,ntmps273
  go_wp2_with fail
  refine f.mono ?_
  rintro e H ⟨rfl,a⟩
  clear f
  have I:=A H a
  clear A
  go_wp2_with fail
  refine I.mono ?_
  rintro e u ⟨g,rfl,hg,hR,j⟩
  have hO:Own u w.heap.size (.slice (some ⟨g,0,none⟩) N N) xs:=by
   have G:=Own.of_row (base:=w.heap.size) (k:=N) hR (by have:=a.size;omega) (ao _) T.out.symm (by unfold maxLen;omega)
   rwa [aY (by rw[<-T.out];exact ao _)]at G
  have y:Hid (uj u w.heap.size [] xs (.tuple #[.slice none 0 0,.slice (some ⟨g,0,none⟩) N N])∧Kp w u):=⟨⟨none,0,some ⟨g,0,none⟩,N,by rw[<-T.out];rfl,Own.nil _ _,by rw[<-T.out];exact hO,fun g e=>by cases e⟩,a.trans j⟩
  clear I hg hR j hO a
  go_wp2
  exact BR ⟨_,rfl,y.out.1,y.out.2⟩
 ·obtain⟨cc,B⟩:=aA (dW (val xs) (val ys))
  rw[<-B]at f
  have an:¬(cc<0):=by
   rw[B];unfold dW;rw[if_neg F];split<;>omega
  clear B
  by_cases S:M=1
  ·have U:=hy.at (k:=0) (by omega)
   obtain⟨b',ab,rfl,J⟩:=U
   have D:=J 0 (by omega)
   have wy:=o 0
   obtain⟨b,X⟩:∃b:Nat,(b:Int)=ys.getD 0 0:=⟨_,b7 wy.1⟩
   rw[<-X,bi]at D
   have Z:val ys=b:=by
    have G:=bd ys 0
    rw[aY (by omega),<-X]at G
    simpa [val]using G
   rw[Z]at h0|-
   have E:=fun w' h=>AK p c b xs w' (hx.grown h) n lx h0 (by omega)
   rw[<-t]at f E
   rw[<-x,S]at f
   rw[<-t,<-x,S]
   clear hx hy hnx hny lx ly hc hd h0 n o i z F t x J wy X Z S
   go_enter func273,ntmps273
   go_wp2_with fail
   refine f.mono ?_
   rintro e H ⟨rfl,a⟩
   clear f
   have r:=E H a
   replace D:=ac a D
   clear E
   go_wp2_with fail
   refine r.mono ?_
   rintro e u ⟨v,rfl,⟨Q,L,P,c2,rfl,O,R,s⟩,j⟩
   obtain⟨V,m⟩:=aA ((az (val xs/b)).length)
   obtain⟨W,l⟩:=aA ((az (val xs%b)).length)
   have y:Hid (uj u w.heap.size (az (val xs/b)) (az (val xs%b)) (.tuple #[.slice Q V L,.slice P W c2])∧Kp w u):=⟨⟨Q,L,P,c2,by rw[m,l],O.mono a.size,R.mono a.size,s⟩,a.trans j⟩
   rw[<-m,<-l]
   clear r O R s j a D m l
   go_wp2
   exact BR ⟨_,rfl,y.out.1,y.out.2⟩
  ·have K:ys.length<=xs.length:=by
    have G:=fA (show val ys<=val xs by omega)
    unfold aS at G
    rwa [<-hnx,<-hny]at G
   have C:=fun w' h=>yC p q c d xs ys w' (hx.grown h) (hy.grown h) n o lx K (by omega) i
   rw[<-t,<-x]at f C
   rw[<-t,<-x]
   have t1:¬(M:Int)=1:=by omega
   clear hx hy hnx hny lx ly hc hd h0 n o i z F t x K S
   go_enter func273,ntmps273
   go_wp2_with fail
   refine f.mono ?_
   rintro e H ⟨rfl,a⟩
   clear f
   have r:=C H a
   clear C
   go_wp2_with fail
   refine r.mono ?_
   rintro e u ⟨v,rfl,⟨Q,L,P,c2,rfl,O,R,s⟩,j⟩
   obtain⟨V,m⟩:=aA ((az (val xs/val ys)).length)
   obtain⟨W,l⟩:=aA ((az (val xs%val ys)).length)
   have y:Hid (uj u w.heap.size (az (val xs/val ys)) (az (val xs%val ys)) (.tuple #[.slice Q V L,.slice P W c2])∧Kp w u):=⟨⟨Q,L,P,c2,by rw[m,l],O.mono a.size,R.mono a.size,s⟩,a.trans j⟩
   rw[<-m,<-l]
   clear r O R s j a m l
   go_wp2
   exact BR ⟨_,rfl,y.out.1,y.out.2⟩
theorem Bl (p q:Option Addr)(c d:Nat)(xs ys:List Int)(w:World)(hx:Arr w p xs)(hy:Arr w q ys)(hwx:Wd xs)(hwy:Wd ys)(lx:xs.length<=1048576)(ly:ys.length<=1048576)(hc:xs.length<=c)(hd:ys.length<=d) :
  Calls prog 253 #[.slice p xs.length c,.slice q ys.length d] w fun e w'=>(∃p1 c1 p2 c2,e=.returned (.tuple #[.slice p1 (nk (val xs) (val ys)).1.length c1,.slice p2 (nk (val xs) (val ys)).2.1.length c2,.int .i64 (nk (val xs) (val ys)).2.2])∧Own w' w.heap.size (.slice p1 (nk (val xs) (val ys)).1.length c1) (nk (val xs) (val ys)).1∧Own w' w.heap.size (.slice p2 (nk (val xs) (val ys)).2.1.length c2) (nk (val xs) (val ys)).2.1∧(∀g,p1=some ⟨g,0,none⟩->p2≠some ⟨g,0,none⟩))∧Kp w w':=by
 have m:=dD.1 p c xs w hx (by omega) hc
 have l:=dD.1 q d ys w hy (by omega) hd
 have j:=gi p (tl xs) c w
 have s:=gi q (tl ys) d w
 have ex:nz xs=az (val xs):=eZ xs hwx
 have I:nz ys=az (val ys):=eZ ys hwy
 have x:Arr w p (nz xs):=hx.take _
 have u:Arr w q (nz ys):=hy.take _
 have Q:=dJ xs
 have O:=dJ ys
 have i:=fun h0=>uH p q c d (nz xs) (nz ys) w x u (by rw[eO];exact ex) (by rw[eO];exact I) (by rw[bM];omega) (by rw[bM];omega) (by rw[bM];omega) (by rw[bM];omega) h0
 rw[bM,bM,eO,eO]at i
 have b:tl xs=aS (val xs):=fS xs hwx
 have a:tl ys=aS (val ys):=fS ys hwy
 obtain⟨N,G⟩:=aA xs.length
 obtain⟨M,E⟩:=aA ys.length
 obtain⟨S,C⟩:=aA (tl xs)
 obtain⟨T,A⟩:=aA (tl ys)
 rw[<-G,<-C]at m
 rw[<-E,<-A]at l
 rw[<-C]at j b
 rw[<-A]at s a
 rw[<-C,<-A]at i
 rw[<-G,<-E]
 have k:T=0 ↔ val ys=0:=by
  rw[a]
  constructor
  ·intro e
   unfold aS at e
   have:=List.length_eq_zero_iff.1 e
   have h:=aV (val ys)
   rw[this]at h
   exact h.symm
  ·intro e
   rw[e]
   unfold aS
   rw[dF];rfl
 clear hx hy hwx hwy lx ly hc hd ex I x u Q O G E C A
 unfold nk
 by_cases n:val ys=0
 ·have F:T=0:=k.2 n
  subst F
  simp only[if_pos n]
  clear i k b a n
  go_enter func253,ntmps253
  go_wp2_with fail
  refine SM m ?_;clear m
  go_wp2_with fail
  refine SM l ?_;clear l
  go_wp2
  exact BR (v:=.tuple #[.slice none 0 0,.slice none 0 0,.int .i64 1]) ⟨⟨none,0,none,0,rfl,Own.nil _ _,Own.nil _ _,fun g e=>by cases e⟩,Kp.refl _⟩
 ·have F:¬(T:Int)=0:=by have:=mt k.1 n;omega
  simp only[if_neg n]
  have f:=i (by omega)
  clear i k
  by_cases r:16384<aS (val xs)∨16384<aS (val ys)
  ·simp only[if_pos r]
   rw[<-b,<-a]at r
   by_cases B:16384<S
   ·rw[af B]at j
    clear f b a r B n
    go_enter func253,ntmps253
    go_wp2_with fail
    refine SM m ?_;clear m
    go_wp2_with fail
    refine SM l ?_;clear l
    go_wp2_with fail
    refine SM j ?_;clear j
    go_wp2
    exact BR (v:=.tuple #[.slice none 0 0,.slice none 0 0,.int .i64 2]) ⟨⟨none,0,none,0,rfl,Own.nil _ _,Own.nil _ _,fun g e=>by cases e⟩,Kp.refl _⟩
   ·rw[ae B]at j
    rw[af (show 16384<T by omega)]at s
    clear f b a r B n
    go_enter func253,ntmps253
    go_wp2_with fail
    refine SM m ?_;clear m
    go_wp2_with fail
    refine SM l ?_;clear l
    go_wp2_with fail
    refine SM j ?_;clear j
    go_wp2_with fail
    refine SM s ?_;clear s
    go_wp2
    exact BR (v:=.tuple #[.slice none 0 0,.slice none 0 0,.int .i64 2]) ⟨⟨none,0,none,0,rfl,Own.nil _ _,Own.nil _ _,fun g e=>by cases e⟩,Kp.refl _⟩
  ·simp only[if_neg r]
   rw[<-b,<-a]at r
   rw[ae (show ¬16384<S by omega)]at j
   rw[ae (show ¬16384<T by omega)]at s
   clear b a r n
   go_enter func253,ntmps253
   go_wp2_with fail
   refine SM m ?_;clear m
   go_wp2_with fail
   refine SM l ?_;clear l
   go_wp2_with fail
   refine SM j ?_;clear j
   go_wp2_with fail
   refine SM s ?_;clear s
   go_wp2_with fail
   refine f.mono ?_
   rintro e D ⟨v,rfl,⟨p1,c1,p2,c2,rfl,H,J,z⟩,y⟩
   obtain⟨K,t⟩:=aA ((az (val xs/val ys)).length)
   obtain⟨L,o⟩:=aA ((az (val xs%val ys)).length)
   have P:Hid ((∃p1' c1' p2' c2',Ending.returned (Value.tuple #[.slice p1 K c1,.slice p2 L c2,.int .i64 0])=.returned (.tuple #[.slice p1' (az (val xs/val ys)).length c1',.slice p2' (az (val xs%val ys)).length c2',.int .i64 0])∧Own D w.heap.size (.slice p1' (az (val xs/val ys)).length c1') (az (val xs/val ys))∧Own D w.heap.size (.slice p2' (az (val xs%val ys)).length c2') (az (val xs%val ys))∧(∀g,p1'=some ⟨g,0,none⟩->p2'≠some ⟨g,0,none⟩))∧Kp w D):=⟨⟨p1,c1,p2,c2,by rw[t,o],H,J,z⟩,y⟩
   rw[<-t,<-o]
   clear f H J z y t o F
   go_wp2
   exact BR P.out
theorem FV (p q:Option Addr)(c d:Nat)(xs ys:List Int)(w:World)(hx:Arr w p xs)(hy:Arr w q ys)(hwx:Wd xs)(hwy:Wd ys)(lx:xs.length<1099511627775)(hl:ys.length<=xs.length)(hle:val ys<=val xs) :
  Calls prog 248 #[.slice p xs.length c,.slice q ys.length d] w fun e w'=>∃v,e=.returned v∧Own w' w.heap.size v (az (val xs-val ys))∧Kp w w':=by
 have L:=su p c xs w hx (by omega)
 obtain⟨N,B⟩:=aA xs.length
 obtain⟨M,z⟩:=aA ys.length
 have u:M<=N:=by omega
 rw[<-B]at L|-
 rw[<-z]
 have bA:N<1099511627775:=by omega
 have HX:Hid (Arr w p xs):=hx
 have HY:Hid (Arr w q ys):=hy
 have U:Hid (Wd xs∧Wd ys∧val ys<=val xs):=⟨hwx,hwy,hle⟩
 have O:Hid (N=xs.length∧M=ys.length∧M<=N):=⟨B,z,u⟩
 clear hx hy hwx hwy lx hl B z hle
 go_enter func248,ntmps248
 go_wp2_with fail
 refine L.mono ?_;rintro e w2 ⟨g,rfl,D,an,aj⟩
 clear L
 have E:Hid (w.heap.size<=g):=D
 clear D
 go_wp2
 go_loopw [6,13] (fun cc i wr=>∃(k C:Nat)(f:List Int),cc=.int .u32 C∧i=.int .i64 k∧k<=M∧Rw wr g N f∧f.length=N∧Wd f∧C<=1∧val f+val (ys.take k)=val xs+C*4294967296^k∧(∀j,k<=j->j<N->f.getD j 0=xs.getD j 0)∧Kp w wr) (fun _ i _=>M-(intOf i).toNat)
 case atStart=>exact⟨0,0,xs,rfl,rfl,aW _,an,O.out.1.symm,U.out.1,by omega,by simp[val],fun j _ _=>rfl,aj⟩
 case round =>
  clear an aj
  obtain⟨k,C,f,rfl,rfl,hk,a,l,m,K,x,t,n⟩:=hrel
  obtain⟨B,z,u⟩:=O.out
  obtain⟨hwx,hwy,hle⟩:=U.out
  by_cases ck:k<M
  ·obtain⟨b,bb,rfl,hc⟩:=HX.out.at (k:=k) (by omega)
   obtain⟨b',V,rfl,P⟩:=HY.out.at (k:=k) (by omega)
   have e1:=ac n (hc k (by omega))
   have e2:=ac n (P k (by omega))
   have a7:b≠g:=by have:=be (hc k (by omega));have:=E.out;omega
   have aa:b'≠g:=by have:=be (P k (by omega));have:=E.out;omega
   have e3:=World.rowIs.cell a (i:=k) (by omega)
   have e4:=World.rowIs.frozen a k
   have wx:=hwx k
   have wy:=hwy k
   have W:=t k (ao _) (by omega)
   have o:=fun(s Z:Nat) h=>nT f k C s Z _ _ (xs.getD k 0) (ys.getD k 0) (by omega) W h x
   rw[<-bd]at o
   obtain⟨X,hX⟩:∃X:Nat,(X:Int)=xs.getD k 0:=⟨(xs.getD k 0).toNat,by omega⟩
   obtain⟨Y,hY⟩:∃Y:Nat,(Y:Int)=ys.getD k 0:=⟨(ys.getD k 0).toNat,by omega⟩
   rw[<-hX]at e1 wx o
   rw[<-hY]at e2 wy o
   simp only[av]at o
   have y:=rG X Y C (by omega) (by omega) K
   obtain⟨Z,S⟩:∃Z:Nat,Z=(X+8589934592-Y-C)%4294967296:=⟨_,rfl⟩
   obtain⟨s,r⟩:∃s:Nat,s=if X<Y+C then 1 else 0:=⟨_,rfl⟩
   rw[<-S,<-r]at y
   have I:s<=1:=by rw[r];split<;>omega
   have A:=o s Z (by rw[r,S];split<;>omega)
   have J:∀j,k+1<=j->j<N->(f.set k (Z:Int)).getD j 0=xs.getD j 0:=fun j h1 h2=>by
    rw[<-t j (by omega) h2];simp[List.getD,show ¬k=j from by omega]
   have G:Wd (f.set k (Z:Int)):=m.set k Z (by omega)
   have R:(f.set k (Z:Int)).length=N:=by rw[bg];exact l
   have ad:∀w':World,Kp wr w'->Rw (w'.setCell ⟨g,k,none⟩ (.int .u32 (Z:Int))) g N (f.set k (Z:Int)):=fun w' h=>(a.grown h).set k Z (by omega)
   have br:k<N:=by omega
   have i0:(0:Int)<=(k:Int):=by omega
   have i1:(k:Int)<(N:Int):=by omega
   have i2:(k:Int)<(M:Int):=by omega
   have D:=E.out
   clear hc P HX HY U O E B z hX hY x S r wx wy m K hwx hwy W t l a o hle
   go_wp2
   go_region_held3 (fun w'=>w'.cell? ⟨b,bb+k,none⟩=some (.int .u32 (X:Int))∧w'.cell? ⟨b',V+k,none⟩=some (.int .u32 (Y:Int))) (first|(exact⟨e1,e2⟩)|(exact⟨(World.cell?_setCell_far _ _ _ _ (Ne.symm a7)).trans e1,(World.cell?_setCell_far _ _ _ _ (Ne.symm aa)).trans e2⟩)) (first|(go_at_call 270;refine(y _).mono ?_;rintro e w' ⟨rfl,rfl⟩))
   have hR:Rw (wr.setCell ⟨g,k,none⟩ (.int .u32 (Z:Int))).drew g N (f.set k (Z:Int)):=ad wr (Kp.refl _)
   have hK:Kp w (wr.setCell ⟨g,k,none⟩ (.int .u32 (Z:Int))).drew:=(n.setCell D _).drew
   clear ad n e1 e2 e3 e4 y
   go_wp2
   exact⟨⟨k+1,s,f.set k (Z:Int),rfl,by go_num,by omega,hR,R,G,I,A,J,hK⟩,by simp[intOf];omega⟩
  ·have a5:k=M:=by omega
   subst a5
   rw[z,di,<-z]at x
   have i2:¬((k:Int)<(k:Int)):=by omega
   have HV:Hid (val f+val ys=val xs+C*4294967296^k):=x
   clear x HX HY t hk ck B z u hwx hwy hle
   go_wp2
   go_loopw [6,8] (fun cc i wq=>∃(j C:Nat)(f:List Int),cc=.int .u32 C∧i=.int .i64 j∧Rw wq g N f∧f.length=N∧Wd f∧C<=1∧val f+val ys=val xs+C*4294967296^j∧Kp w wq∧j<=N) (fun _ i _=>N+1-(intOf i).toNat)
   case atStart=>exact⟨k,C,f,rfl,rfl,a,l,m,K,HV.out,n,by have:=O.out.2.2;omega⟩
   case round =>
    clear a l m K HV n
    obtain⟨j,C,f,rfl,rfl,a,l,m,K,x,n,hj⟩:=hrel
    obtain⟨B,z,u⟩:=O.out
    obtain⟨hwx,hwy,hle⟩:=U.out
    rcases(by omega:C=0∨C=1)with rfl|rfl
    ·rw[aM,bi]at x
     have ab:val f=val xs-val ys:=by omega
     have hA:=a.arr N (ao _) (by omega)
     rw[aY (by omega)]at hA
     have H:=dD.1 (some ⟨g,0,none⟩) N f wr hA (by omega) (by omega)
     have hO:Own wr w.heap.size (.slice (some ⟨g,0,none⟩) (tl f) N) (az (val xs-val ys)):=by
      have h1:=Own.of_row (base:=w.heap.size) (k:=tl f) a E.out (by have:=dJ f;omega) l (by unfold maxLen;omega)
      have h2:f.take (tl f)=az (val xs-val ys):=by rw[<-ab,<-eZ f m];rfl
      rw[h2]at h1
      exact h1
     rw[l]at H
     obtain⟨T,hT⟩:=aA (tl f)
     rw[<-hT]at H hO
     clear hA a l m K x hj hT U O E B z u hwx hwy i2 hle ab
     go_wp2_with (first|(go_at_call 241;refine H.mono ?_;rintro e w' ⟨rfl,rfl⟩))
     exact BR ⟨_,rfl,hO,n⟩
    ·have bv:j<N:=vm f xs ys j N l m hle x
     have e3:=World.rowIs.cell a (i:=j) (by omega)
     have e4:=World.rowIs.frozen a j
     have wz:=m j
     obtain⟨F,Q⟩:∃F:Nat,(F:Int)=f.getD j 0:=⟨(f.getD j 0).toNat,by omega⟩
     have o:=fun(s Z:Nat) h=>nT f j 1 s Z _ _ (F:Int) 0 (by omega) Q.symm h x
     simp only[av]at o
     obtain⟨Z,S⟩:∃Z:Nat,Z=(F+8589934592-0-1)%4294967296:=⟨_,rfl⟩
     obtain⟨s,r⟩:∃s:Nat,s=if F<0+1 then 1 else 0:=⟨_,rfl⟩
     have y:∀w:World,Calls prog 270 #[.int .u32 (F:Int),.int .u32 0,.int .u32 1] w (RE (.tuple #[.int .u32 (Z:Int),.int .u32 (s:Int)]) w):=by
      rw[S,r];exact rG F 0 1 (by omega) (by omega) (by omega)
     have I:s<=1:=by rw[r];split<;>omega
     have A:=o s Z (by rw[show(0:Int).toNat=0 from rfl,r,S];split<;>omega)
     rw[show(0:Int).toNat=0 from rfl,aM,bi]at A
     have G:Wd (f.set j (Z:Int)):=m.set j Z (by omega)
     have R:(f.set j (Z:Int)).length=N:=by rw[bg];exact l
     have hR:Rw (wr.setCell ⟨g,j,none⟩ (.int .u32 (Z:Int))) g N (f.set j (Z:Int)):=a.set j Z (by omega)
     have hK:Kp w (wr.setCell ⟨g,j,none⟩ (.int .u32 (Z:Int))):=n.setCell E.out _
     have bu:wr.cell? ⟨g,j,none⟩=some (.int .u32 (F:Int)):=by rw[Q];exact e3
     have i0:(0:Int)<=(j:Int):=by omega
     have i3:(j:Int)<(N:Int):=by omega
     clear e3 a l m K x S r Q wz U O E B z u hwx hwy i2 n o hle
     go_wp2_with (first|(go_at_call 270;refine(y _).mono ?_;rintro e w' ⟨rfl,rfl⟩))
     exact⟨⟨j+1,s,f.set j (Z:Int),rfl,by go_num,hR,R,G,I,A,hK,by omega⟩,by simp[intOf];omega⟩
theorem tJ (p q:Option Addr)(c d:Nat)(xs ys:List Int)(w:World)(hx:Arr w p xs)(hy:Arr w q ys)(hwx:Wd xs)(hwy:Wd ys)(lx:xs.length<1099511627775)(ly:ys.length<1099511627775)(hc:xs.length<=c)(hd:ys.length<=d) :
  Calls prog 213 #[.slice p xs.length c,.slice q ys.length d] w fun e w'=>∃v,e=.returned (.tuple #[v,.int .i64 (jU (val xs) (val ys)).2])∧Own w' w.heap.size v (jU (val xs) (val ys)).1∧Kp w w':=by
 have t:=dD.1 p c xs w hx (by omega) hc
 have o:=dD.1 q d ys w hy (by omega) hd
 have E:=dJ xs
 have C:=dJ ys
 have j:=nK p q c d (nz xs) (nz ys) w (hx.take _) (hy.take _) (hwx.take _) (hwy.take _) (by rw[bM];omega) (by rw[bM];omega) (by rw[bM];omega) (by rw[bM];omega)
 have l:=gi p (tl xs) c
 rw[bM,bM,eO,eO]at j
 have B:val ys<=val xs->tl ys<=tl xs:=sU ys xs hwy hwx
 have m:val ys<=val xs->∀w',Kp w w'->Calls prog 248 #[.slice p (tl xs) c,.slice q (tl ys) d] w' fun e w''=>∃v,e=.returned v∧Own w'' w'.heap.size v (az (val xs-val ys))∧Kp w' w'':=fun hle w' k=>by
  have:=FV p q c d (nz xs) (nz ys) w' ((hx.take _).grown k) ((hy.take _).grown k) (hwx.take _) (hwy.take _) (by rw[bM];omega) (by rw[bM,bM];exact B hle) (by rw[eO,eO];exact hle)
  rw[bM,bM,eO,eO]at this
  exact this
 have n:=fS xs hwx
 obtain⟨N,z⟩:=aA xs.length
 obtain⟨M,u⟩:=aA ys.length
 obtain⟨S,r⟩:=aA (tl xs)
 obtain⟨T,y⟩:=aA (tl ys)
 obtain⟨a,s⟩:=aA (val xs)
 obtain⟨b,h⟩:=aA (val ys)
 rw[<-z,<-r]at t
 rw[<-u,<-y]at o
 rw[<-r,<-y,<-s,<-h]at j m
 rw[<-r]at l n
 rw[<-s]at n
 rw[<-z,<-u,<-s,<-h]
 clear hx hy hwx hwy lx ly hc hd z u r y E C B s h
 by_cases g:a<b
 ·rw[gJ g]at j
  have f:jU a b=([],1):=by unfold jU;rw[if_pos g]
  rw[f]
  clear l m g n f
  go_enter func213,ntmps213
  go_wp2_with fail
  refine SM t ?_
  go_wp2_with fail
  refine SM o ?_
  go_wp2_with fail
  refine j.mono ?_;rintro e A ⟨rfl,i⟩
  go_wp2
  exact BR ⟨_,rfl,Own.nil _ _,i⟩
 have H:¬(dW a b<0):=by
  unfold dW;rw[if_neg g];split<;>omega
 obtain⟨R,x⟩:=aA (dW a b)
 rw[<-x]at j H
 by_cases c2:16384<S
 ·rw[af c2]at l
  have f:jU a b=([],2):=by unfold jU;rw[if_neg g,if_pos (by omega)]
  rw[f]
  clear m g c2 n f x
  go_enter func213,ntmps213
  go_wp2_with fail
  refine SM t ?_
  go_wp2_with fail
  refine SM o ?_
  go_wp2_with fail
  refine j.mono ?_;rintro e A ⟨rfl,i⟩
  go_wp2_with fail
  refine(l _).mono ?_;rintro e w' ⟨rfl,rfl⟩
  go_wp2
  exact BR ⟨_,rfl,Own.nil _ _,i⟩
 rw[ae c2]at l
 have f:jU a b=(az (a-b),0):=by unfold jU;rw[if_neg g,if_neg (by omega)]
 rw[f]
 have D:=m (by omega)
 clear m g c2 n f x
 go_enter func213,ntmps213
 go_wp2_with fail
 refine SM t ?_
 go_wp2_with fail
 refine SM o ?_
 go_wp2_with fail
 refine j.mono ?_;rintro e A ⟨rfl,i⟩
 go_wp2_with fail
 refine(l _).mono ?_;rintro e w' ⟨rfl,rfl⟩
 go_wp2_with fail
 refine(D _ i).mono ?_;rintro e I ⟨v,rfl,G,F⟩
 go_wp2
 exact BR ⟨_,rfl,G.mono i.size,i.trans F⟩
end Go.Proofs.YtmpjcknaelgnoaaGreatDoor
