import Derived.Test.YtmpjcknaelgnoaaGreatDoorKLN
import Derived.Deep.RegionWith
import Derived.WalkMore
set_option maxHeartbeats 2000000
set_option maxRecDepth 20000
namespace Go.Proofs.YtmpjcknaelgnoaaGreatDoor
set_option linter.all false
open Go.RowKit Tryz
theorem su (p:Option Addr)(c:Nat)(xs:List Int)(w:World)(hx:Arr w p xs)(lx:xs.length<=1099511627776) :
  Calls prog 269 #[.slice p xs.length c] w fun e w'=>∃g,e=.returned (.slice (some ⟨g,0,none⟩) xs.length xs.length)∧w.heap.size<=g∧Rw w' g xs.length xs∧Kp w w':=by
 obtain⟨N,k⟩:=aA xs.length
 have m:=mN N (by omega)
 have a:Kp w (w.alloc (.cells (madeCells #[.int .u32 0] N) 120)):=(Kp.refl w).alloc _
 obtain⟨l,i,b,d⟩:=yy (w.alloc (.cells (madeCells #[.int .u32 0] N) 120)) w.heap.size N c p xs _ (World.rowIs_made w (.int .u32 0) N 120) (hx.grown a) (by omega)
 have f:Kp w l:=d w (ao _) a
 have h:Rw l w.heap.size N xs:=World.rowIs.congr b (fun j hj=>by rw[if_pos (by omega)])
 rw[<-k]at i|-
 clear hx lx k d b a
 go_enter func269,ntmps269
 go_wp2
 exact BR ⟨_,rfl,ao _,h,f⟩
theorem EI (g k M n:Nat)(h:k+M<=n)(hk:k<n)(w:World):(Instr.slice 55 (.slice (some ⟨g,0,none⟩) n n) (some (.int .i64 (k:Int))) (some (.int .i64 ((k:Int)+(M:Int)))) none).run prog w=.ok (.slice (some ⟨g,k,none⟩) M (n-k)) w:=by
 rw[run_slice_lh w 55 (some ⟨g,0,none⟩) n n underlying55 .i64 .i64 (k:Int) ((k:Int)+(M:Int)) (by omega) (by omega) (by omega)]
 have e:(sizeOf (prog.elem 55)).run prog w=.ok 1 w:=by kernel_rfl
 have b:((k:Int)+(M:Int)).toNat-k=M:=by omega
 have a:¬n=k:=by omega
 rw[e]
 simp[Result.andThen,sliced,b,a,Addr.add_lit]
theorem fG (zs:List Int)(h:∀j,zs.getD j 0=0):val zs=0:=by
 induction zs with
 | nil=>rfl
 | cons z r ih =>
   have a:=h 0
   simp at a
   have:=ih (fun j=>by have:=h (j+1);simpa using this)
   simp[val,a,this]
theorem pB (n:Nat):Wd (List.replicate n (0:Int)):=by
 intro j
 by_cases c:j<n
 ·simp[List.getD,c]
 ·simp[List.getD,c]
theorem cJ (n j:Nat):(List.replicate n (0:Int)).getD j 0=0:=by
 by_cases c:j<n
 ·simp[List.getD,c]
 ·simp[List.getD,c]
theorem xb (p q:Option Addr)(c d:Nat)(xs ys:List Int)(w:World)(hx:Arr w p xs)(hy:Arr w q ys)(hwx:Wd xs)(hwy:Wd ys)(lx:xs.length<=16777216)(ly:ys.length<=16777216) :
  Calls prog 250 #[.slice p xs.length c,.slice q ys.length d] w fun e w'=>∃v,e=.returned v∧Own w' w.heap.size v (az (val xs*val ys))∧Kp w w':=by
 obtain⟨N,H⟩:=aA xs.length
 obtain⟨M,J⟩:=aA ys.length
 obtain⟨L,hL⟩:=aA (N+M)
 have bq:∀w:World,(Instr.makeSlice 55 (.int .i64 ((N:Int)+(M:Int))) (.int .i64 ((N:Int)+(M:Int)))).run prog w=.ok (.slice (some ⟨w.heap.size,0,none⟩) L L) (w.alloc (.cells (madeCells #[.int .u32 0] L) 120)):=by
  have:=mN L (by omega)
  have e:((L:Nat):Int)=(N:Int)+(M:Int):=by omega
  rw[e]at this
  exact this
 have ad:Kp w (w.alloc (.cells (madeCells #[.int .u32 0] L) 120)):=(Kp.refl w).alloc _
 have F:Rw (w.alloc (.cells (madeCells #[.int .u32 0] L) 120)) w.heap.size L (List.replicate L 0):=World.rowIs.congr (World.rowIs_made w (.int .u32 0) L 120) (fun j _=>by rw[cJ])
 obtain⟨x,l⟩:=aA (List.replicate L (0:Int))
 have K:x.length=L:=by rw[l];simp
 have G:Wd x:=by rw[l];exact pB _
 have t:∀j,x.getD j 0=0:=fun j=>by rw[l];exact cJ _ _
 have I:=fG x t
 rw[<-l]at F
 have HX:Hid (Arr w p xs∧Wd xs):=⟨hx,hwx⟩
 have Y:Hid (Arr w q ys∧Wd ys):=⟨hy,hwy⟩
 have HN:Hid (N=xs.length∧M=ys.length∧N<=16777216∧M<=16777216):=⟨H,J,by omega,by omega⟩
 obtain⟨g,hg⟩:=aA w.heap.size
 rw[<-hg]at F
 have W:Hid (g=w.heap.size):=hg
 have lN:N<=16777216:=by omega
 have lM:M<=16777216:=by omega
 rw[<-H,<-J]
 have ab:L=N+M:=hL
 clear hx hy hwx hwy lx ly H J l hL
 have HL:Hid (L=N+M):=ab
 clear ab
 go_enter func250,ntmps250
 go_wp2
 rw[<-hg]
 clear bq hg
 go_loopw [15] (fun i wr=>∃(k:Nat)(f:List Int),i=.int .i64 k∧k<=N∧Rw wr g L f∧f.length=L∧Wd f∧val f=val (xs.take k)*val ys∧(∀j,k+M<=j->f.getD j 0=0)∧Kp w wr) (fun i _=>N-(intOf i).toNat)
 case atStart=>exact⟨0,x,rfl,aW _,F,K,G,by rw[I];simp[val],fun j _=>t j,ad⟩
 case round =>
  clear F K G t I ad
  obtain⟨k,f,rfl,hk,a,n,u,Q,s,o⟩:=hrel
  obtain⟨H,J,bf,a5⟩:=HN.out
  clear bf a5
  have U:=HL.out
  by_cases ck:k<N
  ·obtain⟨b,bp,rfl,hc⟩:=HX.out.1.at (k:=k) (by omega)
   have e0:=hc k (by omega)
   have V:=ac o e0
   have D:b≠g:=by have:=be e0;have:=W.out;omega
   have wx:=HX.out.2 k
   have r:=qd xs k (val ys)
   obtain⟨X,hX⟩:∃X:Nat,(X:Int)=xs.getD k 0:=⟨(xs.getD k 0).toNat,by omega⟩
   rw[<-hX]at V wx r
   rw[av]at r
   have i0:(0:Int)<=(k:Int):=by omega
   have i1:(k:Int)<(N:Int):=by omega
   by_cases cX:X=0
   ·subst cX
    have B:val f=val (xs.take (k+1))*val ys:=by rw[<-r,Q];simp
    have t1:(((0:Nat):Int) != 0)=false:=by simp
    clear hc e0 HX Y HN W H J hX wx r D Q HL U
    go_wp2
    exact⟨⟨k+1,f,by go_num,by omega,a,n,u,B,fun j hj=>s j (by omega),o⟩,by simp[intOf];omega⟩
   ·have t1:((X:Int) != 0)=true:=by simp;omega
    have an:w.heap.size<=g:=by rw[W.out];exact ao _
    have aa:0<ys.length->∀b' off',q=some ⟨b',off',none⟩->b'≠g:=fun h0 b' off' e=>by
     obtain⟨b2,o2,h1,h2⟩:=Y.out.1.at (k:=0) h0
     rw[h1]at e
     cases e
     have:=be (h2 0 h0)
     have:=W.out
     omega
    have z:=fun w' (h:Kp wr w')=>vB g L k (L-k) d X q f ys w' (a.grown h) n u (Y.out.1.grown (o.trans h)) Y.out.2 (by omega) aa (by omega) (by omega) (by omega)
    rw[<-J,Q,r]at z
    obtain⟨E,Z⟩:=aA (k+M)
    have fE:(k:Int)+(M:Int)=(E:Int):=by omega
    have i2:(k:Int)<=(E:Int):=by omega
    have i3:(E:Int)<=(L:Int):=by omega
    have i4:(E:Int)<(L:Int):=by omega
    have i5:(0:Int)<=(E:Int):=by omega
    have i7:¬(L=k):=by omega
    have i8:E-k=M:=by omega
    have bn:∀w:World,(Instr.slice 55 (.slice (some ⟨g,0,none⟩) L L) (some (.int .i64 (k:Int))) (some (.int .i64 (E:Int))) none).run prog w=.ok (.slice (some ⟨g,k,none⟩) M (L-k)) w:=by
     rw[<-fE];exact EI g k M L (by omega) (by omega)
    rw[<-Z]at z
    have l:=s E (by omega)
    have bc:E<L:=by omega
    have O:(E:Int)<9223372036854775808:=by omega
    have a8:=El (E:Int) i5 O
    have ba:=vO (E:Int) i5 O
    have HE:Hid (E=k+M):=Z
    clear hc e0 HX Y HN H J hX wx Q u aa r n HL U Z
    go_wp2
    go_region_held3 (fun w'=>w'.cell? ⟨b,bp+k,none⟩=some (.int .u32 (X:Int))) (first|(exact V)|(exact m.arr D V)|(exact(CF _ _ _ _ (Ne.symm D)).trans (m.arr D V))) (first|(go_at_call 272;refine(z _ (Kp.refl _).drew).mono ?_;rintro e w2 ⟨C,A,rfl,y,bu,a3,hC,B,S,m⟩;have e3:=World.rowIs.cell y (i:=E) bc;have e4:=World.rowIs.frozen y E))
    clear a8 ba fE O i5 i7 i8 bn z
    have Z:=HE.out
    have bt:A.getD E 0=0:=by rw[S _ (ao _)];exact l
    have R:=fK A E (C:Int) (by omega)
    rw[bt,av,B]at R
    have bm:val (A.set E (C:Int))=val (xs.take (k+1))*val ys:=by simpa using R
    have hR:=y.set E (C:Int) (by omega)
    have hK:Kp w (w2.setCell ⟨g,E,none⟩ (.int .u32 (C:Int))):=(m.kp (o.drew) an).setCell an _
    have bb:Wd (A.set E (C:Int)):=a3.set _ _ (by omega)
    have br:(A.set E (C:Int)).length=L:=by rw[bg];exact bu
    have bl:∀j,k+1+M<=j->(A.set E (C:Int)).getD j 0=0:=fun j hj=>by
     have V:(A.set E (C:Int)).getD j 0=A.getD j 0:=by simp[List.getD,show ¬E=j from by omega]
     rw[V,S j (by omega)]
     exact s j (by omega)
    clear HE Z V e3 e4 B R S s m y o a
    go_wp2
    exact⟨⟨k+1,A.set E (C:Int),by go_num,by omega,hR,br,bb,bm,bl,hK⟩,by simp[intOf];omega⟩
  ·have a4:k=N:=by omega
   subst a4
   rw[H,di]at Q
   have hA:=a.arr L (ao _) (by omega)
   rw[aY (by omega)]at hA
   have P:=dD.1 (some ⟨g,0,none⟩) L f wr hA (by omega) (by omega)
   have hO:Own wr w.heap.size (.slice (some ⟨g,0,none⟩) (tl f) L) (az (val xs*val ys)):=by
    have h1:=Own.of_row (base:=w.heap.size) (k:=tl f) a (by rw[W.out];exact ao _) (by have:=dJ f;omega) n (by unfold maxLen;omega)
    have h2:f.take (tl f)=az (val xs*val ys):=by rw[<-Q,<-eZ f u];rfl
    rw[h2]at h1
    exact h1
   rw[n]at P
   obtain⟨T,hT⟩:=aA (tl f)
   rw[<-hT]at P hO
   have i2:¬((k:Int)<(k:Int)):=by omega
   clear hA a n u Q hT HX Y HN W H J s HL U
   go_wp2_with (first|(go_at_call 241;refine SM P ?_))
   exact BR ⟨_,rfl,hO,o⟩
theorem B5 (head u v1 v0:Nat)(h:TA head u v1 v0)(w:World) :
  Calls prog 284 #[.int .u64 (head:Int),.int .u32 (u:Int),.int .u32 (v1:Int),.int .u32 (v0:Int)] w (RE (.int .u32 (fR head u v1 v0:Nat)) w.drew):=by
 obtain⟨R,f⟩:=aA (fR head u v1 v0)
 rw[<-f]
 obtain⟨p,A,m,B,x⟩:=h.bounds
 obtain⟨D,l⟩:=aA (head/v1)
 obtain⟨t,g⟩:=aA (head%v1)
 have b:=TI.start h
 rw[<-l,<-g]at b
 have W:=b.bounds
 have y:Hid (TA head u v1 v0∧R=fR head u v1 v0∧TI head u v1 v0 D t):=⟨h,f,b⟩
 have aw:IntKind.u64.wrap (v1:Int)=(v1:Int):=by rw[IntKind.wrap_u64];omega
 have ar:IntKind.u64.wrap (v0:Int)=(v0:Int):=by rw[IntKind.wrap_u64];omega
 have fU:IntKind.u64.wrap (u:Int)=(u:Int):=by rw[IntKind.wrap_u64];omega
 have fq:(head:Int)/(v1:Int)=(D:Int):=by rw[l];exact(eJ head v1).symm
 have fr:(head:Int)%(v1:Int)=(t:Int):=by rw[g];exact(Int.natCast_emod head v1).symm
 have N:Int.tdiv (head:Int) (v1:Int)=(D:Int):=by rw[l];rfl
 have V:Int.tmod (head:Int) (v1:Int)=(t:Int):=by rw[g];rfl
 have t0:¬v1=0:=by omega
 have U:IntKind.u64.wrap (D:Int)=(D:Int):=by rw[IntKind.wrap_u64];omega
 have Q:IntKind.u64.wrap (t:Int)=(t:Int):=by rw[IntKind.wrap_u64];omega
 clear f h l g b W p A m B x
 go_enter func284,ntmps284
 go_wp2
 go_step3
 go_wp2
 go_region
 clear fq fr N V U Q t0
 go_wp2
 go_step3
 go_wp2
 go_loop [9,10] (fun qq rr=>∃q r:Nat,qq=.int .u64 (q:Int)∧rr=.int .u64 (r:Int)∧TI head u v1 v0 q r) (fun qq _=>(intOf qq).toNat)
 case atStart=>exact⟨D,t,rfl,rfl,y.out.2.2⟩
 case round =>
  obtain⟨q,r,rfl,rfl,b⟩:=hrel
  obtain⟨i,f,_⟩:=y.out
  obtain⟨p,A,m,B,x⟩:=i.bounds
  have M:=b.bounds
  obtain⟨Z,j⟩:=aA (r/4294967296)
  have f1:(r:Int)/4294967296=(Z:Int):=by omega
  by_cases z:r<4294967296
  ·have E:Z=0:=by omega
   subst E
   obtain⟨O,o⟩:=aA (q/4294967296)
   have f2:(q:Int)/4294967296=(O:Int):=by omega
   by_cases L:4294967296<=q
   ·have t2:¬(O=0):=by omega
    obtain⟨T,a⟩:=TI.step i b z (Or.inl L)
    obtain⟨k,c⟩:=aA (q-1)
    obtain⟨n,d⟩:=aA (r+v1)
    rw[<-c,<-d]at a
    have f5:IntKind.u64.wrap ((q:Int)-1)=(k:Int):=by rw[IntKind.wrap_u64];omega
    have f4:IntKind.u64.wrap ((r:Int)+(v1:Int))=(n:Int):=by rw[IntKind.wrap_u64];omega
    have H:Hid (TI head u v1 v0 k n∧k<q):=⟨a,by omega⟩
    clear y b i f p A m B x M j z o L T a c d
    go_wp2
    exact⟨⟨k,n,rfl,rfl,H.out.1⟩,by have:=H.out.2;simp[intOf];omega⟩
   ·have G:O=0:=by omega
    subst G
    obtain⟨P,s⟩:=aA (q*v0)
    have I:P<18446744073709551616:=by rw[s];exact Fo (by omega) m
    have f6:IntKind.u64.wrap ((q:Int)*(v0:Int))=(P:Int):=by
     have e:(q:Int)*(v0:Int)=(P:Int):=by rw[s];exact(aK q v0).symm
     rw[e,IntKind.wrap_u64];omega
    obtain⟨S,Y⟩:=aA (r*4294967296)
    obtain⟨C,J⟩:=aA (r*4294967296+u)
    have f7:IntKind.u64.wrap ((r:Int)*4294967296)=(S:Int):=by rw[IntKind.wrap_u64];omega
    have f8:bits BinOp.or IntKind.u64 (S:Int) (u:Int)=(C:Int):=by
     rw[Y,bits_or_u64_nat (r*4294967296) u (by omega) (by omega)]
     have e2:r*4294967296 ||| u=C:=by
      rw[eH,J]
      have:=fZ u r 32 (by omega)
      rw[show(2:Nat)^32=4294967296 from rfl]at this
      omega
     rw[e2]
    by_cases X:C<P
    ·obtain⟨T,a⟩:=TI.step i b z (Or.inr (by rw[<-J,<-s];exact X))
     obtain⟨k,c⟩:=aA (q-1)
     obtain⟨n,d⟩:=aA (r+v1)
     rw[<-c,<-d]at a
     have f5:IntKind.u64.wrap ((q:Int)-1)=(k:Int):=by rw[IntKind.wrap_u64];omega
     have f4:IntKind.u64.wrap ((r:Int)+(v1:Int))=(n:Int):=by rw[IntKind.wrap_u64];omega
     have H:Hid (TI head u v1 v0 k n∧k<q):=⟨a,by omega⟩
     have t3:(C:Int)<(P:Int):=by omega
     clear y b i f p A m B x M j z o L T a c d s I Y J X
     go_wp2
     exact⟨⟨k,n,rfl,rfl,H.out.1⟩,by have:=H.out.2;simp[intOf];omega⟩
    ·have F:=TI.stop i b (Or.inr ⟨by omega,by rw[<-J,<-s];omega⟩)
     rw[<-f]at F
     subst F
     have f9:IntKind.u32.wrap (q:Int)=(q:Int):=by rw[IntKind.wrap_u32];omega
     have t3:¬(C:Int)<(P:Int):=by omega
     clear y b i f p A m B x M j z o L s I Y J X
     go_wp2
     exact BR ⟨rfl,rfl⟩
  ·have F:=TI.stop i b (Or.inl (by omega))
   rw[<-f]at F
   subst F
   have K:=nv head u v1 v0
   rw[<-f]at K
   have f9:IntKind.u32.wrap (q:Int)=(q:Int):=by rw[IntKind.wrap_u32];omega
   have t3:¬Z=0:=by omega
   clear y b i f p A m B x M j z K
   go_wp2
   exact BR ⟨rfl,rfl⟩
theorem rG (x y b:Nat)(hx:x<4294967296)(hy:y<4294967296)(hb:b<=1)(w:World) :
  Calls prog 270 #[.int .u32 (x:Int),.int .u32 (y:Int),.int .u32 (b:Int)] w (fun e w'=>e=.returned (.tuple #[.int .u32 (((x+8589934592-y-b)%4294967296:Nat):Int),.int .u32 ((if x<y+b then 1 else 0:Nat):Int)])∧w'=w):=by
 obtain⟨d,q⟩:=aA ((x+8589934592-y-b)%4294967296)
 have a:=rF x y b d hx hy hb q
 have p:x ^^^ y<4294967296:=Nat.xor_lt_two_pow (n:=32) hx hy
 obtain⟨B,r⟩:∃B:Nat,B=if x<y+b then 1 else 0:=⟨_,rfl⟩
 rw[<-q,<-r]
 rw[<-r]at a
 obtain⟨o,t⟩:∃o:Nat,o=(x+4294967296-y)%4294967296:=⟨_,rfl⟩
 have I:IntKind.u32.wrap ((x:Int)-(y:Int))=(o:Int):=by rw[IntKind.wrap_u32];omega
 have J:IntKind.u32.wrap ((o:Int)-(b:Int))=(d:Int):=by rw[IntKind.wrap_u32];omega
 have D:=u32_xor_nat x y hx hy
 have C:=u32_and_nat (4294967295-x) y (by omega) hy
 have u:=u32_and_nat (4294967295-(x ^^^ y)) d (by omega) (by omega)
 have s:(4294967295-x) &&& y<4294967296:=Nat.and_lt_two_pow (n:=32) _ hy
 have m:(4294967295-(x ^^^ y)) &&& d<4294967296:=Nat.and_lt_two_pow (n:=32) _ (by omega)
 have g:=u32_or_nat _ _ s m
 obtain⟨z,k⟩:=aA (x ^^^ y)
 rw[<-k]at D u g a p m
 obtain⟨A,c⟩:=aA (4294967295-x)
 obtain⟨i,f⟩:=aA (4294967295-z)
 rw[<-c]at C g a s
 rw[<-f]at u g a m
 have L:bits BinOp.xor IntKind.u32 IntKind.u32.max (x:Int)=(A:Int):=by
  have:=u32_xor_nat 4294967295 x (by omega) hx
  rw[Bm x hx,<-c]at this
  exact this
 have K:bits BinOp.xor IntKind.u32 IntKind.u32.max (z:Int)=(i:Int):=by
  have:=u32_xor_nat 4294967295 z (by omega) p
  rw[Bm z p,<-f]at this
  exact this
 obtain⟨F,l⟩:=aA (A &&& y)
 obtain⟨G,j⟩:=aA (i &&& d)
 rw[<-l]at C g a
 rw[<-j]at u g a
 obtain⟨E,h⟩:=aA (F ||| G)
 rw[<-h]at g a
 have H:(E:Int)/2147483648=(B:Int):=by omega
 clear q r t k c f l j h a hx hy hb p s m
 go_enter func270,ntmps270
 go_wp2
 exact BR ⟨rfl,rfl⟩
theorem ut (g n i c1 d X:Nat)(q:Option Addr)(zs ys:List Int)(w:World)(hr:Rw w g n zs)(hzl:zs.length=n)(hwz:Wd zs)(hy:Arr w q ys)(hwy:Wd ys)(hX:X<4294967296)(hq:0<ys.length->∀b off,q=some ⟨b,off,none⟩->b≠g)(hin:i+ys.length+1<=n)(hn:n<=16777216)(hcc:ys.length+1<=c1) :
  Calls prog 285 #[.slice (some ⟨g,i,none⟩) (ys.length+1) c1,.slice q ys.length d,.int .u32 (X:Int)] w fun e w'=>∃(O b:Nat)(us:List Int),e=.returned (.bool (decide ((zs.getD (i+ys.length) 0).toNat<O+b)))∧Rw w' g n us∧us.length=n∧Wd us∧O<4294967296∧b<=1∧val us+val ys*X*4294967296^i=val zs+(O+b)*4294967296^(i+ys.length)∧(∀j,i+ys.length<=j->us.getD j 0=zs.getD j 0)∧Kb g w w':=by
 obtain⟨M,x⟩:=aA ys.length
 rw[<-x]at hin hcc|-
 have T:Hid (Arr w q ys∧(0<ys.length->∀b off,q=some ⟨b,off,none⟩->b≠g)):=⟨hy,hq⟩
 have HW:Hid (Wd ys∧M=ys.length):=⟨hwy,x⟩
 have J:Hid (Rw w g n zs∧zs.length=n∧Wd zs):=⟨hr,hzl,hwz⟩
 have a5:IntKind.u64.wrap (X:Int)=(X:Int):=by rw[IntKind.wrap_u64];omega
 clear hy hq hwy x hr hzl hwz
 go_enter func285,ntmps285
 go_wp2
 go_loopw [7,8,12] (fun oo bb ii wr=>∃(k O b:Nat)(us:List Int),oo=.int .u64 (O:Int)∧bb=.int .u32 (b:Int)∧ii=.int .i64 k∧k<=M∧Rw wr g n us∧us.length=n∧Wd us∧O<4294967296∧b<=1∧val us+val (ys.take k)*X*4294967296^i=val zs+(O+b)*4294967296^(i+k)∧(∀j,i+k<=j->us.getD j 0=zs.getD j 0)∧Kb g w wr) (fun _ _ i _=>M-(intOf i).toNat)
 case atStart=>exact⟨0,0,0,zs,rfl,rfl,rfl,aW _,J.out.1,J.out.2.1,J.out.2.2,by omega,by omega,by simp[val],fun j _=>rfl,Kb.refl _ _⟩
 case round =>
  obtain⟨k,O,E,us,rfl,rfl,rfl,hk,c,s,m,U,p,C,f,o⟩:=hrel
  obtain⟨hwy,x⟩:=HW.out
  by_cases ck:k<M
  ·obtain⟨b',F,rfl,N⟩:=T.out.1.at (k:=k) (by omega)
   have au:=T.out.2 (by omega) b' F rfl
   have e2:=o.arr au (N k (by omega))
   have e1:=World.rowIs.cell c (i:=i+k) (by omega)
   have e4:=World.rowIs.frozen c (i+k)
   have wy:=hwy k
   have wz:=m (i+k)
   obtain⟨Y,W⟩:∃Y:Nat,(Y:Int)=ys.getD k 0:=⟨(ys.getD k 0).toNat,by omega⟩
   obtain⟨h,l⟩:∃h:Nat,(h:Int)=us.getD (i+k) 0:=⟨(us.getD (i+k) 0).toNat,by omega⟩
   rw[<-W]at e2
   rw[<-l]at e1
   have A:=kt Y X O 0 (by omega) hX U (by omega)
   obtain⟨P,Q⟩:=aA (Y*X)
   rw[<-Q]at A
   have f1:IntKind.u64.wrap (Y:Int)=(Y:Int):=by rw[IntKind.wrap_u64];omega
   have f2:IntKind.u64.wrap ((Y:Int)*(X:Int))=(P:Int):=by
    have:(Y:Int)*(X:Int)=(P:Int):=by rw[Q];exact(aK Y X).symm
    rw[this,IntKind.wrap_u64];omega
   obtain⟨S,hS⟩:∃S:Nat,S=O+P:=⟨_,rfl⟩
   have f3:IntKind.u64.wrap ((O:Int)+(P:Int))=(S:Int):=by rw[IntKind.wrap_u64];omega
   obtain⟨z,Z⟩:∃z:Nat,z=S%4294967296:=⟨_,rfl⟩
   obtain⟨H,hH⟩:∃H:Nat,H=S/4294967296:=⟨_,rfl⟩
   have f4:IntKind.u32.wrap (S:Int)=(z:Int):=by rw[IntKind.wrap_u32];omega
   have f5:(S:Int)/4294967296=(H:Int):=by omega
   have K:=rG h z E (by omega) (by omega) p
   obtain⟨D,hD⟩:∃D:Nat,D=(h+8589934592-z-E)%4294967296:=⟨_,rfl⟩
   obtain⟨B,R⟩:∃B:Nat,B=if h<z+E then 1 else 0:=⟨_,rfl⟩
   rw[<-hD,<-R]at K
   have ar:B<=1:=by rw[R];split<;>omega
   have aa:=iG us ys i k O E B H z D Y h X _ (by omega) l.symm (by rw[<-W,av]) (by rw[<-Q];omega) (by rw[hD,R];split<;>omega) C
   have I:H<4294967296:=by omega
   have V:Wd (us.set (i+k) (D:Int)):=m.set (i+k) D (by omega)
   have a1:(us.set (i+k) (D:Int)).length=n:=by rw[bg];exact s
   have y:∀j,i+(k+1)<=j->(us.set (i+k) (D:Int)).getD j 0=zs.getD j 0:=fun j h1=>by
    rw[<-f j (by omega)];simp[List.getD,show ¬i+k=j from by omega]
   have hR:=c.set (i+k) (D:Int) (by omega)
   have hK:=o.setCell (i+k) (.int .u32 (D:Int))
   have i0:(0:Int)<=(k:Int):=by omega
   have i1:(k:Int)<(M:Int):=by omega
   have i2:(k:Int)<(M:Int)+1:=by omega
   clear N T HW J hwy x W l Z hH hS C Q wy wz m U p f s A hD R c o
   go_wp2_with (first|(go_at_call 270;refine SM (K _) ?_))
   exact⟨⟨k+1,H,B,us.set (i+k) (D:Int),rfl,rfl,by go_num,by omega,hR,a1,V,I,ar,aa,y,hK⟩,by simp[intOf];omega⟩
  ·obtain⟨r,ad⟩:=aA O
   obtain⟨a,G⟩:=aA E
   subst ad G
   have aj:k=M:=by omega
   subst aj
   rw[x,di,<-x]at C
   have wz:=m (i+k)
   have e1:=World.rowIs.cell c (i:=i+k) (by omega)
   obtain⟨h,l⟩:∃h:Nat,(h:Int)=us.getD (i+k) 0:=⟨(us.getD (i+k) 0).toNat,by omega⟩
   rw[<-l]at e1
   have L:(zs.getD (i+k) 0).toNat=h:=by rw[<-f _ (ao _),<-l,av]
   have i2:¬((k:Int)<(k:Int)):=by omega
   have i3:(k:Int)<(k:Int)+1:=by omega
   have i0:(0:Int)<=(k:Int):=by omega
   have f1:IntKind.u64.wrap (h:Int)=(h:Int):=by rw[IntKind.wrap_u64];omega
   have f2:IntKind.u64.wrap (a:Int)=(a:Int):=by rw[IntKind.wrap_u64];omega
   have f3:IntKind.u64.wrap ((r:Int)+(a:Int))=(r:Int)+(a:Int):=by rw[IntKind.wrap_u64];omega
   have t:decide ((h:Int)<(r:Int)+(a:Int))=decide ((zs.getD (i+k) 0).toNat<r+a):=by
    rw[L];by_cases e:h<r+a<;>simp[e]<;>omega
   clear T HW J hwy x hk ck wz l L
   have u:∃(O b:Nat)(us:List Int),Ending.returned (.bool (decide ((h:Int)<(r:Int)+(a:Int))))=.returned (.bool (decide ((zs.getD (i+k) 0).toNat<O+b)))∧Rw wr g n us∧us.length=n∧Wd us∧O<4294967296∧b<=1∧val us+val ys*X*4294967296^i=val zs+(O+b)*4294967296^(i+k)∧(∀j,i+k<=j->us.getD j 0=zs.getD j 0)∧Kb g w wr:=⟨r,a,us,by rw[t],c,s,m,U,p,C,f,o⟩
   have HF:Hid (∃(O b:Nat)(us:List Int),Ending.returned (.bool (decide ((h:Int)<(r:Int)+(a:Int))))=.returned (.bool (decide ((zs.getD (i+k) 0).toNat<O+b)))∧Rw wr g n us∧us.length=n∧Wd us∧O<4294967296∧b<=1∧val us+val ys*X*4294967296^i=val zs+(O+b)*4294967296^(i+k)∧(∀j,i+k<=j->us.getD j 0=zs.getD j 0)∧Kb g w wr):=u
   clear u c s m U p C f o t
   go_wp2
   exact BR (v:=.bool (decide ((h:Int)<(r:Int)+(a:Int)))) (by obtain⟨O,b,us,h1,h2⟩:=HF.out;exact⟨O,b,h1,us,h2⟩)
theorem wZ (g n i c1 d:Nat)(q:Option Addr)(zs ys:List Int)(w:World)(hr:Rw w g n zs)(hzl:zs.length=n)(hwz:Wd zs)(hy:Arr w q ys)(hwy:Wd ys)(hq:0<ys.length->∀b off,q=some ⟨b,off,none⟩->b≠g)(hin:i+ys.length+1<=n)(hn:n<=16777216)(hcc:ys.length+1<=c1) :
  Calls prog 286 #[.slice (some ⟨g,i,none⟩) (ys.length+1) c1,.slice q ys.length d] w fun e w'=>∃(C:Nat)(us:List Int),e=.returned (.tuple #[])∧Rw w' g n us∧us.length=n∧Wd us∧val us+C*4294967296^(i+ys.length)=val zs+val ys*4294967296^i∧(∀j,i+ys.length<=j->us.getD j 0=zs.getD j 0)∧Kb g w w':=by
 obtain⟨M,o⟩:=aA ys.length
 rw[<-o]at hin hcc|-
 have B:Hid (Arr w q ys∧(0<ys.length->∀b off,q=some ⟨b,off,none⟩->b≠g)):=⟨hy,hq⟩
 have I:Hid (Wd ys∧M=ys.length):=⟨hwy,o⟩
 have A:Hid (Rw w g n zs∧zs.length=n∧Wd zs):=⟨hr,hzl,hwz⟩
 clear hy hq hwy o hr hzl hwz
 go_enter func286,ntmps286
 go_wp2
 go_loopw [4,8] (fun cc ii wr=>∃(k C:Nat)(us:List Int),cc=.int .u32 (C:Int)∧ii=.int .i64 k∧k<=M∧Rw wr g n us∧us.length=n∧Wd us∧C<=1∧val us+C*4294967296^(i+k)=val zs+val (ys.take k)*4294967296^i∧(∀j,i+k<=j->us.getD j 0=zs.getD j 0)∧Kb g w wr) (fun _ i _=>M-(intOf i).toNat)
 case atStart=>exact⟨0,0,zs,rfl,rfl,aW _,A.out.1,A.out.2.1,A.out.2.2,by omega,by simp[val],fun j _=>rfl,Kb.refl _ _⟩
 case round =>
  obtain⟨k,C,us,rfl,rfl,hk,a,l,h,Q,x,c,f⟩:=hrel
  obtain⟨hwy,o⟩:=I.out
  by_cases X:k<M
  ·obtain⟨Z,z,rfl,u⟩:=B.out.1.at (k:=k) (by omega)
   have y:=B.out.2 (by omega) Z z rfl
   have N:=f.arr y (u k (by omega))
   have P:=World.rowIs.cell a (i:=i+k) (by omega)
   have V:=World.rowIs.frozen a (i+k)
   have wy:=hwy k
   have wz:=h (i+k)
   obtain⟨Y,E⟩:∃Y:Nat,(Y:Int)=ys.getD k 0:=⟨(ys.getD k 0).toNat,by omega⟩
   obtain⟨m,p⟩:∃m:Nat,(m:Int)=us.getD (i+k) 0:=⟨(us.getD (i+k) 0).toNat,by omega⟩
   rw[<-E]at N
   rw[<-p]at P
   have r:=sL (m:Int) (Y:Int) (C:Int) (by omega) (by omega) (by omega)
   obtain⟨S,hS⟩:∃S:Nat,S=(m+Y+C)%4294967296:=⟨_,rfl⟩
   obtain⟨t,F⟩:∃t:Nat,t=(m+Y+C)/4294967296:=⟨_,rfl⟩
   have L:((m:Int)+Y+C)%4294967296=(S:Int):=by omega
   have O:((m:Int)+Y+C)/4294967296=(t:Int):=by omega
   rw[L,O]at r
   have H:=vz us ys i k C t S Y m _ (by omega) p.symm (by rw[<-E,av]) (by omega) x
   have J:t<=1:=by omega
   have D:Wd (us.set (i+k) (S:Int)):=h.set (i+k) S (by omega)
   have K:(us.set (i+k) (S:Int)).length=n:=by rw[bg];exact l
   have s:∀j,i+(k+1)<=j->(us.set (i+k) (S:Int)).getD j 0=zs.getD j 0:=fun j h1=>by
    rw[<-c j (by omega)];simp[List.getD,show ¬i+k=j from by omega]
   have W:Rw (wr.setCell ⟨g,i+k,none⟩ (.int .u32 (S:Int))).drew g n (us.set (i+k) (S:Int)):=a.set (i+k) (S:Int) (by omega)
   have U:Kb g w (wr.setCell ⟨g,i+k,none⟩ (.int .u32 (S:Int))).drew:=f.setCell (i+k) (.int .u32 (S:Int))
   have i0:(0:Int)<=(k:Int):=by omega
   have i1:(k:Int)<(M:Int):=by omega
   have T:(k:Int)<(M:Int)+1:=by omega
   clear u B I A hwy o E p x wy wz h Q c l hS F L O a f
   go_wp2
   (go_region_with (first|(go_at_call 266;refine SM (r _) ?_)))
   all_goals
    clear r P N V y
    go_wp2
    exact⟨⟨k+1,t,us.set (i+k) (S:Int),rfl,by go_num,by omega,W,K,D,J,H,s,U⟩,by simp[intOf];omega⟩
  ·have G:k=M:=by omega
   subst G
   rw[o,di,<-o]at x
   have T:¬((k:Int)<(k:Int)):=by omega
   have R:Hid (Rw wr g n us∧us.length=n∧Wd us∧val us+C*4294967296^(i+k)=val zs+val ys*4294967296^i∧(∀j,i+k<=j->us.getD j 0=zs.getD j 0)∧Kb g w wr):=⟨a,l,h,x,c,f⟩
   clear B I A hwy o hk X a l h Q x c f
   go_wp2
   exact bodyPost_end (v:=.tuple #[]) (by kernel_rfl) rfl ⟨rfl,C,us,R.out⟩
theorem Kb.trans {g:Nat}{a b c:World}(h:Kb g a b)(k:Kb g b c):Kb g a c :=
 ⟨k.1.trans h.1,k.2.1.trans h.2.1,k.2.2.1.trans h.2.2.1,aT h.2.2.2.1 k.2.2.2.1,fun j hj hg=>(k.2.2.2.2 j (aE hj h.2.2.2.1) hg).trans (h.2.2.2.2 j hj hg)⟩
theorem vX (g n i c1 d:Nat)(q:Option Addr)(zs ys:List Int)(w:World)(hr:Rw w g n zs)(hzl:zs.length=n)(hwz:Wd zs)(hy:Arr w q ys)(hwy:Wd ys)(hq:0<ys.length->∀b off,q=some ⟨b,off,none⟩->b≠g)(hy2:2<=ys.length)(htop:2147483648<=(ys.getD (ys.length-1) 0).toNat)(hin:i+ys.length+1<=n)(hn:n<=16777216)(hcc:ys.length+1<=c1)(hlt:val (zs.take (i+ys.length+1))<val ys*4294967296^(i+1)) :
  Calls prog 283 #[.slice (some ⟨g,i,none⟩) (ys.length+1) c1,.slice q ys.length d] w fun e w'=>∃us:List Int,e=.returned (.int .u32 ((val (zs.take (i+ys.length+1))/(val ys*4294967296^i):Nat):Int))∧Rw w' g n us∧us.length=n∧Wd us∧val (us.take (i+ys.length))=val (zs.take (i+ys.length+1))%(val ys*4294967296^i)∧Kb g w w':=by
 obtain⟨k,hk⟩:∃k,ys.length=k+2:=⟨ys.length-2,by omega⟩
 have wz:=hwz (i+k+2)
 have aj:=hwz (i+k+1)
 have bb:=hwz (i+k)
 have a4:=hwy (k+1)
 have an:=hwy k
 obtain⟨z,hz⟩:∃z:Nat,(z:Int)=zs.getD (i+k+2) 0:=⟨_,b7 wz.1⟩
 obtain⟨y,N⟩:∃y:Nat,(y:Int)=zs.getD (i+k+1) 0:=⟨_,b7 aj.1⟩
 obtain⟨U,Y⟩:∃U:Nat,(U:Int)=zs.getD (i+k) 0:=⟨_,b7 bb.1⟩
 obtain⟨L,E⟩:∃L:Nat,(L:Int)=ys.getD (k+1) 0:=⟨_,b7 a4.1⟩
 obtain⟨X,Z⟩:∃X:Nat,(X:Int)=ys.getD k 0:=⟨_,b7 an.1⟩
 have a8:2147483648<=L:=by
  rw[show ys.length-1=k+1 from by omega,<-E,av]at htop
  exact htop
 have o:0<val ys:=lC ys (k+1) (by rw[<-E,av];omega)
 obtain⟨bl,m,r⟩:=uW zs ys hwz hwy i k U y z L X hk (by rw[<-Y];rfl) (by rw[<-N];rfl) (by rw[<-hz];rfl) (by rw[<-Z];rfl) (by rw[<-E];rfl) a8 hlt
 obtain⟨F,f,rfl,W⟩:=hy.at (k:=k) (by omega)
 have bc:=hq (by omega) F f rfl
 have I:=B5 (z*4294967296+y) U L X bl
 obtain⟨T,hT⟩:=aA (fR (z*4294967296+y) U L X)
 have l:=nv (z*4294967296+y) U L X
 rw[<-hT]at I m r l
 obtain⟨hd,aa⟩:=aA (z*4294967296+y)
 rw[<-aa]at I
 have e1:=World.rowIs.cell hr (i:=i+k+2) (by omega)
 have e2:=World.rowIs.cell hr (i:=i+k+1) (by omega)
 have e3:=World.rowIs.cell hr (i:=i+k) (by omega)
 have e4:=W (k+1) (by omega)
 have e5:=W k (by omega)
 rw[<-hz]at e1
 rw[<-N]at e2
 rw[<-Y]at e3
 rw[<-E]at e4
 rw[<-Z]at e5
 obtain⟨S,hS⟩:=aA (z*4294967296)
 have f1:IntKind.u64.wrap (z:Int)=(z:Int):=by rw[IntKind.wrap_u64];omega
 have f2:IntKind.u64.wrap (y:Int)=(y:Int):=by rw[IntKind.wrap_u64];omega
 have f3:IntKind.u64.wrap ((z:Int)*4294967296)=(S:Int):=by rw[IntKind.wrap_u64];omega
 have f4:bits BinOp.or IntKind.u64 (S:Int) (y:Int)=(hd:Int):=by
  rw[hS,bits_or_u64_nat (z*4294967296) y (by omega) (by omega)]
  have e2:z*4294967296 ||| y=hd:=by
   rw[eH,aa]
   have:=fZ y z 32 (by omega)
   rw[show(2:Nat)^32=4294967296 from rfl]at this
   omega
  rw[e2]
 have s:=fun(w':World) (h1:Rw w' g n zs) (h2:Arr w' (some ⟨F,f,none⟩) ys)=>ut g n i c1 d T (some ⟨F,f,none⟩) zs ys w' h1 hzl hwz h2 hwy l hq hin hn hcc
 have u:=fun(us:List Int) (w':World) (h1:Rw w' g n us) (h3:us.length=n) (h4:Wd us) (h2:Arr w' (some ⟨F,f,none⟩) ys)=>wZ g n i c1 d (some ⟨F,f,none⟩) us ys w' h1 h3 h4 h2 hwy hq hin hn hcc
 obtain⟨M,G⟩:=aA ys.length
 obtain⟨M1,bf⟩:=aA (k+1)
 rw[<-G]at s u|-
 have a1:i+k+2=i+M:=by omega
 have a2:i+k+1=i+M1:=by omega
 rw[a1]at e1
 rw[a2]at e2
 rw[<-bf]at e4
 have g1:IntKind.i64.wrap ((M:Int)-1)=(M1:Int):=by rw[IntKind.wrap_i64];omega
 have g2:IntKind.i64.wrap ((M:Int)-2)=(k:Int):=by rw[IntKind.wrap_i64];omega
 have i0:(M:Int)<(M:Int)+1:=by omega
 have i1:(M1:Int)<(M:Int)+1:=by omega
 have i2:(k:Int)<(M:Int)+1:=by omega
 have i3:(M1:Int)<(M:Int):=by omega
 have i4:(k:Int)<(M:Int):=by omega
 have HH:Hid (M=ys.length∧zs.length=n∧Wd zs∧Wd ys∧T<4294967296∧0<val ys∧val (zs.take (i+ys.length+1))/(val ys*4294967296^i)<=T∧T<=val (zs.take (i+ys.length+1))/(val ys*4294967296^i)+1):=⟨G,hzl,hwz,hwy,l,o,m,r⟩
 have HR:Hid (Rw w g n zs∧Arr w (some ⟨F,f,none⟩) ys):=⟨hr,hy⟩
 have HB:Hid (F≠g):=bc
 clear hr hzl hwz hwy hy hq hy2 htop hin hn hcc hlt hk wz aj bb a4 an hz N Y E Z a8 o bl m r W bc hT l aa hS G bf a1 a2
 go_enter func283,ntmps283
 go_wp2
 go_region_held3 (fun w'=>w'.cell? ⟨g,i+M,none⟩=some (.int .u32 (z:Int))∧w'.cell? ⟨g,i+M1,none⟩=some (.int .u32 (y:Int))∧w'.cell? ⟨g,i+k,none⟩=some (.int .u32 (U:Int))∧w'.cell? ⟨F,f+M1,none⟩=some (.int .u32 (L:Int))∧w'.cell? ⟨F,f+k,none⟩=some (.int .u32 (X:Int))) (exact⟨e1,e2,e3,e4,e5⟩) (first|(go_at_call 284;refine(I _).mono ?_;rintro e w' ⟨rfl,rfl⟩))
 rename_i hHeld
 clear hHeld
 clear e1 e2 e3 e4 e5 I f1 f2 f3 f4 g1 g2 i1 i2 i3 i4
 go_wp2_with fail
 refine(s w.drew.drew HR.out.1 HR.out.2).mono ?_
 rintro e w' ⟨O,bo,us,rfl,R,K,B,hO,a3,Q,h,V⟩
 obtain⟨G,hzl,hwz,hwy,l,o,m,r⟩:=HH.out
 have t:Kb g w w':=V
 have P:Arr w' (some ⟨F,f,none⟩) ys:=Or.inr ⟨F,f,rfl,fun j hj=>by
  obtain⟨b2,bX,e,hc⟩:=HR.out.2.at (k:=j) hj
  cases e
  exact t.arr HB.out (hc j hj)⟩
 by_cases J:(zs.getD (i+M) 0).toNat<O+bo
 ·rw[af J]
  have a9:=u us w' R K B P
  rw[G]at Q h J
  have D:=fun(C:Nat) (p:List Int) (hl2:p.length=us.length) (H:Wd p) hs2 hv2=>xn us p zs ys i O bo T C (by omega) hl2 B H hwy h Q o m r J hs2 hv2
  obtain⟨T',bm⟩:=aA (T-1)
  rw[<-G]at D
  have bB:1<=T:=by
   by_cases e:T=0
   ·exfalso
    subst e
    have h1:=rT us zs ys i O bo 0 (by omega) h Q
    have h2:=dE us B (i+ys.length)
    have h3:((zs.getD (i+ys.length) 0).toNat+1)*4294967296^(i+ys.length)<=(O+bo)*4294967296^(i+ys.length):=ai _ J
    rw[aH,aN]at h3
    rw[Nat.mul_zero,aM]at h1
    omega
   ·omega
  have fT:IntKind.u32.wrap ((T:Int)-1)=(T':Int):=by rw[IntKind.wrap_u32];omega
  have HF:Hid (∀(C:Nat)(p:List Int),p.length=us.length->Wd p->(∀j,i+M<=j->p.getD j 0=us.getD j 0)->val p+C*4294967296^(i+M)=val us+val ys*4294967296^i->T'=val (zs.take (i+M+1))/(val ys*4294967296^i)∧val (p.take (i+M))=val (zs.take (i+M+1))%(val ys*4294967296^i)):=fun C p a b c d=>by rw[bm];exact(D C p a b c d).2
  have HU:Hid (us.length=n∧Kb g w w'):=⟨K,t⟩
  clear s u HH HR HB G hzl hwz hwy l o m r K B hO a3 Q h V t P J D bm bB R i0
  go_wp2_with fail
  refine a9.mono ?_
  rintro e w2 ⟨C,p,rfl,bA,ba,H,a5,a0,a6⟩
  obtain⟨x,A⟩:=HF.out C p (by rw[ba,HU.out.1]) H a0 a5
  have hK:Kb g w w2:=HU.out.2.trans a6
  have HQ:Hid (T'=val (zs.take (i+M+1))/(val ys*4294967296^i)∧val (p.take (i+M))=val (zs.take (i+M+1))%(val ys*4294967296^i)):=⟨x,A⟩
  clear a9 HF HU a5 a0 a6 x A
  go_wp2
  exact BR (v:=.int .u32 (T':Int)) ⟨p,by rw[HQ.out.1],bA,ba,H,HQ.out.2,hK⟩
 ·rw[ae J]
  rw[G]at Q h J
  obtain⟨x,A⟩:=uL us zs ys i O bo T (by omega) B hwy h Q o m J
  rw[<-G]at x A
  have HQ:Hid (T=val (zs.take (i+M+1))/(val ys*4294967296^i)∧val (us.take (i+M))=val (zs.take (i+M+1))%(val ys*4294967296^i)):=⟨x,A⟩
  clear s u HH HR HB G hzl hwz hwy l o m r hO a3 Q h V P J i0 x A
  go_wp2
  exact BR (v:=.int .u32 (T:Int)) ⟨us,by rw[HQ.out.1],R,K,B,HQ.out.2,t⟩
theorem iy (p:Option Addr)(c:Nat)(xs:List Int)(w:World)(hx:Arr w p xs)(lx:xs.length<=1099511627776) :
  Calls prog 130 #[.slice p xs.length c] w fun e w'=>∃v,e=.returned v∧Own w' w.heap.size v (nz xs)∧Kp w w':=by
 obtain⟨N,g⟩:=aA xs.length
 rw[<-g]at lx|-
 have y:Hid (Arr w p xs):=hx
 have C:Hid (N=xs.length):=g
 obtain⟨T,K⟩:=aA (tl xs)
 have L:Hid (gK xs N=T):=by rw[K,g];exact rfl
 have h:Hid (T<=N∧T=tl xs):=⟨by rw[K,g];exact dJ xs,K⟩
 obtain⟨i0,Z,S,V,Q⟩:=sj
 clear g hx K
 go_enter func130,ntmps130
 go_wp2
 go_loop [3] (fun i=>∃k:Nat,i=.int .i64 k∧k<=N∧gK xs k=T) (fun i=>(intOf i).toNat)
 case atStart=>exact⟨N,rfl,ao _,L.out⟩
 case round =>
  obtain⟨k,rfl,hk,z⟩:=hrel
  have g:=C.out
  have x:k=0∨(∃k',k=k'+1∧xs.getD k' 0=0)∨(∃k',k=k'+1∧xs.getD k' 0≠0):=by
   rcases k with _|k'
   ·exact Or.inl rfl
   ·by_cases r:xs.getD k' 0=0
    ·exact Or.inr (Or.inl ⟨k',rfl,r⟩)
    ·exact Or.inr (Or.inr ⟨k',rfl,r⟩)
  rcases x with rfl|⟨k,rfl,r⟩|⟨k,rfl,r⟩
  ·have O:T=0:=by rw[<-z];rfl
   subst O
   clear g C y L z hk
   have B:nz xs=[]:=by unfold nz;rw[<-h.out.2];rfl
   go_wp2
   go_loopw [4,5] (fun v i wr=>v=.slice none 0 0∧i=.int .i64 0∧wr=w) (fun _ _ _=>0)
   case atStart=>exact⟨rfl,rfl,rfl⟩
   case round =>
    obtain⟨rfl,rfl,rfl⟩:=hrel
    go_wp2
    exact BR (v:=.slice none 0 0) ⟨_,rfl,by rw[B];exact Own.nil _ _,Kp.refl _⟩
  ·obtain⟨b,G,rfl,l⟩:=y.out.at (k:=k) (by omega)
   have J:=l k (by omega)
   rw[jE xs k r]at z
   rw[r]at J
   clear g C y L l h
   go_wp2
   exact⟨⟨k,by go_num,by omega,z⟩,by simp[intOf]⟩
  ·obtain⟨b,G,rfl,l⟩:=y.out.at (k:=k) (by omega)
   have J:=l k (by omega)
   rw[mv xs k r]at z
   obtain⟨X,hX⟩:=aA (xs.getD k 0)
   rw[<-hX]at J r
   have t1:(X == 0)=false:=by simp[r]
   have U:Hid (k+1=T):=z
   clear g L l hX r z
   go_wp2
   go_loopw [4,5] (fun a i wr=>∃(v:Value)(j:Nat),v=a∧j<=k+1∧i=.int .i64 j∧Own wr w.heap.size v (xs.take j)∧Kp w wr) (fun _ i _=>k+1-(intOf i).toNat)
   case atStart=>exact⟨_,0,rfl,aW _,rfl,by simpa using Own.nil w w.heap.size,Kp.refl _⟩
   case round =>
    obtain⟨v,j,rfl,hj,rfl,f,m⟩:=hrel
    obtain⟨W,A⟩:=h.out
    have E:=U.out
    have g:=C.out
    clear J t1
    by_cases cj:j<k+1
    ·obtain⟨b2,F,H,D⟩:=y.out.at (k:=j) (by omega)
     obtain⟨rfl,rfl⟩:b=b2∧G=F:=by simpa using H
     have e2:=ac m (D j (by omega))
     have d:=uq xs j (by omega)
     have I:=iJ f
     have t:(xs.take j).length=j:=by rw[dG];omega
     have n:wr.ownsRow w.heap.size 120 1 v ((xs.take j).length) ((xs.take j).map (Value.int .u32)):=f
     obtain⟨Y,hY⟩:=aA (xs.getD j 0)
     rw[<-hY]at e2 d
     have R:=m.size
     clear D H hY A y C h U f
     clear g
     go_wp2_with (first|(at_builtin;refine wpList_append_own _ rfl _ _ 55 rfl w.heap.size 120 i0 (.int .u32 0) 1 4 underlying55 Z S V Q rfl (by decide) _ _ _ rfl (n.alloc _) ⟨wr.heap.size,0,none⟩ 1 1 [.int .u32 Y] rfl rfl ?c1 ?c2 ?c3 ?c4 ?c5 ?_))
     case c1 =>
      intro j' u s
      match j',s with
      | 0,s=>simp at s;subst s;simp[Addr.add]
     case c2=>intro u hu;simp at hu;subst hu;rfl
     case c3=>unfold maxLen;omega
     case c4=>omega
     case c5=>simp;omega
     intro v' w1 q o _
     have hO:Own w1 w.heap.size v' (xs.take (j+1)):=by rw[<-d];refine Own.push ?_;rw[t,List.map_take];exact q
     have P:Kp w w1:=(m.alloc _).grown o I
     clear q o n m I e2 R d t
     go_wp2
     exact⟨⟨_,j+1,rfl,by omega,by go_num,hO,P⟩,by simp[intOf];omega⟩
    ·have M:j=k+1:=by omega
     have B:nz xs=xs.take j:=by unfold nz;rw[<-A,<-E,M]
     clear g C y h U A W E
     go_wp2
     exact BR (v:=v) ⟨_,rfl,by rw[B];exact f,m⟩
set_option maxHeartbeats 20000000 in
theorem pQ:(∀(p q:Option Addr)(c d:Nat)(xs ys:List Int)(w:World)(hx:Arr w p xs)(hy:Arr w q ys)(hwx:Wd xs)(hwy:Wd ys)(lx:xs.length<1099511627775)(hl:ys.length<xs.length),Calls prog 245 #[.slice q ys.length d,.slice p xs.length c] w fun e w'=>∃v,e=.returned v∧Own w' w.heap.size v (az (val xs+val ys))∧Kp w w')∧(∀(p q:Option Addr)(c d:Nat)(xs ys:List Int)(w:World)(hx:Arr w p xs)(hy:Arr w q ys)(hwx:Wd xs)(hwy:Wd ys)(lx:xs.length<1099511627775)(hl:ys.length<=xs.length),Calls prog 245 #[.slice p xs.length c,.slice q ys.length d] w fun e w'=>∃v,e=.returned v∧Own w' w.heap.size v (az (val xs+val ys))∧Kp w w'):=by
 refine⟨?_,?_⟩
 case' refine_1=>intro p q c d xs ys w hx hy hwx hwy lx hl;have bt:=trivial
 case' refine_2=>intro p q c d xs ys w hx hy hwx hwy lx hl;have bo:=trivial
 all_goals (
  obtain⟨N,A⟩:=aA xs.length
  obtain⟨M,z⟩:=aA ys.length
  have t:M<=N:=by omega
  have bH:∀w:World,(Instr.makeSlice 55 (.int .i64 ((N:Int)+1)) (.int .i64 ((N:Int)+1))).run prog w=.ok (.slice (some ⟨w.heap.size,0,none⟩) (N+1) (N+1)) (w.alloc (.cells (madeCells #[.int .u32 0] (N+1)) 120)):=by
   have:=mN (N+1) (by omega)
   simpa using this
  have O:Kp w (w.alloc (.cells (madeCells #[.int .u32 0] (N+1)) 120)):=(Kp.refl w).alloc _
  obtain⟨w2,aw,a2,aa⟩:=yy (w.alloc (.cells (madeCells #[.int .u32 0] (N+1)) 120)) w.heap.size (N+1) c p xs _ (World.rowIs_made w (.int .u32 0) (N+1) 120) (hx.grown O) (by omega)
  have a1:Kp w w2:=aa w (ao _) O
  have D:Rw w2 w.heap.size (N+1) (xs ++ [0]):=World.rowIs.congr a2 (fun j _=>by
   rw[qS]
   by_cases e:j<xs.length
   ·rw[if_pos e,if_pos e]
   ·rw[if_neg e,if_neg e])
  have l:Wd (xs ++ [0]):=hwx.append (Wd.one (by omega))
  have Q:=oj xs
  have K:∀j,j<N->(xs ++ [0]).getD j 0=xs.getD j 0:=fun j hj=>by rw[qS,if_pos (by omega)]
  have G:(xs ++ [0]).length=N+1:=by simp;omega
  obtain⟨bx,au⟩:=aA (xs ++ [0])
  rw[<-au]at D l Q K G
  rw[<-A]at aw|-
  rw[<-z]
  first
  |(have z0:=bt;clear z0;have t0:(M:Int)<(N:Int):=by omega)
  |(have z0:=bo;clear z0;have t0:¬((N:Int)<(M:Int)):=by omega)
  have cg:N<1099511627775:=by omega
  have HX:Hid (Arr w p xs):=hx
  have HY:Hid (Arr w q ys):=hy
  have HW:Hid (Wd xs∧Wd ys):=⟨hwx,hwy⟩
  have W:Hid (N=xs.length∧M=ys.length∧M<=N):=⟨A,z,t⟩
  obtain⟨g,hg⟩:=aA w.heap.size
  rw[<-hg]at D
  have E:Hid (g=w.heap.size):=hg
  clear hx hy hwx hwy lx hl A z aa a2 O au
  go_enter func245,ntmps245
  go_wp2
  rw[<-hg]
  clear bH aw
  go_loopw [6,25] (fun cc i wr=>∃(k C:Nat)(f:List Int),cc=.int .u32 C∧i=.int .i64 k∧k<=M∧Rw wr g (N+1) f∧f.length=N+1∧Wd f∧C<=1∧val f+C*4294967296^k=val xs+val (ys.take k)∧(∀j,k<=j->j<N->f.getD j 0=xs.getD j 0)∧Kp w wr) (fun _ i _=>M-(intOf i).toNat)
  case atStart=>exact⟨0,0,bx,rfl,rfl,aW _,D,G,l,by omega,by simp[val,Q],fun j _ hj=>K j hj,a1⟩
  case round =>
   clear D l Q K G a1 hg t0
   obtain⟨k,C,f,rfl,rfl,hk,a,m,l,U,u,s,n⟩:=hrel
   obtain⟨A,z,t⟩:=W.out
   obtain⟨hwx,hwy⟩:=HW.out
   by_cases ck:k<M
   ·obtain⟨b,bE,rfl,hc⟩:=HX.out.at (k:=k) (by omega)
    obtain⟨b',ad,rfl,P⟩:=HY.out.at (k:=k) (by omega)
    have e1:=ac n (hc k (by omega))
    have e2:=ac n (P k (by omega))
    have bu:b≠g:=by have:=be (hc k (by omega));have:=E.out;omega
    have an:b'≠g:=by have:=be (P k (by omega));have:=E.out;omega
    have e3:=World.rowIs.cell a (i:=k) (by omega)
    have e4:=World.rowIs.frozen a k
    have wx:=hwx k
    have wy:=hwy k
    have aj:=s k (ao _) (by omega)
    obtain⟨S,F⟩:∃S:Nat,S=(xs.getD k 0).toNat+(ys.getD k 0).toNat+C:=⟨_,rfl⟩
    have r:=jT f k C S _ (xs.getD k 0) (ys.getD k 0) (by omega) aj F u
    rw[dH,<-bd]at r
    obtain⟨X,hX⟩:=aA (xs.getD k 0)
    obtain⟨Y,hY⟩:=aA (ys.getD k 0)
    rw[<-hX]at e1 wx F
    rw[<-hY]at e2 wy F
    have o:=sL X Y (C:Int) wx wy (by omega)
    have f1:(X+Y+(C:Int))%4294967296=((S%4294967296:Nat):Int):=by omega
    have f2:(X+Y+(C:Int))/4294967296=((S/4294967296:Nat):Int):=by omega
    rw[f1,f2]at o
    have x:S/4294967296<=1:=by omega
    obtain⟨Z,hZ⟩:∃Z:Int,Z=((S%4294967296:Nat):Int):=⟨_,rfl⟩
    obtain⟨H,y⟩:∃H:Nat,H=S/4294967296:=⟨_,rfl⟩
    rw[<-hZ]at o r
    rw[<-y]at o r x
    have L:∀j,k+1<=j->j<N->(f.set k Z).getD j 0=xs.getD j 0:=fun j h1 h2=>by
     rw[<-s j (by omega) h2];simp[List.getD,show ¬k=j from by omega]
    have I:Wd (f.set k Z):=l.set k Z (by omega)
    have R:(f.set k Z).length=N+1:=by rw[bg];exact m
    have a0:∀w':World,Kp wr w'->Rw (w'.setCell ⟨g,k,none⟩ (.int .u32 Z)) g (N+1) (f.set k Z):=fun w' h=>(a.grown h).set k Z (by omega)
    have ca:k<N+1:=by omega
    have i0:(0:Int)<=(k:Int):=by omega
    have i1:(k:Int)<(N:Int):=by omega
    have i2:(k:Int)<(M:Int):=by omega
    have i3:(k:Int)<(N:Int)+1:=by omega
    have br:w.heap.size<=g:=by rw[E.out];exact ao _
    clear hc P HX HY HW W E A z hX hY F u hZ y wx wy l U hwx hwy f1 f2 aj s m a
    go_wp2
    go_region_held3 (fun w'=>w'.cell? ⟨b,bE+k,none⟩=some (.int .u32 X)∧w'.cell? ⟨b',ad+k,none⟩=some (.int .u32 Y)) (first|(exact⟨e1,e2⟩)|(exact⟨(CF _ _ _ _ (Ne.symm bu)).trans e1,(CF _ _ _ _ (Ne.symm an)).trans e2⟩)) (first|(go_at_call 266;refine(o _).mono ?_;rintro e w' ⟨rfl,rfl⟩))
    have hR:Rw (wr.setCell ⟨g,k,none⟩ (.int .u32 Z)).drew g (N+1) (f.set k Z):=a0 wr (Kp.refl _)
    have hK:Kp w (wr.setCell ⟨g,k,none⟩ (.int .u32 Z)).drew:=(n.setCell br _).drew
    clear a0 n e1 e2 e3 e4 o
    go_wp2
    exact⟨⟨k+1,H,f.set k Z,rfl,by go_num,by omega,hR,R,I,x,r,L,hK⟩,by simp[intOf];omega⟩
   ·have bn:k=M:=by omega
    subst bn
    rw[z,di,<-z]at u
    have i2:¬((k:Int)<(k:Int)):=by omega
    have HV:Hid (val f+C*4294967296^k=val xs+val ys):=u
    clear u HX HY s hk ck A z t hwx hwy
    go_wp2
    go_loopw [6,8] (fun cc i wq=>∃(j C:Nat)(f:List Int),cc=.int .u32 C∧i=.int .i64 j∧Rw wq g (N+1) f∧f.length=N+1∧Wd f∧C<=1∧val f+C*4294967296^j=val xs+val ys∧Kp w wq∧j<=N+1) (fun _ i _=>N+2-(intOf i).toNat)
    case atStart=>exact⟨k,C,f,rfl,rfl,a,m,l,U,HV.out,n,by have:=W.out.2.2;omega⟩
    case round =>
     clear a m l U HV n
     obtain⟨j,C,f,rfl,rfl,a,m,l,U,u,n,hj⟩:=hrel
     obtain⟨A,z,t⟩:=W.out
     obtain⟨hwx,hwy⟩:=HW.out
     rcases(by omega:C=0∨C=1)with rfl|rfl
     ·rw[aM,bi]at u
      have hA:=a.arr (N+1) (ao _) (by omega)
      rw[aY (by omega)]at hA
      have J:=dD.1 (some ⟨g,0,none⟩) (N+1) f wr hA (by omega) (by omega)
      have hO:Own wr w.heap.size (.slice (some ⟨g,0,none⟩) (tl f) (N+1)) (az (val xs+val ys)):=by
       have h1:=Own.of_row (base:=w.heap.size) (k:=tl f) a (by rw[E.out];exact ao _) (by have:=dJ f;omega) m (by unfold maxLen;omega)
       have h2:f.take (tl f)=az (val xs+val ys):=by rw[<-u,<-eZ f l];rfl
       rw[h2]at h1
       exact h1
      rw[m]at J
      obtain⟨T,hT⟩:=aA (tl f)
      rw[<-hT]at J hO
      clear hA a m l U u hj hT HW W E A z t hwx hwy i2
      go_wp2_with (first|(go_at_call 241;refine J.mono ?_;rintro e w' ⟨rfl,rfl⟩))
      exact BR ⟨_,rfl,hO,n⟩
     ·have cf:j<=N:=by
       have:=vY xs ys f j hwx hwy (by omega) u
       omega
      have e3:=World.rowIs.cell a (i:=j) (by omega)
      have e4:=World.rowIs.frozen a j
      have wz:=l j
      obtain⟨V,B⟩:=aA (f.getD j 0)
      obtain⟨S,F⟩:∃S:Nat,S=V.toNat+(0:Int).toNat+1:=⟨_,rfl⟩
      have r:=jT f j 1 S _ V 0 (by omega) B.symm F u
      rw[show(0:Int).toNat=0 from rfl,aM,bi]at r
      rw[<-B]at wz
      rw[show(0:Int).toNat=0 from rfl]at F
      have o:=sL V 0 1 wz (by omega) (by omega)
      have f1:(V+0+1)%4294967296=((S%4294967296:Nat):Int):=by omega
      have f2:(V+0+1)/4294967296=((S/4294967296:Nat):Int):=by omega
      rw[f1,f2]at o
      have x:S/4294967296<=1:=by omega
      obtain⟨Z,hZ⟩:∃Z:Int,Z=((S%4294967296:Nat):Int):=⟨_,rfl⟩
      obtain⟨H,y⟩:∃H:Nat,H=S/4294967296:=⟨_,rfl⟩
      rw[<-hZ]at o r
      rw[<-y]at o r x
      have I:Wd (f.set j Z):=l.set j Z (by omega)
      have R:(f.set j Z).length=N+1:=by rw[bg];exact m
      have hR:Rw (wr.setCell ⟨g,j,none⟩ (.int .u32 Z)) g (N+1) (f.set j Z):=a.set j Z (by omega)
      have hK:Kp w (wr.setCell ⟨g,j,none⟩ (.int .u32 Z)):=n.setCell (by rw[E.out];exact ao _) _
      have ce:wr.cell? ⟨g,j,none⟩=some (.int .u32 V):=by rw[B];exact e3
      have i0:(0:Int)<=(j:Int):=by omega
      have i3:(j:Int)<(N:Int)+1:=by omega
      clear e3 a m l U u F hZ y B wz f1 f2 HW W E A z t hwx hwy i2 n
      go_wp2_with (first|(go_at_call 266;refine(o _).mono ?_;rintro e w' ⟨rfl,rfl⟩))
      exact⟨⟨j+1,H,f.set j Z,rfl,by go_num,hR,R,I,x,r,hK,by omega⟩,by simp[intOf];omega⟩)
theorem Arr.take {w:World}{p:Option Addr}{xs:List Int}(h:Arr w p xs)(k:Nat):Arr w p (xs.take k):=by
 rcases h with h|⟨b,off,h1,h2⟩
 ·subst h;exact Or.inl (by simp)
 ·refine Or.inr ⟨b,off,h1,fun j hj=>?_⟩
  have a:j<k∧j<xs.length:=by simp at hj;omega
  rw[h2 j a.2];simp[List.getD,a.1]
theorem zf (p q:Option Addr)(c d:Nat)(xs ys:List Int)(w:World)(hx:Arr w p xs)(hy:Arr w q ys)(hwx:Wd xs)(hwy:Wd ys)(lx:xs.length<1099511627775)(ly:ys.length<1099511627775) :
  Calls prog 245 #[.slice p xs.length c,.slice q ys.length d] w fun e w'=>∃v,e=.returned v∧Own w' w.heap.size v (az (val xs+val ys))∧Kp w w':=by
 by_cases h:ys.length<=xs.length
 ·exact pQ.2 p q c d xs ys w hx hy hwx hwy lx h
 ·rw[dz]
  exact pQ.1 q p d c ys xs w hy hx hwy hwx ly (by omega)
theorem Bq (p q:Option Addr)(c d:Nat)(xs ys:List Int)(w:World)(hx:Arr w p xs)(hy:Arr w q ys)(hwx:Wd xs)(hwy:Wd ys)(lx:xs.length<1099511627775)(ly:ys.length<1099511627775)(hc:xs.length<=c)(hd:ys.length<=d) :
  Calls prog 211 #[.slice p xs.length c,.slice q ys.length d] w fun e w'=>∃v,e=.returned (.tuple #[v,.int .i64 (na (val xs) (val ys)).2])∧Own w' w.heap.size v (na (val xs) (val ys)).1∧Kp w w':=by
 have l:=dD.1 p c xs w hx (by omega) hc
 have h:=dD.1 q d ys w hy (by omega) hd
 have f:=gi p (tl xs) c
 have b:=gi q (tl ys) d
 have a:=zf p q c d (nz xs) (nz ys) w (hx.take _) (hy.take _) (hwx.take _) (hwy.take _) (by rw[bM];have:=dJ xs;omega) (by rw[bM];have:=dJ ys;omega)
 rw[bM,bM,eO,eO]at a
 have A:=fS xs hwx
 have z:=fS ys hwy
 obtain⟨N,u⟩:=aA xs.length
 obtain⟨M,n⟩:=aA ys.length
 obtain⟨S,y⟩:=aA (tl xs)
 obtain⟨T,r⟩:=aA (tl ys)
 rw[<-u,<-y]at l
 rw[<-n,<-r]at h
 rw[<-y]at f a A
 rw[<-r]at b a z
 rw[<-u,<-n]
 by_cases o:16384<S
 ·rw[af o]at f
  have m:na (val xs) (val ys)=([],2):=by unfold na;rw[if_pos (Or.inl (by omega))]
  rw[m]
  clear hx hy hwx hwy lx ly hc hd u n y r b a o A z m
  go_enter func211,ntmps211
  go_wp2_with fail
  refine l.mono ?_;rintro e w' ⟨rfl,rfl⟩
  go_wp2_with fail
  refine h.mono ?_;rintro e w' ⟨rfl,rfl⟩
  go_wp2_with fail
  refine(f _).mono ?_;rintro e w' ⟨rfl,rfl⟩
  go_wp2
  exact BR ⟨_,rfl,Own.nil _ _,Kp.refl _⟩
 rw[ae o]at f
 by_cases c2:16384<T
 ·rw[af c2]at b
  have m:na (val xs) (val ys)=([],2):=by unfold na;rw[if_pos (Or.inr (by omega))]
  rw[m]
  clear hx hy hwx hwy lx ly hc hd u n y r a o c2 A z m
  go_enter func211,ntmps211
  go_wp2_with fail
  refine l.mono ?_;rintro e w' ⟨rfl,rfl⟩
  go_wp2_with fail
  refine h.mono ?_;rintro e w' ⟨rfl,rfl⟩
  go_wp2_with fail
  refine(f _).mono ?_;rintro e w' ⟨rfl,rfl⟩
  go_wp2_with fail
  refine(b _).mono ?_;rintro e w' ⟨rfl,rfl⟩
  go_wp2
  exact BR ⟨_,rfl,Own.nil _ _,Kp.refl _⟩
 rw[ae c2]at b
 have F:na (val xs) (val ys)=if 16384<aS (val xs+val ys) then ([],2) else (az (val xs+val ys),0):=by unfold na;rw[if_neg (by omega)]
 obtain⟨K,C⟩:=aA (val xs+val ys)
 rw[F,<-C]
 rw[<-C]at a
 clear hx hy hwx hwy hc hd u n y r o c2 F C A z
 by_cases c3:16384<aS K
 ·rw[if_pos c3]
  go_enter func211,ntmps211
  go_wp2_with fail
  refine l.mono ?_;rintro e w' ⟨rfl,rfl⟩
  go_wp2_with fail
  refine h.mono ?_;rintro e w' ⟨rfl,rfl⟩
  go_wp2_with fail
  refine(f _).mono ?_;rintro e w' ⟨rfl,rfl⟩
  go_wp2_with fail
  refine(b _).mono ?_;rintro e w' ⟨rfl,rfl⟩
  go_wp2_with fail
  refine a.mono ?_;rintro e B ⟨v,rfl,k,g⟩
  obtain⟨x,s,rfl,E,_⟩:=k.arr
  have i:=io x (az K).length s
  have c4:(16384<(az K).length):=c3
  rw[if_pos c4]at i
  clear c4
  obtain⟨D,j⟩:=aA ((az K).length)
  have t:Own B w'.heap.size (.slice x D s) (az K):=by rw[j];exact k
  rw[<-j]at i|-
  clear E l h f b a j c3 k
  go_wp2_with fail
  refine(i _).mono ?_;rintro e G ⟨rfl,rfl⟩
  go_wp2
  exact BR ⟨_,rfl,Own.nil _ _,g⟩
 ·rw[if_neg c3]
  go_enter func211,ntmps211
  go_wp2_with fail
  refine l.mono ?_;rintro e w' ⟨rfl,rfl⟩
  go_wp2_with fail
  refine h.mono ?_;rintro e w' ⟨rfl,rfl⟩
  go_wp2_with fail
  refine(f _).mono ?_;rintro e w' ⟨rfl,rfl⟩
  go_wp2_with fail
  refine(b _).mono ?_;rintro e w' ⟨rfl,rfl⟩
  go_wp2_with fail
  refine a.mono ?_;rintro e B ⟨v,rfl,k,g⟩
  obtain⟨x,s,rfl,E,_⟩:=k.arr
  have i:=io x (az K).length s
  have c4:¬(16384<(az K).length):=c3
  rw[if_neg c4]at i
  clear c4
  obtain⟨D,j⟩:=aA ((az K).length)
  have t:Own B w'.heap.size (.slice x D s) (az K):=by rw[j];exact k
  rw[<-j]at i|-
  clear E l h f b a j c3 k
  go_wp2_with fail
  refine(i _).mono ?_;rintro e G ⟨rfl,rfl⟩
  go_wp2
  exact BR ⟨_,rfl,t,g⟩

end Go.Proofs.YtmpjcknaelgnoaaGreatDoor
