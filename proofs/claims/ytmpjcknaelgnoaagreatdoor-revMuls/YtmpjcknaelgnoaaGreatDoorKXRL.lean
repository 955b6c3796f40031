import Derived.Test.YtmpjcknaelgnoaaGreatDoorKBW
set_option maxHeartbeats 3000000
set_option maxRecDepth 20000
namespace Go.Proofs.YtmpjcknaelgnoaaGreatDoor
open Go.RowKit Tryz
theorem kR (p:Option Addr)(c m:Nat)(xs:List Int)(w:World)(hx:Arr w p xs)(hwx:Wd xs)(lx:xs.length<=1048576)(hm:m<=16777216) :
  Calls prog 171 #[.slice p xs.length c,.int .i64 (m:Int)] w fun e w'=>∃v,e=.returned v∧Own w' w.heap.size v (az (val xs*2^m))∧Kp w w':=by
 have W:=dD.2 p c xs w hx (by omega)
 have G:=dJ xs
 have f:=el xs
 obtain⟨N,M⟩:=aA xs.length
 obtain⟨S,hS⟩:=aA (tl xs)
 rw[<-hS]at W G f
 rw[<-M]at W G lx|-
 rcases bS S with h0|h0
 ·subst h0
  have e0:val xs=0:=by rw[<-f];rfl
  rw[e0,aM,dF]
  clear hx hwx lx G M hS f e0 hm
  go_enter func171,ntmps171
  go_wp2_with fail
  refine SM W ?_
  go_wp2
  exact BR ⟨_,rfl,Own.nil _ _,Kp.refl _⟩
 ·obtain⟨o,ho⟩:=aA (m/32)
  obtain⟨s,T⟩:=aA (m%32)
  obtain⟨L,hL⟩:=aA (o+S+1)
  have h:=kX m
  rw[<-ho,<-T]at h
  have bp:∀w:World,(Instr.makeSlice 55 (.int .i64 ((o:Int)+(S:Int)+1)) (.int .i64 ((o:Int)+(S:Int)+1))).run prog w=.ok (.slice (some ⟨w.heap.size,0,none⟩) L L) (w.alloc (.cells (madeCells #[.int .u32 0] L) 120)):=by
   have:=mN L (by omega)
   have e:((L:Nat):Int)=(o:Int)+(S:Int)+1:=by omega
   rw[e]at this
   exact this
  have an:Kp w (w.alloc (.cells (madeCells #[.int .u32 0] L) 120)):=(Kp.refl w).alloc _
  have A:Rw (w.alloc (.cells (madeCells #[.int .u32 0] L) 120)) w.heap.size L (List.replicate L 0):=World.rowIs.congr (World.rowIs_made w (.int .u32 0) L 120) (fun j _=>by rw[cJ])
  obtain⟨t,q⟩:=aA (List.replicate L (0:Int))
  have I:t.length=L:=by rw[q];simp
  have D:Wd t:=by rw[q];exact pB _
  have l:∀j,t.getD j 0=0:=fun j=>by rw[q];exact cJ _ _
  have E:=fG t l
  rw[<-q]at A
  obtain⟨g,R⟩:=aA w.heap.size
  rw[<-R]at A
  have f1:(m:Int)/32=(o:Int):=by omega
  have f2:(m:Int)%32=(s:Int):=by omega
  have f3:IntKind.u64.wrap (s:Int)=(s:Int):=by rw[IntKind.wrap_u64];omega
  have t0:((S:Int) == 0)=false:=by simp;omega
  have b0:(0:Int)<=(s:Int):=by omega
  have b3:S<=1048576:=by omega
  have lo:o<=524288:=by omega
  have HX:Hid (Arr w p xs∧Wd xs∧val (xs.take S)=val xs∧N=xs.length∧S<=N∧L=o+S+1∧s<32∧g=w.heap.size∧2^s*4294967296^o=2^m):=⟨hx,hwx,f,M,G,hL,by omega,R,h⟩
  clear hx hwx M hS f G hL ho T h q lx h0 hm
  go_enter func171,ntmps171
  go_wp2_with fail
  refine SM W ?_
  clear W
  go_wp2
  rw[<-R]
  clear bp R t0
  go_loopw [8] (fun i wr=>∃(k C:Nat)(a:List Int),i=.int .i64 k∧k<=S∧Rw wr g L a∧a.length=L∧Wd a∧a.getD (o+k) 0=(C:Int)∧C<2^s∧val a=val (xs.take k)*2^s*4294967296^o∧(∀j,o+k<j->a.getD j 0=0)∧Kp w wr) (fun i _=>S-(intOf i).toNat)
  case atStart=>exact⟨0,0,t,rfl,aW _,A,I,D,l _,ah s,by rw[E];simp[val],fun j _=>l j,an⟩
  case round =>
   clear A I D l E an
   obtain⟨k,C,a,rfl,hk,d,z,y,B,hC,hv,hz,n⟩:=hrel
   obtain⟨hx,hwx,f,M,G,hL,T,R,h⟩:=HX.out
   by_cases ck:k<S
   ·obtain⟨b,b5,rfl,hc⟩:=hx.at (k:=k) (by omega)
    have e0:=hc k (by omega)
    have e1:=ac n e0
    have wx:=hwx k
    obtain⟨X,hX⟩:∃X:Nat,(X:Int)=xs.getD k 0:=⟨(xs.getD k 0).toNat,by omega⟩
    rw[<-hX]at e1
    have a0:2^s<=2147483648:=by
     have:=al (show 0<2 by decide) (show s<=31 by omega)
     exact aT this (by decide)
    have F:X<4294967296:=by omega
    obtain⟨w1,w2,w3,U⟩:=pX X C s T F hC
    have u:X*2^s<18446744073709551616:=by
     have a1:X*2^s<=4294967295*2147483648:=dB (by omega) a0
     omega
    have O:X*2^s/4294967296=X/2^(32-s):=by omega
    obtain⟨V,hV⟩:=aA (X*2^s)
    obtain⟨H,hH⟩:=aA (X/2^(32-s))
    rw[<-hV]at w1 w2 U u O
    rw[<-hH]at w3 U O
    have f4:IntKind.u64.wrap (X:Int)=(X:Int):=by rw[IntKind.wrap_u64];omega
    have f5:IntKind.u64.wrap ((X:Int)*2^s)=(V:Int):=by
     have:(X:Int)*2^s=(V:Int):=by rw[hV,aK,Int.natCast_pow];rfl
     rw[this,IntKind.wrap_u64];omega
    have f6:=kK V u
    obtain⟨Y,hY⟩:=aA (V%4294967296)
    rw[<-hY]at f6 w1 w2 U
    have f7:IntKind.u32.wrap (Y:Int)=(Y:Int):=by rw[IntKind.wrap_u32];omega
    have f8:=u32_or_nat C Y (by omega) (by omega)
    rw[eH,w1]at f8
    have f9:(V:Int)/4294967296=(H:Int):=by omega
    have ca:IntKind.u32.wrap (H:Int)=(H:Int):=by rw[IntKind.wrap_u32];omega
    obtain⟨Z,hZ⟩:=aA (Y+C)
    rw[<-hZ]at f8 w2 U
    have Q:=fK a (o+k) (Z:Int) (by omega)
    rw[B,av,av]at Q
    have ad:(a.set (o+k) (Z:Int)).getD (o+k+1) 0=0:=by
     have e2:(a.set (o+k) (Z:Int)).getD (o+k+1) 0=a.getD (o+k+1) 0:=by simp[List.getD]
     rw[e2];exact hz _ (by omega)
    have r:=fK (a.set (o+k) (Z:Int)) (o+k+1) (H:Int) (by rw[bg];omega)
    rw[ad,av]at r
    have J:=jl xs (2^s) o k
    rw[show(xs.getD k 0).toNat=X from by omega,<-hV]at J
    have aw:val ((a.set (o+k) (Z:Int)).set (o+k+1) (H:Int))=val (xs.take (k+1))*2^s*4294967296^o:=by
     rw[J,<-hv]
     rw[aF]at r
     generalize 4294967296^(o+k)=P at Q r|-
     have e:=congrArg (· * P) U
     simp only[aH]at e
     have e3:H*(P*4294967296)=4294967296*H*P:=by simp only[ap,aZ]
     simp at r
     omega
    have a5:Wd ((a.set (o+k) (Z:Int)).set (o+k+1) (H:Int)):=(y.set (o+k) Z (by omega)).set _ _ (by omega)
    have br:((a.set (o+k) (Z:Int)).set (o+k+1) (H:Int)).length=L:=by rw[bg,bg];exact z
    have bo:((a.set (o+k) (Z:Int)).set (o+k+1) (H:Int)).getD (o+(k+1)) 0=(H:Int):=by
     rw[<-dH];simp[List.getD,show o+k+1<a.length from by omega]
    have bm:∀j,o+(k+1)<j->((a.set (o+k) (Z:Int)).set (o+k+1) (H:Int)).getD j 0=0:=fun j W=>by
     have e1:((a.set (o+k) (Z:Int)).set (o+k+1) (H:Int)).getD j 0=a.getD j 0:=by simp[List.getD,show ¬o+k=j from by omega,show ¬o+k+1=j from by omega]
     rw[e1];exact hz j (by omega)
    have e3:=World.rowIs.cell d (i:=o+k) (by omega)
    rw[B]at e3
    have e4:=World.rowIs.frozen d (o+k)
    have x:=d.set (o+k) (Z:Int) (by omega)
    have e5:=World.rowIs.cell x (i:=o+k+1) (by omega)
    have e6:=World.rowIs.frozen x (o+k+1)
    have a7:=x.set (o+k+1) (H:Int) (by rw[bg];omega)
    have ar:w.heap.size<=g:=by omega
    have hK:=(n.setCell (p:=⟨g,o+k,none⟩) ar (.int .u32 (Z:Int))).setCell (p:=⟨g,o+k+1,none⟩) ar (.int .u32 (H:Int))
    have i0:(0:Int)<=(k:Int):=by omega
    have i1:(k:Int)<(S:Int):=by omega
    have i2:(k:Int)<(N:Int):=by omega
    have i3:(0:Int)<=(o:Int)+(k:Int):=by omega
    have i4:(o:Int)+(k:Int)<(L:Int):=by omega
    have i5:(0:Int)<=(o:Int)+(k:Int)+1:=by omega
    have i6:(o:Int)+(k:Int)+1<(L:Int):=by omega
    have HH:Hid (H<2^s):=w3
    clear HX hx hwx f M G hL T R h hc e0 wx hX hV hH hY hZ B hC hv hz d z y n a0 u O w1 w2 w3 U Q r ad J x F
    go_wp2
    exact⟨⟨k+1,H,(a.set (o+k) (Z:Int)).set (o+k+1) (H:Int),by go_num,by omega,a7,br,a5,bo,HH.out,aw,bm,hK⟩,by simp[intOf];omega⟩
   ·have ba:k=S:=by omega
    subst ba
    rw[f,ak,h]at hv
    have hA:=d.arr L (ao _) (by omega)
    rw[aY (by omega)]at hA
    have K:=iy (some ⟨g,0,none⟩) L a wr hA (by omega)
    rw[eZ a y,hv,z]at K
    have bl:=n.size
    have i1:¬((k:Int)<(k:Int)):=by omega
    clear HX hx hwx f M G hL T R h hA d z y B hC hv hz hk ck
    go_wp2_with fail
    refine K.mono ?_
    rintro e w2 ⟨v2,rfl,bc,bn⟩
    clear K
    go_wp2
    exact BR ⟨v2,rfl,bc.mono bl,n.trans bn⟩
theorem sZ (p:Option Addr)(c m:Nat)(xs:List Int)(w:World)(hx:Arr w p xs)(hwx:Wd xs)(lx:xs.length<=1048576)(hm9:(m:Int)<9223372036854775808) :
  Calls prog 170 #[.slice p xs.length c,.int .i64 (m:Int)] w fun e w'=>∃v,e=.returned (.tuple #[v,.bool (decide (val xs%2^m≠0))])∧Own w' w.heap.size v (az (val xs/2^m))∧Kp w w':=by
 have h1:=dD.2 p c xs w hx (by omega)
 have W:=dJ xs
 obtain⟨o,ho⟩:=aA (m/32)
 obtain⟨s,hs⟩:=aA (m%32)
 have ad:=tC (val xs) m
 rw[<-ho,<-hs]at ad
 have a7:=kX m
 rw[<-ho,<-hs,ap]at a7
 have d:s<32:=by omega
 have f1:(m:Int)/32=(o:Int):=by omega
 have f2:(m:Int)%32=(s:Int):=by omega
 have bE:tl xs=0->val xs=0:=fun h=>by rw[<-el xs,h];rfl
 have bB:tl xs≠0->val xs≠0:=fun h h2=>by
  have:=kM xs hwx 0 (by omega)
  rw[h2]at this
  simp at this
 rcases bS (tl xs)with h0|h0
 ·have e0:=bE h0
  rw[e0,eR,ei,dF]
  rw[h0]at h1
  obtain⟨N,hN⟩:=aA xs.length
  rw[<-hN]at h1|-
  have hb:decide ((0:Nat)≠0)=false:=by simp
  rw[hb]
  clear hx hwx lx W hN h0 e0 bE bB ad a7 d ho hs hm9 hb
  go_enter func170,ntmps170
  go_wp2_with fail
  refine SM h1 ?_
  go_wp2
  exact BR ⟨_,rfl,Own.nil _ _,Kp.refl _⟩
 have cn:=bB (by omega)
 by_cases co:tl xs<=o
 ·have b5:val xs<4294967296^o:=by
   have h2:=dE xs hwx (tl xs)
   rw[el]at h2
   exact aE h2 (al (by decide) co)
  have e0:val xs/2^m=0:=by rw[ad,bh b5,ei]
  have e2:val xs%2^m=val xs:=aX (by rw[<-a7];exact aE b5 (fu _ (ah s)))
  have hb:decide (val xs%2^m≠0)=true:=af (by rw[e2];exact cn)
  rw[e0,hb,dF]
  obtain⟨N,hN⟩:=aA xs.length
  obtain⟨S,hS⟩:=aA (tl xs)
  rw[<-hN,<-hS]at h1
  rw[<-hN]
  rw[<-hS]at co h0
  have t0:((S:Int) == 0)=false:=by simp;omega
  have t1:(S:Int)<=(o:Int):=by omega
  have f3:=El (o:Int) (Int.natCast_nonneg _) (by omega)
  clear hx hwx lx W hN h0 e0 bE bB ad a7 d ho hs hm9 hb hS co cn b5 e2
  go_enter func170,ntmps170
  go_wp2_with fail
  refine SM h1 ?_
  go_wp2
  exact BR ⟨_,rfl,Own.nil _ _,Kp.refl _⟩
 obtain⟨b,de,rfl,da⟩:=hx.at (k:=0) (by omega)
 have bp:=bM xs
 have hg:∀j,j<tl xs->(nz xs).getD j 0=xs.getD j 0:=fun j hj=>by unfold nz;simp[List.getD,hj]
 have ch:=eO xs
 have a6:Wd (nz xs):=hwx.take _
 obtain⟨l,cU⟩:=aA (nz xs)
 rw[<-cU]at bp hg ch a6
 rw[<-ch]at ad|-
 have K:∀j,j<l.length->w.cell? ⟨b,de+j,none⟩=some (.int .u32 (l.getD j 0)):=fun j hj=>by rw[hg j (by omega)];exact da j (by omega)
 obtain⟨S,hS⟩:=aA (tl xs)
 obtain⟨N,hN⟩:=aA xs.length
 rw[<-hS]at h1 W co h0 bp
 rw[<-hN]at h1 W lx|-
 have wX:=a6 o
 obtain⟨O,cd⟩:∃O:Nat,l.getD o 0=(O:Int):=⟨(l.getD o 0).toNat,by omega⟩
 have b2:=xG l a6 o s O d (by omega) cd
 rw[a7]at b2
 have bc:=uT O s d
 rw[(jP l a6 o (by omega)).1]at ad
 have A:(l.drop o).length=S-o:=by rw[List.length_drop,bp]
 have n:=a6.drop o
 have f:∀j,(l.drop o).getD j 0=l.getD (o+j) 0:=fun j=>by simp[List.getD,List.getElem?_drop]
 obtain⟨ys,c5⟩:=aA (l.drop o)
 rw[<-c5]at ad A n f
 rw[ad]
 obtain⟨RB,a3⟩:=aA (decide (val l%2^m≠0))
 rw[<-a3]
 have e1:=K o (by omega)
 rw[cd]at e1
 obtain⟨A1,ci⟩:=aA (O*2^(31-s)%4294967296)
 rw[<-ci]at bc
 have f4:IntKind.u32.wrap ((O:Int)*2^(31-s))=(A1:Int):=by rw[IntKind.wrap_u32,ci];exact(m5 O (31-s)).symm
 obtain⟨A2,cg⟩:=aA (A1*2%4294967296)
 have f5:IntKind.u32.wrap ((A1:Int)*2)=(A2:Int):=by rw[IntKind.wrap_u32,cg];omega
 rw[<-cg]at bc
 have f6:IntKind.u64.wrap (s:Int)=(s:Int):=by rw[IntKind.wrap_u64];omega
 have f7:IntKind.u64.wrap (31-(s:Int))=31-(s:Int):=by rw[IntKind.wrap_u64];omega
 have c7:(31-(s:Int)).toNat=31-s:=by omega
 have c8:(0:Int)<=31-(s:Int):=by omega
 have i9:(0:Int)<=(s:Int):=by omega
 have t0:((S:Int) == 0)=false:=by simp;omega
 have t1:¬((S:Int)<=(o:Int)):=by omega
 have iz:(0:Int)<=(o:Int):=by omega
 have i1:(o:Int)<(N:Int):=by omega
 have lo:o<=1048576:=by omega
 have cj:∃LB:Bool,LB=decide (O%2^s≠0)∧((A2:Int) != 0)=LB∧(LB=true->(0:Int)<(s:Int)):=by
  refine⟨_,rfl, ?_,fun h=>?_⟩
  ·by_cases e:O%2^s=0
   ·have:A2=0:=by rw[bc,e,aM]
    simp[e,this]
   ·have:0<A2:=by rw[bc];exact aQ (by omega) (ah _)
    simp[e];omega
  ·by_cases e:s=0
   ·rw[e,aB,fW]at h;simp at h
   ·omega
 obtain⟨LB,c1,t2,t3⟩:=cj
 have J:Hid (Wd l∧l.length=S∧ys.length=S-o∧Wd ys∧(∀j,j<l.length->w.cell? ⟨b,de+j,none⟩=some (.int .u32 (l.getD j 0)))∧(∀j,ys.getD j 0=l.getD (o+j) 0)∧s<32∧S<=N):=⟨a6,bp,A,n,K,f,d,W⟩
 have HR:Hid (RB=decide (val l%2^m≠0)∧(val l%2^m≠0 ↔ O%2^s≠0∨val (l.take o)≠0)∧LB=decide (O%2^s≠0)):=⟨a3,b2,c1⟩
 have d1:S<=1048576:=by omega
 have d4:o<S:=by omega
 clear hx hwx lx W hN h0 bE bB ad a7 d ho hs hm9 hS co cn da bp hg ch a6 cU K wX cd b2 bc A n f c5 a3 ci cg c1
 go_enter func170,ntmps170
 go_wp2_with fail
 refine SM h1 ?_
 clear h1
 rcases LB with _|_
 ·go_wp2
  clear t2 t3 e1 f4 f5 f7 c8 c7 t0 t1
  go_loop [8,9] (fun lb i=>∃(k:Nat)(B:Bool),i=.int .i64 k∧k<=o∧lb=.bool B∧(B=true ↔ O%2^s≠0∨val (l.take k)≠0)) (fun _ i=>o-(intOf i).toNat)
  case atStart=>exact⟨0,false,rfl,aW _,(by rfl),by
   have h:=HR.out.2.2
   simp at h
   simp[val,h]⟩
  case round =>
   obtain⟨k,B,rfl,hk,rfl,hB⟩:=hrel
   obtain⟨z,G,A,n,K,f,d,W⟩:=J.out
   by_cases ck:k<o
   ·have e1:=K k (by omega)
    have wz:=z k
    have L:=bd l k
    obtain⟨X,hX⟩:∃X:Nat,l.getD k 0=(X:Int):=⟨(l.getD k 0).toNat,by omega⟩
    rw[hX]at e1 L
    rw[av]at L
    have hp:0<4294967296^k:=aP (by decide)
    have j0:(0:Int)<=(k:Int):=by omega
    have j1:(k:Int)<(o:Int):=by omega
    have j2:(k:Int)<(N:Int):=by omega
    cases B with
    | true =>
      have HB:Hid (O%2^s≠0∨val (l.take (k+1))≠0):=by
       show O%2^s≠0∨val (l.take (k+1))≠0
       rcases hB.1 rfl with q|q
       ·exact Or.inl q
       ·right;omega
      clear J HR z G A n K f d W hX L hp wz hB
      go_wp2
      exact⟨⟨k+1,true,by go_num,by omega,rfl,⟨fun _=>HB.out,fun _=>rfl⟩⟩,by simp[intOf];omega⟩
    | false =>
      have a1:¬(O%2^s≠0∨val (l.take k)≠0):=fun h=>by have:=hB.2 h;cases this
      by_cases cx:X=0
      ·have HB:Hid (¬(O%2^s≠0∨val (l.take (k+1))≠0)):=by
        show ¬(O%2^s≠0∨val (l.take (k+1))≠0)
        rw[L,cx,aM,bi];exact a1
       have t4:((X:Int) != 0)=false:=by simp[cx]
       clear J HR z G A n K f d W hX L hp wz hB a1 cx
       go_wp2
       exact⟨⟨k+1,false,by go_num,by omega,rfl,⟨fun h=>(by cases h),fun h=>absurd h HB.out⟩⟩,by simp[intOf];omega⟩
      ·have HB:Hid (O%2^s≠0∨val (l.take (k+1))≠0):=by
        show O%2^s≠0∨val (l.take (k+1))≠0
        right
        have:0<X*4294967296^k:=aQ (by omega) hp
        omega
       have t4:((X:Int) != 0)=true:=by simp;omega
       clear J HR z G A n K f d W hX L hp wz hB a1 cx
       go_wp2
       exact⟨⟨k+1,true,by go_num,by omega,rfl,⟨fun _=>HB.out,fun _=>rfl⟩⟩,by simp[intOf];omega⟩
   ·have cc:k=o:=by omega
    subst cc
    have a3:RB=B:=by
     rw[HR.out.1]
     cases B with
     | true=>exact af (HR.out.2.1.2 (hB.1 rfl))
     | false=>exact ae (fun h=>by have:=hB.2 (HR.out.2.1.1 h);cases this)
    subst a3
    have j1:¬((k:Int)<(k:Int)):=by omega
    obtain⟨i0,br,bl,bm,bf⟩:=sj
    clear HR hB z G A n K f d W hk ck
    go_wp2
    clear j1
    obtain⟨o,ho⟩:=aA k
    subst ho
    go_loopw [10,11] (fun a ii wr=>∃(v:Value)(k:Nat)(Ls:List Int),v=a∧ii=.int .i64 ((o:Int)+(k:Int))∧o+k<=S∧Own wr w.heap.size v Ls∧Kp w wr∧Ls.length=k∧Wd Ls∧(∀j,j<k->Ls.getD j 0=((val ys/2^s/4294967296^j%4294967296:Nat):Int))) (fun _ i _=>S-(intOf i).toNat)
    case atStart=>exact⟨_,0,[],rfl,by simp,by omega,Own.nil _ _,Kp.refl _,rfl,Wd.nil,fun j h=>by omega⟩
    case round =>
     obtain⟨v,k,Ls,rfl,rfl,hk,g,C,E,P,M⟩:=hrel
     obtain⟨z,G,A,n,K,f,d,W⟩:=J.out
     by_cases ck:o+k<S
     ·have e1:=ac C (K (o+k) (by omega))
      have w1:=z (o+k)
      have w2:=z (o+k+1)
      obtain⟨X,ab⟩:∃X:Nat,l.getD (o+k) 0=(X:Int):=⟨(l.getD (o+k) 0).toNat,by omega⟩
      obtain⟨Y,T⟩:∃Y:Nat,l.getD (o+k+1) 0=(Y:Int):=⟨(l.getD (o+k+1) 0).toNat,by omega⟩
      have dd:X<4294967296:=by omega
      have cV:Y<4294967296:=by omega
      have hX:ys.getD k 0=(X:Int):=by rw[f k];exact ab
      have aj:ys.getD (k+1) 0=(Y:Int):=by rw[f (k+1)];exact T
      have r:=mD ys n k s X Y d (by omega) hX aj
      rw[ab]at e1
      clear w1 w2
      by_cases cl:o+k+1<S
      ·skip
       have f3:IntKind.u64.wrap (X:Int)=(X:Int):=by rw[IntKind.wrap_u64];omega
       have e2:=ac C (K (o+k+1) (by omega))
       rw[T]at e2
       have f4:IntKind.u64.wrap (Y:Int)=(Y:Int):=by rw[IntKind.wrap_u64];omega
       have f5:IntKind.u64.wrap ((Y:Int)*4294967296)=((Y*4294967296:Nat):Int):=by rw[IntKind.wrap_u64];omega
       have f6:=bits_or_u64_nat X (Y*4294967296) (by omega) (by omega)
       have e3:X ||| Y*4294967296=X+Y*4294967296:=fZ X Y 32 (by omega)
       rw[e3]at f6
       obtain⟨YB,bb⟩:=aA (Y*4294967296)
       rw[<-bb]at f5 f6 r
       obtain⟨V,hV⟩:=aA (X+YB)
       rw[<-hV]at f6 r
       have I:V<18446744073709551616:=by omega
       obtain⟨Q,hQ⟩:=aA (V/2^s)
       have f7:(V:Int)/2^s=(Q:Int):=by rw[hQ];push_cast;rfl
       have H:Q<18446744073709551616:=by rw[hQ];exact bs (cS _ _) I
       have f8:=kK Q H
       rw[<-hQ]at r
       obtain⟨Z,hZ⟩:=aA (Q%4294967296)
       rw[<-hZ]at f8 r
       have f9:IntKind.u32.wrap (Z:Int)=(Z:Int):=by rw[IntKind.wrap_u32];omega
       have a5:Wd (Ls ++ [(Z:Int)]):=P.append (Wd.one (by omega))
       have HD:Hid (∀j,j<k+1->(Ls ++ [(Z:Int)]).getD j 0=((val ys/2^s/4294967296^j%4294967296:Nat):Int)):=fun j hj=>by
        by_cases e:j=k
        ·subst e;rw[r];simp[List.getD,E]
        ·rw[<-M j (by omega)];simp[List.getD,List.getElem?_append,show j<Ls.length from by omega]
       have R:=iJ g
       have t:wr.ownsRow w.heap.size 120 1 v k (Ls.map (Value.int .u32)):=by rw[<-E];exact g
       have U:=C.size
       have j0:(0:Int)<=(o:Int)+(k:Int):=by omega
       have j1:(o:Int)+(k:Int)<(N:Int):=by omega
       have j2:(o:Int)+(k:Int)<(S:Int):=by omega
       have j3:((o:Int)+(k:Int)+1<(S:Int)):=by omega
       have j4:(0:Int)<=(o:Int)+(k:Int)+1:=by omega
       have j5:(o:Int)+(k:Int)+1<(N:Int):=by omega
       have bt:k<=1048576:=by omega
       clear J z G A n K hX aj ab f r M P g hQ hZ I H hV bb e3 T
       go_wp2_with (first|(at_builtin;refine wpList_append_own _ rfl _ _ 55 rfl w.heap.size 120 i0 (.int .u32 0) 1 4 underlying55 br bl bm bf rfl (by decide) _ _ _ rfl (t.alloc _) ⟨wr.heap.size,0,none⟩ 1 1 [.int .u32 (Z:Int)] rfl rfl ?c1mf ?c2mf ?c3mf ?c4mf ?c5mf ?_))
       try case c1mf =>
        intro j' u F
        match j',F with
        | 0,F=>simp at F;subst F;simp[Addr.add]
       case c2mf=>(intro u hu;simp at hu;subst hu;rfl)
       case c3mf=>unfold maxLen;omega
       case c4mf=>omega
       case c5mf=>(simp;omega)
       intro v' w1 x y _
       have hO:Own w1 w.heap.size v' (Ls ++ [(Z:Int)]):=by refine Own.push ?_;rw[E];exact x
       have a2:Kp w w1:=(C.alloc _).grown y R
       clear x y t C R U
       go_wp2
       exact⟨⟨v',k+1,Ls ++ [(Z:Int)],rfl,by go_num,by omega,hO,a2,by simp[E],a5,HD.out⟩,by simp[intOf];omega⟩
      ·skip
       have f3:IntKind.u64.wrap (X:Int)=(X:Int):=by rw[IntKind.wrap_u64];omega
       have bu:Y=0:=by
        have h1:l.getD (o+k+1) 0=0:=by simp[List.getD,List.getElem?_eq_none (by omega:l.length<=o+k+1)]
        have h2:=aj
        rw[f (k+1)]at h2
        rw[show o+(k+1)=o+k+1 from by omega,h1]at h2
        omega
       rw[bu,aM,bi]at r
       obtain⟨V,hV⟩:=aA X
       rw[<-hV]at r e1 f3
       have I:V<18446744073709551616:=by omega
       obtain⟨Q,hQ⟩:=aA (V/2^s)
       have f7:(V:Int)/2^s=(Q:Int):=by rw[hQ];push_cast;rfl
       have H:Q<18446744073709551616:=by rw[hQ];exact bs (cS _ _) I
       have f8:=kK Q H
       rw[<-hQ]at r
       obtain⟨Z,hZ⟩:=aA (Q%4294967296)
       rw[<-hZ]at f8 r
       have f9:IntKind.u32.wrap (Z:Int)=(Z:Int):=by rw[IntKind.wrap_u32];omega
       have a5:Wd (Ls ++ [(Z:Int)]):=P.append (Wd.one (by omega))
       have HD:Hid (∀j,j<k+1->(Ls ++ [(Z:Int)]).getD j 0=((val ys/2^s/4294967296^j%4294967296:Nat):Int)):=fun j hj=>by
        by_cases e:j=k
        ·subst e;rw[r];simp[List.getD,E]
        ·rw[<-M j (by omega)];simp[List.getD,List.getElem?_append,show j<Ls.length from by omega]
       have R:=iJ g
       have t:wr.ownsRow w.heap.size 120 1 v k (Ls.map (Value.int .u32)):=by rw[<-E];exact g
       have U:=C.size
       have j0:(0:Int)<=(o:Int)+(k:Int):=by omega
       have j1:(o:Int)+(k:Int)<(N:Int):=by omega
       have j2:(o:Int)+(k:Int)<(S:Int):=by omega
       have j3:¬((o:Int)+(k:Int)+1<(S:Int)):=by omega
       have j4:(0:Int)<=(o:Int)+(k:Int)+1:=by omega
       have j5:True∨(o:Int)+(k:Int)+1<(N:Int):=by exact Or.inl trivial
       have bt:k<=1048576:=by omega
       clear J z G A n K hX aj ab f r M P g hQ hZ I H hV bu
       go_wp2_with (first|(at_builtin;refine wpList_append_own _ rfl _ _ 55 rfl w.heap.size 120 i0 (.int .u32 0) 1 4 underlying55 br bl bm bf rfl (by decide) _ _ _ rfl (t.alloc _) ⟨wr.heap.size,0,none⟩ 1 1 [.int .u32 (Z:Int)] rfl rfl ?c1lf ?c2lf ?c3lf ?c4lf ?c5lf ?_))
       try case c1lf =>
        intro j' u F
        match j',F with
        | 0,F=>simp at F;subst F;simp[Addr.add]
       case c2lf=>rfl
       case c3lf=>unfold maxLen;omega
       case c4lf=>omega
       case c5lf=>omega
       intro v' w1 x y _
       have hO:Own w1 w.heap.size v' (Ls ++ [(Z:Int)]):=by refine Own.push ?_;rw[E];exact x
       have a2:Kp w w1:=(C.alloc _).grown y R
       clear x y t C R U
       go_wp2
       exact⟨⟨v',k+1,Ls ++ [(Z:Int)],rfl,by go_num,by omega,hO,a2,by simp[E],a5,HD.out⟩,by simp[intOf];omega⟩
     ·have b4:o+k=S:=by omega
      have bo:=oV Ls ys n s (by omega) (fun j hj=>M j (by omega))
      obtain⟨p',c',rfl,hA,_⟩:=g.arr
      have aa:=iy p' c' Ls wr hA (by omega)
      rw[eZ Ls P,bo]at aa
      obtain⟨D,hD⟩:=aA Ls.length
      rw[<-hD]at aa|-
      have U:=C.size
      have j2:¬((o:Int)+(k:Int)<(S:Int)):=by omega
      have bt:k<=1048576:=by omega
      clear J z G A n K f d W g E P M bo hA hD b4 ck hk
      go_wp2_with fail
      refine aa.mono ?_
      rintro e w2 ⟨v2,rfl,cb,cm⟩
      clear aa
      go_wp2
      exact BR ⟨v2,rfl,cb.mono U,C.trans cm⟩
 ·have t4:=t3 rfl
  have t5:0<s:=by omega
  go_wp2
  clear t2 t3 t4 e1 f4 f5 f7 c8 c7 t0 t1
  go_loop [8,9] (fun lb i=>∃(k:Nat)(B:Bool),i=.int .i64 k∧k<=o∧lb=.bool B∧(B=true ↔ O%2^s≠0∨val (l.take k)≠0)) (fun _ i=>o-(intOf i).toNat)
  case atStart=>exact⟨0,true,rfl,aW _,(by rfl),by
   have h:=HR.out.2.2
   simp at h
   simp[val,h]⟩
  case round =>
   obtain⟨k,B,rfl,hk,rfl,hB⟩:=hrel
   obtain⟨z,G,A,n,K,f,d,W⟩:=J.out
   by_cases ck:k<o
   ·have e1:=K k (by omega)
    have wz:=z k
    have L:=bd l k
    obtain⟨X,hX⟩:∃X:Nat,l.getD k 0=(X:Int):=⟨(l.getD k 0).toNat,by omega⟩
    rw[hX]at e1 L
    rw[av]at L
    have hp:0<4294967296^k:=aP (by decide)
    have j0:(0:Int)<=(k:Int):=by omega
    have j1:(k:Int)<(o:Int):=by omega
    have j2:(k:Int)<(N:Int):=by omega
    cases B with
    | true =>
      have HB:Hid (O%2^s≠0∨val (l.take (k+1))≠0):=by
       show O%2^s≠0∨val (l.take (k+1))≠0
       rcases hB.1 rfl with q|q
       ·exact Or.inl q
       ·right;omega
      clear J HR z G A n K f d W hX L hp wz hB
      go_wp2
      exact⟨⟨k+1,true,by go_num,by omega,rfl,⟨fun _=>HB.out,fun _=>rfl⟩⟩,by simp[intOf];omega⟩
    | false =>
      have a1:¬(O%2^s≠0∨val (l.take k)≠0):=fun h=>by have:=hB.2 h;cases this
      by_cases cx:X=0
      ·have HB:Hid (¬(O%2^s≠0∨val (l.take (k+1))≠0)):=by
        show ¬(O%2^s≠0∨val (l.take (k+1))≠0)
        rw[L,cx,aM,bi];exact a1
       have t4:((X:Int) != 0)=false:=by simp[cx]
       clear J HR z G A n K f d W hX L hp wz hB a1 cx
       go_wp2
       exact⟨⟨k+1,false,by go_num,by omega,rfl,⟨fun h=>(by cases h),fun h=>absurd h HB.out⟩⟩,by simp[intOf];omega⟩
      ·have HB:Hid (O%2^s≠0∨val (l.take (k+1))≠0):=by
        show O%2^s≠0∨val (l.take (k+1))≠0
        right
        have:0<X*4294967296^k:=aQ (by omega) hp
        omega
       have t4:((X:Int) != 0)=true:=by simp;omega
       clear J HR z G A n K f d W hX L hp wz hB a1 cx
       go_wp2
       exact⟨⟨k+1,true,by go_num,by omega,rfl,⟨fun _=>HB.out,fun _=>rfl⟩⟩,by simp[intOf];omega⟩
   ·have cc:k=o:=by omega
    subst cc
    have a3:RB=B:=by
     rw[HR.out.1]
     cases B with
     | true=>exact af (HR.out.2.1.2 (hB.1 rfl))
     | false=>exact ae (fun h=>by have:=hB.2 (HR.out.2.1.1 h);cases this)
    subst a3
    have j1:¬((k:Int)<(k:Int)):=by omega
    obtain⟨i0,br,bl,bm,bf⟩:=sj
    clear HR hB z G A n K f d W hk ck
    go_wp2
    clear j1
    obtain⟨o,ho⟩:=aA k
    subst ho
    go_loopw [10,11] (fun a ii wr=>∃(v:Value)(k:Nat)(Ls:List Int),v=a∧ii=.int .i64 ((o:Int)+(k:Int))∧o+k<=S∧Own wr w.heap.size v Ls∧Kp w wr∧Ls.length=k∧Wd Ls∧(∀j,j<k->Ls.getD j 0=((val ys/2^s/4294967296^j%4294967296:Nat):Int))) (fun _ i _=>S-(intOf i).toNat)
    case atStart=>exact⟨_,0,[],rfl,by simp,by omega,Own.nil _ _,Kp.refl _,rfl,Wd.nil,fun j h=>by omega⟩
    case round =>
     obtain⟨v,k,Ls,rfl,rfl,hk,g,C,E,P,M⟩:=hrel
     obtain⟨z,G,A,n,K,f,d,W⟩:=J.out
     by_cases ck:o+k<S
     ·have e1:=ac C (K (o+k) (by omega))
      have w1:=z (o+k)
      have w2:=z (o+k+1)
      obtain⟨X,ab⟩:∃X:Nat,l.getD (o+k) 0=(X:Int):=⟨(l.getD (o+k) 0).toNat,by omega⟩
      obtain⟨Y,T⟩:∃Y:Nat,l.getD (o+k+1) 0=(Y:Int):=⟨(l.getD (o+k+1) 0).toNat,by omega⟩
      have dd:X<4294967296:=by omega
      have cV:Y<4294967296:=by omega
      have hX:ys.getD k 0=(X:Int):=by rw[f k];exact ab
      have aj:ys.getD (k+1) 0=(Y:Int):=by rw[f (k+1)];exact T
      have r:=mD ys n k s X Y d (by omega) hX aj
      rw[ab]at e1
      clear w1 w2
      by_cases cl:o+k+1<S
      ·skip
       have f3:IntKind.u64.wrap (X:Int)=(X:Int):=by rw[IntKind.wrap_u64];omega
       have e2:=ac C (K (o+k+1) (by omega))
       rw[T]at e2
       have f4:IntKind.u64.wrap (Y:Int)=(Y:Int):=by rw[IntKind.wrap_u64];omega
       have f5:IntKind.u64.wrap ((Y:Int)*4294967296)=((Y*4294967296:Nat):Int):=by rw[IntKind.wrap_u64];omega
       have f6:=bits_or_u64_nat X (Y*4294967296) (by omega) (by omega)
       have e3:X ||| Y*4294967296=X+Y*4294967296:=fZ X Y 32 (by omega)
       rw[e3]at f6
       obtain⟨YB,bb⟩:=aA (Y*4294967296)
       rw[<-bb]at f5 f6 r
       obtain⟨V,hV⟩:=aA (X+YB)
       rw[<-hV]at f6 r
       have I:V<18446744073709551616:=by omega
       obtain⟨Q,hQ⟩:=aA (V/2^s)
       have f7:(V:Int)/2^s=(Q:Int):=by rw[hQ];push_cast;rfl
       have H:Q<18446744073709551616:=by rw[hQ];exact bs (cS _ _) I
       have f8:=kK Q H
       rw[<-hQ]at r
       obtain⟨Z,hZ⟩:=aA (Q%4294967296)
       rw[<-hZ]at f8 r
       have f9:IntKind.u32.wrap (Z:Int)=(Z:Int):=by rw[IntKind.wrap_u32];omega
       have a5:Wd (Ls ++ [(Z:Int)]):=P.append (Wd.one (by omega))
       have HD:Hid (∀j,j<k+1->(Ls ++ [(Z:Int)]).getD j 0=((val ys/2^s/4294967296^j%4294967296:Nat):Int)):=fun j hj=>by
        by_cases e:j=k
        ·subst e;rw[r];simp[List.getD,E]
        ·rw[<-M j (by omega)];simp[List.getD,List.getElem?_append,show j<Ls.length from by omega]
       have R:=iJ g
       have t:wr.ownsRow w.heap.size 120 1 v k (Ls.map (Value.int .u32)):=by rw[<-E];exact g
       have U:=C.size
       have j0:(0:Int)<=(o:Int)+(k:Int):=by omega
       have j1:(o:Int)+(k:Int)<(N:Int):=by omega
       have j2:(o:Int)+(k:Int)<(S:Int):=by omega
       have j3:((o:Int)+(k:Int)+1<(S:Int)):=by omega
       have j4:(0:Int)<=(o:Int)+(k:Int)+1:=by omega
       have j5:(o:Int)+(k:Int)+1<(N:Int):=by omega
       have bt:k<=1048576:=by omega
       clear J z G A n K hX aj ab f r M P g hQ hZ I H hV bb e3 T
       go_wp2_with (first|(at_builtin;refine wpList_append_own _ rfl _ _ 55 rfl w.heap.size 120 i0 (.int .u32 0) 1 4 underlying55 br bl bm bf rfl (by decide) _ _ _ rfl (t.alloc _) ⟨wr.heap.size,0,none⟩ 1 1 [.int .u32 (Z:Int)] rfl rfl ?c1mt ?c2mt ?c3mt ?c4mt ?c5mt ?_))
       try case c1mt =>
        intro j' u F
        match j',F with
        | 0,F=>simp at F;subst F;simp[Addr.add]
       case c2mt=>(intro u hu;simp at hu;subst hu;rfl)
       case c3mt=>unfold maxLen;omega
       case c4mt=>omega
       case c5mt=>(simp;omega)
       intro v' w1 x y _
       have hO:Own w1 w.heap.size v' (Ls ++ [(Z:Int)]):=by refine Own.push ?_;rw[E];exact x
       have a2:Kp w w1:=(C.alloc _).grown y R
       clear x y t C R U
       go_wp2
       exact⟨⟨v',k+1,Ls ++ [(Z:Int)],rfl,by go_num,by omega,hO,a2,by simp[E],a5,HD.out⟩,by simp[intOf];omega⟩
      ·skip
       have f3:IntKind.u64.wrap (X:Int)=(X:Int):=by rw[IntKind.wrap_u64];omega
       have bu:Y=0:=by
        have h1:l.getD (o+k+1) 0=0:=by simp[List.getD,List.getElem?_eq_none (by omega:l.length<=o+k+1)]
        have h2:=aj
        rw[f (k+1)]at h2
        rw[show o+(k+1)=o+k+1 from by omega,h1]at h2
        omega
       rw[bu,aM,bi]at r
       obtain⟨V,hV⟩:=aA X
       rw[<-hV]at r e1 f3
       have I:V<18446744073709551616:=by omega
       obtain⟨Q,hQ⟩:=aA (V/2^s)
       have f7:(V:Int)/2^s=(Q:Int):=by rw[hQ];push_cast;rfl
       have H:Q<18446744073709551616:=by rw[hQ];exact bs (cS _ _) I
       have f8:=kK Q H
       rw[<-hQ]at r
       obtain⟨Z,hZ⟩:=aA (Q%4294967296)
       rw[<-hZ]at f8 r
       have f9:IntKind.u32.wrap (Z:Int)=(Z:Int):=by rw[IntKind.wrap_u32];omega
       have a5:Wd (Ls ++ [(Z:Int)]):=P.append (Wd.one (by omega))
       have HD:Hid (∀j,j<k+1->(Ls ++ [(Z:Int)]).getD j 0=((val ys/2^s/4294967296^j%4294967296:Nat):Int)):=fun j hj=>by
        by_cases e:j=k
        ·subst e;rw[r];simp[List.getD,E]
        ·rw[<-M j (by omega)];simp[List.getD,List.getElem?_append,show j<Ls.length from by omega]
       have R:=iJ g
       have t:wr.ownsRow w.heap.size 120 1 v k (Ls.map (Value.int .u32)):=by rw[<-E];exact g
       have U:=C.size
       have j0:(0:Int)<=(o:Int)+(k:Int):=by omega
       have j1:(o:Int)+(k:Int)<(N:Int):=by omega
       have j2:(o:Int)+(k:Int)<(S:Int):=by omega
       have j3:¬((o:Int)+(k:Int)+1<(S:Int)):=by omega
       have j4:(0:Int)<=(o:Int)+(k:Int)+1:=by omega
       have j5:True∨(o:Int)+(k:Int)+1<(N:Int):=by exact Or.inl trivial
       have bt:k<=1048576:=by omega
       clear J z G A n K hX aj ab f r M P g hQ hZ I H hV bu
       go_wp2_with (first|(at_builtin;refine wpList_append_own _ rfl _ _ 55 rfl w.heap.size 120 i0 (.int .u32 0) 1 4 underlying55 br bl bm bf rfl (by decide) _ _ _ rfl (t.alloc _) ⟨wr.heap.size,0,none⟩ 1 1 [.int .u32 (Z:Int)] rfl rfl ?c1lt ?c2lt ?c3lt ?c4lt ?c5lt ?_))
       try case c1lt =>
        intro j' u F
        match j',F with
        | 0,F=>simp at F;subst F;simp[Addr.add]
       case c2lt=>rfl
       case c3lt=>unfold maxLen;omega
       case c4lt=>omega
       case c5lt=>omega
       intro v' w1 x y _
       have hO:Own w1 w.heap.size v' (Ls ++ [(Z:Int)]):=by refine Own.push ?_;rw[E];exact x
       have a2:Kp w w1:=(C.alloc _).grown y R
       clear x y t C R U
       go_wp2
       exact⟨⟨v',k+1,Ls ++ [(Z:Int)],rfl,by go_num,by omega,hO,a2,by simp[E],a5,HD.out⟩,by simp[intOf];omega⟩
     ·have b4:o+k=S:=by omega
      have bo:=oV Ls ys n s (by omega) (fun j hj=>M j (by omega))
      obtain⟨p',c',rfl,hA,_⟩:=g.arr
      have aa:=iy p' c' Ls wr hA (by omega)
      rw[eZ Ls P,bo]at aa
      obtain⟨D,hD⟩:=aA Ls.length
      rw[<-hD]at aa|-
      have U:=C.size
      have j2:¬((o:Int)+(k:Int)<(S:Int)):=by omega
      have bt:k<=1048576:=by omega
      clear J z G A n K f d W g E P M bo hA hD b4 ck hk
      go_wp2_with fail
      refine aa.mono ?_
      rintro e w2 ⟨v2,rfl,cb,cm⟩
      clear aa
      go_wp2
      exact BR ⟨v2,rfl,cb.mono U,C.trans cm⟩
def ByS (w wq:World)(pu pv:Option Addr)(us vs qs:List Int)(gq L:Nat):Prop:=Arr wq pu us∧Arr wq pv vs∧Rw wq gq L qs∧Kp w wq
theorem px {g:Nat}{w w':World}{p:Option Addr}{xs:List Int}(h:Arr w p xs)(k:Kb g w w')(hne:∀b off,p=some ⟨b,off,none⟩->b≠g):Arr w' p xs:=by
 rcases h with h|⟨b,off,h1,h2⟩
 ·exact Or.inl h
 ·exact Or.inr ⟨b,off,h1,fun j hj=>k.arr (hne b off h1) (h2 j hj)⟩
theorem ByS.kb {w wq w':World}{pu pv:Option Addr}{us vs qs:List Int}{gq L g:Nat}(h:ByS w wq pu pv us vs qs gq L)(k:Kb g wq w')(h1:∀b off,pu=some ⟨b,off,none⟩->b≠g)(h2:∀b off,pv=some ⟨b,off,none⟩->b≠g)(h3:gq≠g)(h4:w.heap.size<=g):ByS w w' pu pv us vs qs gq L :=
 ⟨px h.1 k h1,px h.2.1 k h2,h.2.2.1.kb k h3,k.kp h.2.2.2 h4⟩
theorem ByS.kp {w wq w':World}{pu pv:Option Addr}{us vs qs:List Int}{gq L:Nat}(h:ByS w wq pu pv us vs qs gq L)(k:Kp wq w'):ByS w w' pu pv us vs qs gq L :=
 ⟨h.1.grown k,h.2.1.grown k,h.2.2.1.grown k,h.2.2.2.trans k⟩
theorem GJ (p q:Option Addr)(c d:Nat)(xs ys:List Int)(w:World)(hx:Arr w p xs)(hy:Arr w q ys)(hwx:Wd xs)(hwy:Wd ys)(lx:xs.length<=1048576)(ly:ys.length<=1048576)(ht16:tl ys<=262144)(h0:0<val ys) :
  Calls prog 167 #[.slice p xs.length c,.slice q ys.length d] w fun e w'=>∃v,e=.returned v∧uj w' w.heap.size (az (val xs/val ys)) (az (val xs%val ys)) v∧Kp w w':=by
 have y:=qm p q c d xs ys w hx hy hwx hwy (by omega) (by omega)
 by_cases ca:val xs<val ys
 ·rw[gJ ca]at y
  have d1:=fun w' h=>iy p c xs w' (hx.grown h) (by omega)
  have e1:val xs/val ys=0:=bh ca
  have e2:val xs%val ys=val xs:=aX ca
  rw[e1,e2,dF,<-eZ xs hwx]
  obtain⟨N,hN⟩:=aA xs.length
  obtain⟨M,G⟩:=aA ys.length
  rw[<-hN]at y d1
  rw[<-G]at y
  rw[<-hN,<-G]
  clear hx hy hwx hwy lx ly ht16 h0 ca e1 e2 hN G
  go_enter func167,ntmps167
  go_wp2_with fail
  refine y.mono ?_
  rintro e w1 ⟨rfl,F⟩
  clear y
  have e5:=d1 w1 F
  clear d1
  go_wp2_with fail
  refine e5.mono ?_
  rintro e w2 ⟨v,rfl,hO,m⟩
  obtain⟨H,cv,rfl,_⟩:=hO.len
  have HZ:Hid (uj w2 w.heap.size [] (nz xs) (.tuple #[.slice none 0 0,.slice H (nz xs).length cv])∧Kp w w2):=⟨⟨none,0,H,cv,rfl,Own.nil _ _,hO.mono F.size,fun g e=>by cases e⟩,F.trans m⟩
  obtain⟨K,hK⟩:=aA ((nz xs).length)
  rw[<-hK]at HZ|-
  clear e5 hO m F hK
  go_wp2
  exact BR ⟨_,rfl,HZ.out.1,HZ.out.2⟩
 ·obtain⟨cc,dr⟩:=aA (dW (val xs) (val ys))
  rw[<-dr]at y
  have gz:¬(cc<0):=by
   rw[dr];unfold dW;rw[if_neg ca];split<;>omega
  obtain⟨t,ht⟩:∃t,tl ys=t+1:=by
   refine⟨tl ys-1, ?_⟩
   have:tl ys≠0:=fun e=>by
    have h1:=el ys
    rw[e,List.take_zero]at h1
    have:val ([]:List Int)=0:=rfl
    omega
   omega
  obtain⟨cE,d2,fm⟩:=uw ys hwy t ht
  have eX:=dJ ys
  have fo:(nz ys).getD t 0=ys.getD t 0:=by
   unfold nz
   simp[List.getD,show t<tl ys from by omega]
  obtain⟨s,hs⟩:=aA (32-aq (ys.getD t 0).toNat)
  have wt:=hwy t
  have Z:s<32:=(jM _ s d2 (by omega) hs).1
  obtain⟨d8,cL⟩:=qz (nz ys) (hwy.take _) t _ s (by rw[bM,ht]) (by rw[fo]) d2 hs
  rw[eO]at d8 cL
  have hB:aq (val ys)<=33554432:=by
   have:=jp (val ys) ys.length (by rw[<-fS ys hwy];exact eX)
   omega
  have cH:=fun w' h=>ti q d ys w' (hy.grown h) hwy (by omega)
  have ct:=fun w' h=>kR p c s xs w' (hx.grown h) hwx lx (by omega)
  have au:=fun w' h=>kR q d s ys w' (hy.grown h) hwy ly (by omega)
  obtain⟨bl,cV⟩:=aA (aq (val ys))
  rw[<-cV]at cH cE fm hB
  rw[<-hs]at cE
  obtain⟨o,bA⟩:=aA (az (val xs*2^s))
  obtain⟨n,ch⟩:=aA (az (val ys*2^s))
  rw[<-bA]at ct
  rw[<-ch]at au d8 cL
  have fY:Wd o:=by rw[bA];exact bC _
  have P:Wd n:=by rw[ch];exact bC _
  have bp:val o=val xs*2^s:=by rw[bA];exact aV _
  have ar:val n=val ys*2^s:=by rw[ch];exact aV _
  have hp:0<2^s:=aP (by omega)
  have gt:o.length<=1048577:=by
   have:=uU xs hwx s Z
   rw[<-bA]at this
   omega
  obtain⟨N,hN⟩:=aA xs.length
  obtain⟨M0,d7⟩:=aA ys.length
  obtain⟨L,hL⟩:=aA o.length
  obtain⟨M,G⟩:=aA n.length
  obtain⟨V,W⟩:=aA (val n)
  obtain⟨U,hU⟩:=aA (val o)
  rw[<-hN,<-d7]at y|-
  rw[<-hN]at ct
  rw[<-d7]at au cH
  have lL:L<=1048577:=by omega
  have lM:M<=262144:=by omega
  have hE:1<=M:=by omega
  obtain⟨b1,fq⟩:=aA (bl-1)
  obtain⟨bm,eb⟩:=aA ((bl-1)%32)
  rw[<-eb]at cE
  have f1:wrap64 ((bl:Int)-1)=(b1:Int):=by
   rw[show(bl:Int)-1=(b1:Int)from by omega];exact El _ (by omega) (by omega)
  have f2:Int.tmod (b1:Int) 32=(bm:Int):=by rw[eb,<-fq];rfl
  have f3:wrap64 (31-(bm:Int))=(s:Int):=by
   rw[show(31:Int)-(bm:Int)=(s:Int)from by omega];exact El _ (by omega) (by omega)
  have HA:Hid (L=o.length∧M=n.length∧V=val n∧U=val o∧Wd o∧Wd n∧2147483648<=(n.getD (M-1) 0).toNat∧0<V):=⟨hL,G,W,hU,fY,P,by rw[show M-1=t from by omega];exact cL,by rw[W,ar];exact aQ h0 hp⟩
  have HE:Hid (val o=val xs*2^s∧val n=val ys*2^s∧s<32):=⟨bp,ar,Z⟩
  have gu:∀w:World,(Instr.makeSlice 55 (.int .i64 (L:Int)) (.int .i64 (L:Int))).run prog w=.ok (.slice (some ⟨w.heap.size,0,none⟩) L L) (w.alloc (.cells (madeCells #[.int .u32 0] L) 120)):=mN L (by omega)
  have fr:∀w:World,(Instr.makeSlice 55 (.int .i64 ((M:Int)+1)) (.int .i64 ((M:Int)+1))).run prog w=.ok (.slice (some ⟨w.heap.size,0,none⟩) (M+1) (M+1)) (w.alloc (.cells (madeCells #[.int .u32 0] (M+1)) 120)):=by
   have:=mN (M+1) (by omega)
   rw[show((M+1:Nat):Int)=(M:Int)+1 from by omega]at this
   exact this
  clear hx hy hwx hwy lx ly ht16 h0 ca dr ht cE d2 fm eX fo hs wt Z d8 cL hB cV bA ch fY P bp ar hp gt hN d7 eb fq hL G W hU
  go_enter func167,ntmps167
  go_wp2_with fail
  refine y.mono ?_
  rintro e w1 ⟨rfl,F⟩
  clear y
  have cR:=cH w1 F
  clear cH
  go_wp2_with fail
  refine cR.mono ?_
  rintro e hv ⟨rfl,eA⟩
  obtain rfl:=eA.symm
  clear cR eA
  have c8:=ct w1 F
  clear ct
  go_wp2_with fail
  refine c8.mono ?_
  rintro e w2 ⟨vu,rfl,eL,m⟩
  obtain⟨pu,cu,rfl,eV,_⟩:=eL.arr
  have dg:=au w2 (F.trans m)
  rw[<-HA.out.1]
  rw[f3]
  clear c8 au f1 f2 f3
  go_wp2_with fail
  refine dg.mono ?_
  rintro e w3 ⟨vv,rfl,ev,I⟩
  obtain⟨H,cv,rfl,d6,_⟩:=ev.arr
  have G:=HA.out.2.1
  rw[<-G]
  obtain⟨C,bc⟩:=aA w3.heap.size
  obtain⟨w4,bq⟩:=aA (w3.alloc (.cells (madeCells #[.int .u32 0] L) 120))
  obtain⟨A,dN⟩:=aA w4.heap.size
  obtain⟨w5,cx⟩:=aA (w4.alloc (.cells (madeCells #[.int .u32 0] (M+1)) 120))
  have dh:C+1=A:=by rw[dN,bq,bc];simp
  have ba:Kp w3 w4:=by rw[bq];exact(Kp.refl w3).alloc _
  have ab:Kp w4 w5:=by rw[cx];exact(Kp.refl w4).alloc _
  have ek:Rw w4 C L (List.replicate L 0):=by rw[bq,bc];exact World.rowIs.congr (World.rowIs_made w3 (.int .u32 0) L 120) (fun j _=>by rw[cJ])
  have O:Rw w5 A (M+1) (List.replicate (M+1) 0):=by rw[cx,dN];exact World.rowIs.congr (World.rowIs_made w4 (.int .u32 0) (M+1) 120) (fun j _=>by rw[cJ])
  have a0:Kp w w3:=(F.trans m).trans I
  have bH:Arr w3 pu o:=eV.grown I
  have low:∀(pp:Option Addr)(ll:List Int),Arr w3 pp ll->0<ll.length->∀b f,pp=some ⟨b,f,none⟩->b<w3.heap.size:=fun pp ll h1 h2 b f e=>by
   obtain⟨b2,o2,h3,h4⟩:=h1.at (k:=0) h2
   rw[h3]at e
   cases e
   exact be (h4 0 h2)
  have eD:w3.heap.size<w4.heap.size:=by rw[<-bc];exact World.rowIs.lt ek
  have R:Hid (w.heap.size<=C∧w.heap.size<=A∧C≠A∧(0<o.length->∀b f,pu=some ⟨b,f,none⟩->b≠C∧b≠A)∧(∀b f,H=some ⟨b,f,none⟩->b≠C∧b≠A)):=⟨by rw[bc];exact a0.size,by have:=a0.size;omega,by omega,fun h b f e=>by have:=low pu o bH h b f e;omega,fun b f e=>by have:=low H n d6 (by omega) b f e;omega⟩
  have HS:Hid (Rw w5 A (M+1) (List.replicate (M+1) 0)∧ByS w w5 pu H o n (List.replicate L 0) C L):=⟨O,(bH.grown ba).grown ab,(d6.grown ba).grown ab,ek.grown ab,(a0.trans ba).trans ab⟩
  clear dg F m I eL ev eV d6 ba ab ek O a0 bH low eD gz
  have HL:Hid (L=o.length∧M=n.length∧V=val n∧U=val o):=⟨HA.out.1,HA.out.2.1,HA.out.2.2.1,HA.out.2.2.2.1⟩
  clear G
  go_wp2
  rw[<-bc,<-bq,dh,<-cx]
  clear bc bq dN dh cx gu fr
  go_loopw [11] (fun ii wr=>∃(k:Nat)(B z:List Int),ii=.int .i64 ((k:Int)-1)∧k<=L∧Rw wr A (M+1) B∧B.length=M+1∧Wd B∧z.length=L∧Wd z∧(∀j,j<k->z.getD j 0=0)∧val z*V+val B*4294967296^k+val (o.take k)=U∧val B<V∧ByS w wr pu H o n z C L) (fun i _=>(intOf i+1).toNat)
  case atStart =>
   obtain⟨hL,G,W,hU⟩:=HL.out
   obtain⟨O,l⟩:=HS.out
   refine⟨L,List.replicate (M+1) 0,List.replicate L 0,rfl,ao _,O,by simp,fun j=>by rw[cJ];omega,by simp,fun j=>by rw[cJ];omega,fun j _=>cJ L j, ?_, ?_,l⟩
   ·rw[fG _ (fun j=>cJ L j),fG _ (fun j=>cJ (M+1) j),aM,aM,bJ,hL,di,hU]
   ·rw[fG _ (fun j=>cJ (M+1) j)];exact HA.out.2.2.2.2.2.2.2
  case round =>
   clear HS
   obtain⟨k,B,z,rfl,hk,O,bB,cg,bL,cN,dx,aa,cm,l⟩:=hrel
   by_cases ck:k=0
   ·subst ck
    have e9:(((0:Nat):Int)-1) = -1:=by omega
    rw[e9]
    obtain⟨hL,G,W,hU⟩:=HL.out
    obtain⟨bp,ar,Z⟩:=HE.out
    rw[aB,aG,List.take_zero,show val ([]:List Int)=0 from rfl,bi]at aa
    obtain⟨ez,e7⟩:=yv (val xs) (val ys) s (val z) (val B) (by rw[<-ar,<-bp,<-W,<-hU];exact aa) (by rw[<-ar,<-W];exact cm)
    have ci:=sZ (some ⟨A,0,none⟩) (M+1) s B wr (O.all bB) cg (by omega) (by omega)
    rw[e7,bB]at ci
    have ds:=fun w' h=>iy (some ⟨C,0,none⟩) L z w' ((l.2.2.1.grown h).all bL) (by omega)
    rw[bL,eZ z cN,ez]at ds
    obtain⟨hq,bX⟩:=aA (decide (val B%2^s≠0))
    rw[<-bX]at ci
    have HK:Hid (Kp w wr):=l.2.2.2
    clear HA HL HE R hk O bB cg bL cN dx aa cm l ez e7 hL G W hU bp ar Z bX
    go_wp2_with fail
    refine ci.mono ?_
    rintro e w2 ⟨vr,rfl,cs,m⟩
    have df:=ds w2 m
    clear ci ds
    go_wp2_with fail
    refine df.mono ?_
    rintro e w3 ⟨vq,rfl,cl,I⟩
    obtain⟨pq,cq,rfl,gk⟩:=cl.len
    obtain⟨pr,cr,rfl,gx⟩:=cs.len
    have fz:=HK.out.size
    have fP:=m.size
    have c7:uj w3 w.heap.size (az (val xs/val ys)) (az (val xs%val ys)) (.tuple #[.slice pq (az (val xs/val ys)).length cq,.slice pr (az (val xs%val ys)).length cr]):=by
     refine⟨pq,cq,pr,cr,rfl,cl.mono (by omega),(cs.kp I).mono fz,fun g e e2=>?_⟩
     subst e e2
     have h1:=cl.above.1
     have h2:=cs.above.2
     omega
    have HZ:Hid (uj w3 w.heap.size (az (val xs/val ys)) (az (val xs%val ys)) (.tuple #[.slice pq (az (val xs/val ys)).length cq,.slice pr (az (val xs%val ys)).length cr])∧Kp w w3):=⟨c7,(HK.out.trans m).trans I⟩
    obtain⟨K1,e8⟩:=aA ((az (val xs/val ys)).length)
    obtain⟨K2,e6⟩:=aA ((az (val xs%val ys)).length)
    rw[<-e8,<-e6]at HZ|-
    clear df cs cl m I gk gx fz fP c7 e8 e6
    go_wp2
    exact BR ⟨_,rfl,HZ.out.1,HZ.out.2⟩
   ·obtain⟨r,rfl⟩:∃r,k=r+1:=⟨k-1,by omega⟩
    have e9:(((r+1:Nat):Int)-1)=(r:Int):=by omega
    rw[e9]
    have HO:Hid (B.length=M+1∧z.length=L∧Wd z∧(∀j,j<r+1->z.getD j 0=0)∧val z*V+val B*4294967296^(r+1)+val (o.take (r+1))=U∧val B<V∧r<L):=⟨bB,bL,cN,dx,aa,cm,by omega⟩
    have HR:Hid (Rw wr A (M+1) B∧Wd B∧ByS w wr pu H o n z C L):=⟨O,cg,l⟩
    have lr:r<=1048577:=by omega
    clear O bB cg bL cN dx aa cm l ck e9 hk
    go_wp2
    go_loopw [12] (fun jj wr=>∃(j:Nat)(u:List Int),jj=.int .i64 (j:Int)∧j<=M∧Rw wr A (M+1) u∧u.length=M+1∧Wd u∧(∀t,t<=j->u.getD t 0=B.getD t 0)∧(∀t,j<t->t<=M->u.getD t 0=B.getD (t-1) 0)∧ByS w wr pu H o n z C L) (fun j _=>(intOf j).toNat)
    case atStart =>
     obtain⟨h1,h2,h3⟩:=HR.out
     exact⟨M,B,by go_num,ao _,h1,HO.out.1,h2,fun t _=>rfl,fun t a b=>by omega,h3⟩
    case round =>
     clear HR
     obtain⟨j,u,rfl,hj,S,cz,bv,ce,cn,l⟩:=hrel
     by_cases cj:j=0
     ·subst cj
      have g1:=HO.out.2.2.2.2.2.2
      obtain⟨hL,G,W,hU⟩:=HL.out
      have eN:=l.1
      obtain⟨b,f,rfl,hc⟩:=eN.at (k:=r) (by omega)
      have e1:=hc r (by omega)
      have gv:=(R.out.2.2.2.1 (by omega) b f rfl).2
      have wu:=HA.out.2.2.2.2.1 r
      obtain⟨x,hx⟩:∃x:Nat,(x:Int)=o.getD r 0:=⟨_,b7 wu.1⟩
      rw[<-hx]at e1
      have e3:=World.rowIs.cell S (i:=0) (by omega)
      have e4:=World.rowIs.frozen S 0
      have fh:=S.set 0 (x:Int) (by omega)
      have bt:Kb A wr (wr.setCell ⟨A,0,none⟩ (.int .u32 (x:Int))):=(Kb.refl A wr).setCell 0 _
      have Y:=l.kb bt (fun b f e=>(R.out.2.2.2.1 (by omega) b f e).2) (fun b f e=>(R.out.2.2.2.2 b f e).2) R.out.2.2.1 R.out.2.1
      have e0:V<=4294967296^M:=by rw[W,G];exact bO (fX n HA.out.2.2.2.2.2.1)
      have eP:(u.set 0 (x:Int)).getD 0 0=(x:Int):=by simp[List.getD,show 0<u.length from by omega]
      have fv:∀t,0<t->t<=M->(u.set 0 (x:Int)).getD t 0=B.getD (t-1) 0:=fun t a b=>by
       rw[<-cn t a b];simp[List.getD,show ¬0=t from by omega]
      have E:(u.set 0 (x:Int)).length=M+1:=by rw[bg];exact cz
      obtain⟨co,ea⟩:=ux (u.set 0 (x:Int)) B x M V E HO.out.1 e0 HO.out.2.2.2.2.2.1 (by omega) eP fv
      have J:Wd (u.set 0 (x:Int)):=bv.set 0 x (by omega)
      obtain⟨T,hT⟩:=aA (val B*4294967296+x)
      rw[<-hT]at co
      rw[co]at ea
      have HT:Hid (T=val B*4294967296+x∧T<4294967296*V∧(o.getD r 0).toNat=x):=⟨hT,ea,by rw[<-hx];rfl⟩
      have HR:Hid (Rw (wr.setCell ⟨A,0,none⟩ (.int .u32 (x:Int))) A (M+1) (u.set 0 (x:Int))∧(u.set 0 (x:Int)).length=M+1∧Wd (u.set 0 (x:Int))∧val (u.set 0 (x:Int))=T∧ByS w (wr.setCell ⟨A,0,none⟩ (.int .u32 (x:Int))) (some ⟨b,f,none⟩) H o n z C L):=⟨fh,E,J,co,Y⟩
      have i1:(r:Int)<(L:Int):=by omega
      have gD:wr.cell? ⟨A,0,none⟩=some (.int .u32 (u.getD 0 0)):=e3
      clear S cz bv ce cn l hj g1 hL G W hU eN hc gv wu hx fh bt Y e0 eP fv E co ea J hT
      go_wp2
      clear e1 e3 gD e4
      go_loopw [13] (fun dd wr=>∃(D:Nat)(u:List Int),dd=.int .u64 (D:Int)∧Rw wr A (M+1) u∧u.length=M+1∧Wd u∧D*V+val u=T∧ByS w wr (some ⟨b,f,none⟩) H o n z C L) (fun i _=>4294967296-(intOf i).toNat)
      case atStart =>
       obtain⟨h1,h2,h3,h4,h5⟩:=HR.out
       exact⟨0,_,rfl,h1,h2,h3,by rw[aM,bJ];exact h4,h5⟩
      case round =>
       clear HR
       obtain⟨D,Q,rfl,bb,E,J,bo,l⟩:=hrel
       obtain⟨hL,G,W,hU⟩:=HL.out
       have P:=HA.out.2.2.2.2.2.1
       have y:=qm (some ⟨A,0,none⟩) H (M+1) cv Q n wr (bb.all E) l.2.1 J P (by omega) (by omega)
       rw[E,<-G,<-W]at y
       obtain⟨cq,bu⟩:=aA (dW (val Q) V)
       rw[<-bu]at y
       by_cases cf:val Q<V
       ·have ge:¬(0<=cq):=by rw[bu,gJ cf];omega
        have cd:=D7 D V (val Q) T bo HT.out.2.1
        obtain⟨o1,o2,o3,o4,o5,o6,o7⟩:=HO.out
        have fn:=AJ z o V r D T (val B) (val Q) U x (by omega) (o4 r (by omega)) HT.out.2.2 HT.out.1 bo o5
        have fD:IntKind.u32.wrap (D:Int)=(D:Int):=by rw[IntKind.wrap_u32];omega
        have i1:(r:Int)<(L:Int):=by omega
        have HF:Hid (Rw wr A (M+1) Q∧Q.length=M+1∧Wd Q∧(z.set r (D:Int)).length=L∧Wd (z.set r (D:Int))∧(∀j,j<r->(z.set r (D:Int)).getD j 0=0)∧val (z.set r (D:Int))*V+val Q*4294967296^r+val (o.take r)=U∧val Q<V∧ByS w wr (some ⟨b,f,none⟩) H o n z C L∧r<L∧r<z.length):=⟨bb,E,J,by rw[bg];exact o2,o3.set r D (by omega),fun j hj=>by
         have e2:(z.set r (D:Int)).getD j 0=z.getD j 0:=by simp[List.getD,show ¬r=j from by omega]
         rw[e2,o4 j (by omega)],fn,cf,l,o7,by omega⟩
        clear bb E J bo l hL G W hU P bu cf cd o1 o2 o3 o4 o5 o6 o7 fn
        go_wp2_with fail
        refine y.mono ?_
        rintro e w2 ⟨rfl,m⟩
        obtain⟨a1,a2,a3,a4,a5,a6,a7,a8,a9,cD,dt⟩:=HF.out
        have an:=a9.kp m
        have e3:=World.rowIs.cell an.2.2.1 (i:=r) cD
        have e4:=World.rowIs.frozen an.2.2.1 r
        have fU:=an.2.2.1.set r (D:Int) dt
        have b0:Kb C w2 (w2.setCell ⟨C,r,none⟩ (.int .u32 (D:Int))):=(Kb.refl C w2).setCell r _
        have eU:=(a1.grown m).kb b0 (Ne.symm R.out.2.2.1)
        have ff:ByS w (w2.setCell ⟨C,r,none⟩ (.int .u32 (D:Int))) (some ⟨b,f,none⟩) H o n (z.set r (D:Int)) C L:=⟨px an.1 b0 (fun b f e=>(R.out.2.2.2.1 (by have:=HL.out.1;omega) b f e).1),px an.2.1 b0 (fun b f e=>(R.out.2.2.2.2 b f e).1),fU,b0.kp an.2.2.2 R.out.1⟩
        have HG:Hid (Rw (w2.setCell ⟨C,r,none⟩ (.int .u32 (D:Int))) A (M+1) Q∧ByS w (w2.setCell ⟨C,r,none⟩ (.int .u32 (D:Int))) (some ⟨b,f,none⟩) H o n (z.set r (D:Int)) C L):=⟨eU,ff⟩
        clear y m a1 a2 a3 a4 a5 a6 a7 a8 a9 cD dt an fU b0 eU ff
        go_wp2
        obtain⟨a1,a2,a3,a4,a5,a6,a7,a8,a9,cD,dt⟩:=HF.out
        exact⟨⟨r,Q,z.set r (D:Int),rfl,bO cD,HG.out.1,a2,a3,a4,a5,a6,a7,a8,HG.out.2⟩,by simp[intOf]⟩
       ·have ge:0<=cq:=by
         rw[bu];unfold dW;rw[if_neg cf];split<;>omega
        have dq:=fun w' h=>zi (some ⟨A,0,none⟩) H (M+1) cv Q n w' ((bb.grown h).all E) (l.2.1.grown h) J P (by omega) (by omega) (by omega)
        obtain⟨X,hX⟩:=aA (jJ (Q.getD n.length 0).toNat (Q.getD (n.length-1) 0).toNat (n.getD (n.length-1) 0).toNat)
        have bE:=sn Q n P (M-1) _ _ _ (by omega) (by omega) rfl rfl rfl (by rw[<-W];omega)
        rw[show M-1+1=n.length from by omega,show M-1=n.length-1 from by omega,<-hX,<-W]at bE
        obtain⟨dn,cd,cU,fb⟩:=F4 D V X (val Q) T bo HT.out.2.1 bE.2
        rw[<-hX,E,<-G]at dq
        have dy:=fun w' h=>Co A (M+1) cv X H Q n w' (bb.grown h) E J (l.2.1.grown h) P dn (fun _ b f e=>(R.out.2.2.2.2 b f e).2) (by omega) (by omega) (by rw[<-W,ap];exact bE.2)
        rw[<-G,<-W]at dy
        have fD:IntKind.u64.wrap ((D:Int)+(X:Int))=((D+X:Nat):Int):=by rw[IntKind.wrap_u64];omega
        have HF:Hid ((D+X)*V+(val Q-V*X)=T∧ByS w wr (some ⟨b,f,none⟩) H o n z C L∧D+X<4294967296∧1<=X∧o.length≠0):=⟨cU,l,fb,bE.1,by have:=HO.out.2.2.2.2.2.2;omega⟩
        obtain⟨DX,cb⟩:=aA (D+X)
        rw[<-cb]at fD HF
        have HD:Hid (DX=D+X):=cb
        clear bb E J bo l hL G W hU P bu cf hX bE dn cd cU fb cb
        go_wp2_with fail
        refine y.mono ?_
        rintro e w2 ⟨rfl,m⟩
        have da:=dq w2 m
        clear y dq
        go_wp2_with fail
        refine da.mono ?_
        rintro e w3 ⟨rfl,I⟩
        have bR:=m.trans I
        have cY:=dy w3 bR
        clear da dy
        go_wp2_with fail
        refine cY.mono ?_
        rintro e w4 ⟨bx,rfl,c1,c0,dk,dm,dc⟩
        obtain⟨b1,b2,b3,b4,b5⟩:=HF.out
        have ey:ByS w w4 (some ⟨b,f,none⟩) H o n z C L:=(b2.kp bR).kb dc (fun b f e=>(R.out.2.2.2.1 (by omega) b f e).2) (fun b f e=>(R.out.2.2.2.2 b f e).2) R.out.2.2.1 R.out.2.1
        have HG:Hid (Rw w4 A (M+1) bx∧bx.length=M+1∧Wd bx∧DX*V+val bx=T∧ByS w w4 (some ⟨b,f,none⟩) H o n z C L∧4294967296-DX<4294967296-D):=⟨c1,c0,dk,by rw[dm];exact b1,ey,by have:=HD.out;omega⟩
        clear cY m I bR c1 c0 dk dm dc b1 b2 b3 b4 b5 ey
        go_wp2
        obtain⟨a1,a2,a3,a4,a5,a6⟩:=HG.out
        refine⟨⟨_,_,_,_,_,_,_,_,_,_,_,_,_,_,_,_,⟨DX,bx,rfl,a1,a2,a3,a4,a5⟩,rfl⟩, ?_⟩
        simpa [intOf]using a6
     ·obtain⟨j',fL⟩:=aA (j-1)
      have e1:=World.rowIs.cell S (i:=j') (by omega)
      have e3:=World.rowIs.cell S (i:=j) (by omega)
      have e4:=World.rowIs.frozen S j
      obtain⟨x,hx⟩:=aA (u.getD j' 0)
      rw[<-hx]at e1
      have wx:=bv j'
      rw[<-hx]at wx
      have hR:=S.set j x (by omega)
      have bt:Kb A wr (wr.setCell ⟨A,j,none⟩ (.int .u32 x)):=(Kb.refl A wr).setCell j _
      have Y:=l.kb bt (fun b f e=>(R.out.2.2.2.1 (by have:=HO.out.2.2.2.2.2.2;have:=HL.out.1;omega) b f e).2) (fun b f e=>(R.out.2.2.2.2 b f e).2) R.out.2.2.1 R.out.2.1
      have au:(u.set j x).length=M+1:=by rw[bg];exact cz
      have ew:Wd (u.set j x):=bv.set j x wx
      have de:∀t,t<=j'->(u.set j x).getD t 0=B.getD t 0:=fun t ht=>by
       rw[<-ce t (by omega)];simp[List.getD,show ¬j=t from by omega]
      have db:∀t,j'<t->t<=M->(u.set j x).getD t 0=B.getD (t-1) 0:=fun t h1 h2=>by
       by_cases e:t=j
       ·subst e
        rw[<-fL,<-ce j' (by omega),<-hx]
        simp[List.getD,show t<u.length from by omega]
       ·rw[<-cn t (by omega) h2];simp[List.getD,show ¬j=t from by omega]
      have f9:(j:Int)-1=(j':Int):=by omega
      have hP:IntKind.i64.wrap ((j:Int)-1)=(j':Int):=by rw[IntKind.wrap_i64];omega
      have i1:(j':Int)<(M:Int)+1:=by omega
      have i2:(j:Int)<(M:Int)+1:=by omega
      have i3:(0:Int)<(j:Int):=by omega
      have HF:Hid (Rw (wr.setCell ⟨A,j,none⟩ (.int .u32 x)) A (M+1) (u.set j x)∧(u.set j x).length=M+1∧Wd (u.set j x)∧(∀t,t<=j'->(u.set j x).getD t 0=B.getD t 0)∧(∀t,j'<t->t<=M->(u.set j x).getD t 0=B.getD (t-1) 0)∧ByS w (wr.setCell ⟨A,j,none⟩ (.int .u32 x)) pu H o n z C L∧j'<=M∧j'<j):=⟨hR,au,ew,de,db,Y,by omega,by omega⟩
      clear S cz bv ce cn l hx wx hR bt Y au ew de db cj fL
      go_wp2
      obtain⟨a1,a2,a3,a4,a5,a6,a7,a8⟩:=HF.out
      exact⟨⟨j',u.set j x,rfl,a7,a1,a2,a3,a4,a5,a6⟩,by simpa [intOf]using a8⟩
end Go.Proofs.YtmpjcknaelgnoaaGreatDoor
