import Derived.Test.YtmpjcknaelgnoaaGreatDoorKXTZ
set_option maxHeartbeats 1000000
set_option maxRecDepth 20000
namespace Go.Proofs.YtmpjcknaelgnoaaGreatDoor
open Go.RowKit Tryz
theorem Fu (X s:Nat)(h:X<4294967296)(hs:s=32-aq X)(w:World):Calls prog 282 #[.int .u32 (X:Int)] w (RE (.int .i64 (s:Int)) w):=by
 have c:=xJ X h
 have b:=gp X 32 h
 obtain⟨B,a⟩:=aA (aq X)
 rw[<-a]at c b hs
 have d:IntKind.i64.wrap (32-(B:Int))=(s:Int):=by rw[IntKind.wrap_i64];omega
 clear h a b hs
 go_enter func282,ntmps282
 go_wp2_with (first|(go_at_call 252;refine SM (c _) ?_))
 exact BR ⟨rfl,rfl⟩

def uj (w:World)(base:Nat)(l1 l2:List Int)(e:Value):Prop:=∃p1 c1 p2 c2,e=.tuple #[.slice p1 l1.length c1,.slice p2 l2.length c2]∧Own w base (.slice p1 l1.length c1) l1∧Own w base (.slice p2 l2.length c2) l2∧∀g,p1=some ⟨g,0,none⟩->p2≠some ⟨g,0,none⟩
theorem Own.above {w:World}{base n c b:Nat}{xs:List Int}(h:Own w base (.slice (some ⟨b,0,none⟩) n c) xs):base<=b∧b<w.heap.size:=by
 rcases h.2 with j|⟨g,k,f,i,d,a,l⟩
 ·have:=j.1
  cases this
 ·cases i
  refine⟨d, ?_⟩
  by_cases c:b<w.heap.size
  ·exact c
  ·rw[Array.getElem?_eq_none (by omega)]at a
   cases a
theorem Own.len {w:World}{base:Nat}{v:Value}{xs:List Int}(h:Own w base v xs):∃p c,v=.slice p xs.length c∧(p=none∨∃b,p=some ⟨b,0,none⟩):=by
 obtain⟨p,c,e,_⟩:=h.arr
 refine⟨p,c,e, ?_⟩
 subst e
 rcases h.2 with j|⟨g,a,d,i,l⟩
 ·have k:=j.1
  injection k with f
  exact Or.inl f
 ·cases i
  exact Or.inr ⟨g,rfl⟩
theorem Ch (g h n:Nat)(hh:h<=n)(w:World):(Instr.slice 55 (.slice (some ⟨g,0,none⟩) n n) none (some (.int .i64 (h:Int))) none).run prog w=.ok (.slice (some ⟨g,0,none⟩) h n) w:=by
 rw[run_slice_h w 55 (some ⟨g,0,none⟩) n n underlying55 .i64 (h:Int) (by omega) (by omega)]
 have e:(sizeOf (prog.elem 55)).run prog w=.ok 1 w:=by kernel_rfl
 rw[e]
 simp[Result.andThen,sliced,Addr.add_lit]
theorem yC (p q:Option Addr)(c d:Nat)(xs ys:List Int)(w:World)(hx:Arr w p xs)(hy:Arr w q ys)(hwx:Wd xs)(hwy:Wd ys)(lx:xs.length<=1048576)(hle:ys.length<=xs.length)(h2:2<=ys.length)(htop:ys.getD (ys.length-1) 0≠0) :
  Calls prog 279 #[.slice p xs.length c,.slice q ys.length d] w fun e w'=>∃v,e=.returned v∧uj w' w.heap.size (az (val xs/val ys)) (az (val xs%val ys)) v∧Kp w w':=by
 obtain⟨I,cm⟩:∃I,ys.length=I+1:=⟨ys.length-1,by omega⟩
 rw[show ys.length-1=I from by omega]at htop
 have wy:=hwy I
 obtain⟨t,ht⟩:∃t:Nat,(t:Int)=ys.getD I 0:=⟨_,b7 wy.1⟩
 have bR:t≠0:=by omega
 have co:(ys.getD I 0).toNat=t:=by omega
 obtain⟨s,hs⟩:=aA (32-aq t)
 have o:s<32:=(jM t s bR (by omega) hs).1
 obtain⟨ba,Z⟩:=qz ys hwy I t s cm co bR hs
 have ct:=yu xs ys hwx hwy I t s cm co bR hle
 have c8:=Fu t s (by omega) hs
 have b1:=tu q d s ys w hy hwy (by omega) (by omega) (by omega)
 obtain⟨b',dN,rfl,c5⟩:=hy.at (k:=I) (by omega)
 have e1:=c5 I (by omega)
 rw[<-ht]at e1
 obtain⟨R,bB⟩:=aA (az (val ys*2^s))
 have au:Wd R:=by rw[bB];exact bC _
 have W:val R=val ys*2^s:=by rw[bB];exact aV _
 rw[<-bB]at ba Z b1
 have cR:0<val ys:=lC ys I (by omega)
 have hV:0<val ys*2^s:=aQ cR (aP (by omega))
 obtain⟨N,hN⟩:=aA xs.length
 obtain⟨M,hM⟩:=aA ys.length
 obtain⟨Q,hQ⟩:=aA (N-M+1)
 rw[<-hN,<-hM,<-hQ]at ct
 rw[<-hM]at b1|-
 rw[<-hN]
 have lN:N<=1048576:=by omega
 have lM:M<=1048576:=by omega
 have lQ:Q<=1048577:=by omega
 have g1:IntKind.i64.wrap ((M:Int)-1)=(I:Int):=by rw[IntKind.wrap_i64];omega
 have i1:(I:Int)<(M:Int):=by omega
 have dq:∀w:World,(Instr.makeSlice 55 (.int .i64 ((N:Int)+1)) (.int .i64 ((N:Int)+1))).run prog w=.ok (.slice (some ⟨w.heap.size,0,none⟩) (N+1) (N+1)) (w.alloc (.cells (madeCells #[.int .u32 0] (N+1)) 120)):=by
  have:=mN (N+1) (by omega)
  rw[show((N+1:Nat):Int)=(N:Int)+1 from by omega]at this
  exact this
 have cf:∀w:World,(Instr.makeSlice 55 (.int .i64 ((N:Int)-(M:Int)+1)) (.int .i64 ((N:Int)-(M:Int)+1))).run prog w=.ok (.slice (some ⟨w.heap.size,0,none⟩) Q Q) (w.alloc (.cells (madeCells #[.int .u32 0] Q) 120)):=by
  have:=mN Q (by omega)
  rw[show(Q:Int)=(N:Int)-(M:Int)+1 from by omega]at this
  exact this
 have HA:Hid (Arr w p xs∧Wd xs∧N=xs.length∧M=ys.length∧Q=N-M+1∧M<=N∧2<=M∧s<32∧M=I+1):=⟨hx,hwx,hN,hM,hQ,by omega,by omega,o,by omega⟩
 have HV:Hid (R.length=I+1∧2147483648<=(R.getD I 0).toNat∧Wd R∧val R=val ys*2^s∧0<val ys*2^s∧val xs*2^s<val ys*2^s*4294967296^Q):=⟨ba,Z,au,W,hV,ct⟩
 clear hx hy hwx hwy lx hle h2 htop cm wy ht bR co hs o ba Z ct c5 bB au W cR hV hN hM hQ
 go_enter func279,ntmps279
 go_wp2_with (first|(go_at_call 282;refine SM (c8 _) ?_))
 refine b1.mono ?_
 rintro e w1 ⟨v,rfl,cH,b0⟩
 obtain⟨hx,hwx,hN,hM,hQ,bt,bq,o,bm⟩:=HA.out
 obtain⟨pv,cv,rfl,n,dp⟩:=cH.arr
 rw[HV.out.1,<-bm]
 obtain⟨E,aj⟩:=aA w1.heap.size
 have aw:Kp w (w1.alloc (.cells (madeCells #[.int .u32 0] (N+1)) 120)):=b0.alloc _
 have ch:Kp w1 (w1.alloc (.cells (madeCells #[.int .u32 0] (N+1)) 120)):=(Kp.refl w1).alloc _
 have cp:Rw (w1.alloc (.cells (madeCells #[.int .u32 0] (N+1)) 120)) w1.heap.size (N+1) (List.replicate (N+1) 0):=World.rowIs.congr (World.rowIs_made w1 (.int .u32 0) (N+1) 120) (fun j _=>by rw[cJ])
 have cj:=mF w1.heap.size (N+1) 0 s (N+1) c p (List.replicate (N+1) 0) xs _ cp (by simp) (fun j=>cJ (N+1) j) (hx.grown aw) hwx (fun h b off e=>by
  obtain⟨b2,o2,O,h2⟩:=hx.at h
  rw[O]at e
  cases e
  have:=be (h2 0 h)
  have:=b0.size
  omega) (by omega) (by omega) o (by omega)
 rw[<-hN,<-aj]at cj
 have bb:∀b off,pv=some ⟨b,off,none⟩->b≠E:=fun b off e=>by
  obtain⟨b2,o2,O,h2⟩:=n.at (k:=0) (by rw[HV.out.1];omega)
  rw[O]at e
  cases e
  have:=be (h2 0 (by rw[HV.out.1];omega))
  omega
 have HK:Hid (Kp w (w1.alloc (.cells (madeCells #[.int .u32 0] (N+1)) 120))∧w.heap.size<=E∧Arr (w1.alloc (.cells (madeCells #[.int .u32 0] (N+1)) 120)) pv R∧(∀b off,pv=some ⟨b,off,none⟩->b≠E)∧E<(w1.alloc (.cells (madeCells #[.int .u32 0] (N+1)) 120)).heap.size):=⟨aw,by rw[aj];exact b0.size,n.grown ch,bb,by rw[aj];exact World.rowIs.lt cp⟩
 have HG:Hid (E=w1.heap.size):=aj
 clear c8 b1 e1 g1 i1 hx hwx hN hM hQ bt bq o bm cH n dp aw ch cp b0 bb
 go_wp2_with fail
 rw[<-aj]
 clear aj
 refine cj.mono ?_
 rintro e w3 ⟨y,⟨v0,rfl⟩,z,K,H,bo,cu⟩
 obtain⟨aw,C,n,bb,dn⟩:=HK.out
 obtain⟨f,bL⟩:=aA w3.heap.size
 have cq:Kp w w3:=cu.kp aw C
 have cl:Arr w3 pv R:=by
  rcases n with h|⟨b,off,O,h2⟩
  ·exact Or.inl h
  ·exact Or.inr ⟨b,off,O,fun j hj=>cu.arr (bb b off O) (h2 j hj)⟩
 have cs:Kp w3 (w3.alloc (.cells (madeCells #[.int .u32 0] Q) 120)):=(Kp.refl w3).alloc _
 have l:Rw (w3.alloc (.cells (madeCells #[.int .u32 0] Q) 120)) w3.heap.size Q (List.replicate Q 0):=World.rowIs.congr (World.rowIs_made w3 (.int .u32 0) Q 120) (fun j _=>by rw[cJ])
 rw[<-bL]at l
 have HS:Hid (Rw (w3.alloc (.cells (madeCells #[.int .u32 0] Q) 120)) E (N+1) y∧y.length=N+1∧Wd y∧val y=val xs*2^s∧Rw (w3.alloc (.cells (madeCells #[.int .u32 0] Q) 120)) f Q (List.replicate Q 0)∧Arr (w3.alloc (.cells (madeCells #[.int .u32 0] Q) 120)) pv R∧Kp w (w3.alloc (.cells (madeCells #[.int .u32 0] Q) 120))∧w.heap.size<=E∧w.heap.size<=f∧E≠f∧(∀b off,pv=some ⟨b,off,none⟩->b≠E∧b≠f)):=⟨z.grown cs,K,H,by simpa using bo,l,cl.grown cs,cq.alloc _,C,by rw[bL];exact cq.size,by have:=World.rowIs.lt z;omega,fun b off e=>⟨bb b off e,by
  obtain⟨b2,o2,O,h2⟩:=cl.at (k:=0) (by rw[HV.out.1];omega)
  rw[O]at e
  cases e
  have:=be (h2 0 (by rw[HV.out.1];omega))
  omega⟩⟩
 clear cj HK HG z K H bo cu aw C n bb dn cq cl cs l dq
 obtain⟨X,hX⟩:=aA (val xs*2^s)
 obtain⟨V,B⟩:=aA (val ys*2^s)
 have HX:Hid (X=val xs*2^s∧V=val ys*2^s):=⟨hX,B⟩
 clear hX B
 go_wp2
 rw[<-bL]
 clear bL
 go_loopw [38] (fun ii wr=>∃(k:Nat)(y a:List Int),ii=.int .i64 k∧k<=Q∧Rw wr E (N+1) y∧y.length=N+1∧Wd y∧Rw wr f Q a∧a.length=Q∧Wd a∧(∀j,j<Q-k->a.getD j 0=0)∧val a*V+val (y.take (Q-k+M))=X∧val (y.take (Q-k+M))<V*4294967296^(Q-k)∧Arr wr pv R∧Kp w wr) (fun i _=>Q-(intOf i).toNat)
 case atStart =>
  obtain⟨z,K,H,bo,l,hA,hk,_⟩:=HS.out
  obtain⟨_,_,hN,hM,hQ,bt,bq,_,_⟩:=HA.out
  obtain⟨_,_,_,_,_,A⟩:=HV.out
  obtain⟨rfl,rfl⟩:=HX.out
  have et:y.take (Q-0+M)=y:=aY (by omega)
  refine⟨0,y,List.replicate Q 0,rfl,aW _,z,K,H,l,by simp,fun j=>by rw[cJ];omega,fun j _=>cJ Q j, ?_, ?_,hA,hk⟩
  ·rw[et,bo,fG _ (fun j=>cJ Q j),aM,bJ]
  ·rw[et,bo];exact A
 case round =>
  obtain⟨k,y,a,rfl,hk,z,K,H,l,G,P,S,F,A,n,u⟩:=hrel
  obtain⟨_,_,_,_,_,_,_,C,x,U,J⟩:=HS.out
  obtain⟨_,_,hN,hM,hQ,bt,bq,o,bm⟩:=HA.out
  obtain⟨ba,Z,au,W,hV,_⟩:=HV.out
  obtain⟨hX,B⟩:=HX.out
  by_cases ck:k<Q
  ·obtain⟨r,hr⟩:=aA (Q-1-k)
   have br:Q-k=r+1:=by omega
   rw[br,show r+1+M=r+M+1 from by omega]at F A
   have bf:R.length=M:=by omega
   have bx:=vX E (N+1) r (N+1-r) cv pv y R wr z K H n au (fun _ b off e=>(J b off e).1) (by omega) (by rw[show R.length-1=I from by omega];exact Z) (by omega) (by omega) (by omega) (by rw[bf,W,<-B];exact A)
   rw[bf,W,<-B]at bx
   obtain⟨D,hD⟩:=aA (val (y.take (r+M+1))/(V*4294967296^r))
   rw[<-hD]at bx
   have bE:=EI E r (M+1) (N+1) (by omega) (by omega)
   rw[show((r:Int)+((M+1:Nat):Int))=(r:Int)+(M:Int)+1 from by omega]at bE
   have bu:=fun m hlo=>AB a y m V r M D X (by omega) (S r (by omega)) hD hlo (by rw[B];exact hV) A F
   have fr:IntKind.i64.wrap ((Q:Int)-1-(k:Int))=(r:Int):=by rw[IntKind.wrap_i64];omega
   have ds:(Q:Int)-1-(k:Int)=(r:Int):=by omega
   have i0:(k:Int)<(Q:Int):=by omega
   have i1:(r:Int)<(Q:Int):=by omega
   have lr:r<=1048576:=by omega
   have cN:r<Q:=by omega
   have HH:Hid (∀m:List Int,val (m.take (r+M))=val (y.take (r+M+1))%(V*4294967296^r)->val (a.set r (D:Int))*V+val (m.take (r+M))=X∧val (m.take (r+M))<V*4294967296^r∧D<4294967296):=bu
   have HI:Hid (Rw wr f Q a∧a.length=Q∧Wd a∧(∀j,j<Q-k->a.getD j 0=0)∧Arr wr pv R∧Kp w wr∧w.heap.size<=E∧w.heap.size<=f∧E≠f∧(∀b off,pv=some ⟨b,off,none⟩->b≠E∧b≠f)∧Q-k=r+1∧Q-(k+1)=r):=⟨l,G,P,S,n,u,C,x,U,J,br,by omega⟩
   clear HA HV HX HS z K H l G P S F A n u C x U J hN hM hQ bt bq o bm ba Z au W hV hX B hr br bf hD bu hk cf
   go_wp2_with fail
   refine bx.mono ?_
   rintro e w' ⟨m,rfl,ca,b9,cg,cd,ab⟩
   obtain⟨l,G,P,S,n,u,C,x,U,J,br,cx⟩:=HI.out
   obtain⟨bH,b4,dc⟩:=HH.out m cd
   have aa:Rw w' f Q a:=l.kb ab (Ne.symm U)
   have e3:=World.rowIs.cell aa (i:=r) cN
   have e4:=World.rowIs.frozen aa r
   have dd:Rw (w'.setCell ⟨f,r,none⟩ (.int .u32 (D:Int))) f Q (a.set r (D:Int)):=aa.set r (D:Int) (by omega)
   have b3:Kb f w' (w'.setCell ⟨f,r,none⟩ (.int .u32 (D:Int))):=(Kb.refl f w').setCell r _
   have cD:Rw (w'.setCell ⟨f,r,none⟩ (.int .u32 (D:Int))) E (N+1) m:=ca.kb b3 U
   have cY:Kp w (w'.setCell ⟨f,r,none⟩ (.int .u32 (D:Int))):=b3.kp (ab.kp u C) x
   have ce:Arr (w'.setCell ⟨f,r,none⟩ (.int .u32 (D:Int))) pv R:=by
    rcases n with h|⟨b,off,O,h2⟩
    ·exact Or.inl h
    ·exact Or.inr ⟨b,off,O,fun j hj=>b3.arr (J b off O).2 (ab.arr (J b off O).1 (h2 j hj))⟩
   have cL:Wd (a.set r (D:Int)):=P.set r D (by omega)
   have de:(a.set r (D:Int)).length=Q:=by rw[bg];exact G
   have c7:∀j,j<Q-(k+1)->(a.set r (D:Int)).getD j 0=0:=fun j hj=>by
    have e2:(a.set r (D:Int)).getD j 0=a.getD j 0:=by simp[List.getD,show ¬r=j from by omega]
    rw[e2,S j (by omega)]
   rw[<-cx]at bH b4
   have db:Hid (val (a.set r (D:Int))*V+val (m.take (Q-(k+1)+M))=X∧val (m.take (Q-(k+1)+M))<V*4294967296^(Q-(k+1))):=by
    rw[cx]at bH b4|-
    exact⟨bH,b4⟩
   have HF:Hid (Rw (w'.setCell ⟨f,r,none⟩ (.int .u32 (D:Int))) E (N+1) m∧m.length=N+1∧Wd m∧Rw (w'.setCell ⟨f,r,none⟩ (.int .u32 (D:Int))) f Q (a.set r (D:Int))∧(a.set r (D:Int)).length=Q∧Wd (a.set r (D:Int))∧(∀j,j<Q-(k+1)->(a.set r (D:Int)).getD j 0=0)∧Arr (w'.setCell ⟨f,r,none⟩ (.int .u32 (D:Int))) pv R∧Kp w (w'.setCell ⟨f,r,none⟩ (.int .u32 (D:Int)))):=⟨cD,b9,cg,dd,de,cL,c7,ce,cY⟩
   have cn:k+1<=Q:=by omega
   clear HH HI bx ca b9 cg cd ab l G P S n u C x U J br cx bH b4 dc aa dd b3 cD cY ce cL de c7 bE fr ds lr cN
   go_wp2
   obtain⟨a1,a2,a3,a4,a5,a6,a7,a8,a9⟩:=HF.out
   exact⟨⟨k+1,m,a.set r (D:Int),by go_num,cn,a1,a2,a3,a4,a5,a6,a7,db.out.1,db.out.2,a8,a9⟩,by simp[intOf];omega⟩
  ·have cn:k=Q:=by omega
   subst cn
   rw[Nat.sub_self,bJ]at F A
   rw[aB,aG]at A
   have ad:=yv (val xs) (val ys) s (val a) (val (y.take M)) (by rw[<-B,<-hX];exact F) (by rw[<-B];exact A)
   have cE:∀w',Kp wr w'->Arr w' (some ⟨f,0,none⟩) a:=fun w' h=>(l.grown h).all G
   have c0:∀w',Kp wr w'->Arr w' (some ⟨E,0,none⟩) (y.take M):=fun w' h=>by
    have:=(z.grown h).arr M (by omega) (by omega)
    exact this
   have cc:(y.take M).length=M:=by rw[dG];omega
   have bX:=fun w' h=>dD.1 (some ⟨f,0,none⟩) k a w' (cE w' h) (by omega) (by omega)
   have bn:=fun w' h=>qG (some ⟨E,0,none⟩) (N+1) s (y.take M) w' (c0 w' h) (H.take M) (by omega) (by omega) (by omega)
   rw[cc,ad.2]at bn
   rw[G]at bX
   have an:∀w',Kp wr w'->Own w' w.heap.size (.slice (some ⟨f,0,none⟩) (tl a) k) (az (val xs/val ys)):=fun w' h=>by
    have O:=Own.of_row (base:=w.heap.size) (k:=tl a) (l.grown h) x (by have:=dJ a;omega) G (by unfold maxLen;omega)
    have h2:a.take (tl a)=az (val xs/val ys):=by rw[<-ad.1,<-eZ a P];rfl
    rw[h2]at O
    exact O
   have Y:tl a=(az (val xs/val ys)).length:=by rw[<-ad.1,fS a P];rfl
   have bE:=Ch E M (N+1) (by omega)
   have L:f<wr.heap.size:=World.rowIs.lt l
   obtain⟨T,hT⟩:=aA (tl a)
   rw[<-hT]at bX an Y
   have da:IntKind.i64.wrap (M:Int)=(M:Int):=by rw[IntKind.wrap_i64];omega
   have i2:¬((k:Int)<(k:Int)):=by omega
   have HF:Hid ((∀w',Kp wr w'->Own w' w.heap.size (.slice (some ⟨f,0,none⟩) T k) (az (val xs/val ys)))∧T=(az (val xs/val ys)).length∧f<wr.heap.size∧Kp w wr):=⟨an,Y,L,u⟩
   clear HA HV HX HS z K H l G P S F A n u C x U J hN hM hQ bt bq o bm ba Z au W hV hX B ad cE c0 cc an Y L hT hk ck cf
   go_wp2
   go_region_held3 (fun w'=>Kp wr w') (first|assumption|(exact(Kp.refl _).drew)|(exact Kp.trans (by assumption) (by assumption))) (first|(go_at_call 241;refine(bX _ (by assumption)).mono ?_;rintro e w' ⟨rfl,dr⟩;obtain rfl:=dr.symm)|(go_at_call 276;refine(bn _ (by assumption)).mono ?_;rintro e w' ⟨vr,rfl,bl,c1⟩))
   all_goals
    obtain⟨an,Y,L,u⟩:=HF.out
    have ci:Kp wr w':=((Kp.refl wr).drew).trans c1
    have cV:Kp w w':=u.trans ci
    have cb:uj w' w.heap.size (az (val xs/val ys)) (az (val xs%val ys)) (.tuple #[.slice (some ⟨f,0,none⟩) T k,vr]):=by
     obtain⟨pr,cr,rfl,eN⟩:=bl.len
     refine⟨some ⟨f,0,none⟩,k,pr,cr,by rw[Y],by rw[<-Y];exact an w' ci,bl.mono u.size,fun g e e2=>?_⟩
     cases e
     rw[e2]at bl
     have O:=bl.above.1
     have h2:f<wr.heap.size:=L
     have h3:wr.heap.size<=f:=O
     omega
    have HZ:Hid (uj w' w.heap.size (az (val xs/val ys)) (az (val xs%val ys)) (.tuple #[.slice (some ⟨f,0,none⟩) T k,vr])∧Kp w w'):=⟨cb,cV⟩
    clear HF an Y L u ci cV cb bl c1 bX bn bE da
    go_wp2
    exact BR ⟨_,rfl,HZ.out.1,HZ.out.2⟩
theorem qm (p q:Option Addr)(c d:Nat)(xs ys:List Int)(w:World)(hx:Arr w p xs)(hy:Arr w q ys)(hwx:Wd xs)(hwy:Wd ys)(lx:xs.length<=1099511627776)(ly:ys.length<=1099511627776) :
  Calls prog 134 #[.slice p xs.length c,.slice q ys.length d] w (RT (.int .i64 (dW (val xs) (val ys))) w):=by
 have E:=dD.2 p c xs w hx lx
 have D:=dD.2 q d ys w hy ly
 have lS:=dJ xs
 have U:=dJ ys
 have g:Kp w w:=Kp.refl w
 have A:=fun h=>gJ (iF xs ys hwx hwy h)
 have y:=fun h=>mn (iF ys xs hwy hwx h)
 have s:tl xs=tl ys->(∀j,j<tl xs->xs.getD j 0=ys.getD j 0)->dW (val xs) (val ys)=0:=fun e h=>by
  apply ud
  rw[<-el xs,<-el ys,<-e]
  exact uc xs ys _ h
 have x:∀k,tl xs=tl ys->k<tl xs->xs.getD k 0<ys.getD k 0->(∀j,k<j->j<tl xs->xs.getD j 0=ys.getD j 0)->dW (val xs) (val ys) = -1:=fun k e E D h3=>by
  apply gJ
  rw[<-el xs,<-el ys,<-e]
  exact mm xs ys hwx k (hwx k).1 D _ E h3
 have u:∀k,tl xs=tl ys->k<tl xs->ys.getD k 0<xs.getD k 0->(∀j,k<j->j<tl xs->xs.getD j 0=ys.getD j 0)->dW (val xs) (val ys)=1:=fun k e E D h3=>by
  apply mn
  rw[<-el xs,<-el ys,<-e]
  exact mm ys xs hwy k (hwy k).1 D _ E (fun j a b=>(h3 j a b).symm)
 obtain⟨R,hR⟩:=aA (dW (val xs) (val ys))
 obtain⟨N,Q⟩:=aA xs.length
 obtain⟨M,O⟩:=aA ys.length
 obtain⟨S,hS⟩:=aA (tl xs)
 obtain⟨T,hT⟩:=aA (tl ys)
 rw[<-hS,<-Q]at E lS
 rw[<-hT,<-O]at D U
 rw[<-hS,<-hT,<-hR]at A y s x u
 rw[<-Q,<-O,<-hR]
 have V:Hid (Arr w p xs):=hx
 have HY:Hid (Arr w q ys):=hy
 have W:Hid (N=xs.length∧M=ys.length):=⟨Q,O⟩
 have bb:S<=1099511627776:=by omega
 clear hx hy hwx hwy lx ly Q O hS hT hR
 rcases Nat.lt_trichotomy S T with r|r|r
 ·rw[A r]
  have t1:(S:Int)<(T:Int):=by omega
  clear A y s x u V HY W r lS U
  go_enter func134,ntmps134
  go_wp2_with fail
  refine SM E ?_
  go_wp2_with fail
  refine SM D ?_
  go_wp2
  exact BR ⟨rfl,g⟩
 ·subst r
  have t1:¬((S:Int)<(S:Int)):=by omega
  have HD:Hid ((∀j,j<S->xs.getD j 0=ys.getD j 0)->R=0):=s rfl
  have HL:Hid (∀k,k<S->xs.getD k 0<ys.getD k 0->(∀j,k<j->j<S->xs.getD j 0=ys.getD j 0)->R = -1):=fun k=>x k rfl
  have HR:Hid (∀k,k<S->ys.getD k 0<xs.getD k 0->(∀j,k<j->j<S->xs.getD j 0=ys.getD j 0)->R=1):=fun k=>u k rfl
  clear A y s x u
  go_enter func134,ntmps134
  go_wp2_with fail
  refine SM E ?_
  go_wp2_with fail
  refine SM D ?_
  clear E D
  go_wp2
  clear t1
  go_loopw [7] (fun i wr=>∃(k:Nat)(z:Int),k<=S∧z=(k:Int)-1∧i=.int .i64 z∧Kp w wr∧∀j,k<=j->j<S->xs.getD j 0=ys.getD j 0) (fun i _=>(intOf i+1).toNat)
  case atStart=>exact⟨S,_,ao _,rfl,by go_num,g,fun j _ _=>by omega⟩
  case round =>
   clear g
   obtain⟨k,z,hk,hz,rfl,g,P⟩:=hrel
   rcases k with _|k
   ·have aw:=HD.out (fun j hj=>P j (aW _) hj)
    subst aw
    have F:z = -1:=by omega
    subst F
    clear hz V HY W HD HL HR P hk lS U
    go_wp2
    exact BR ⟨rfl,g⟩
   ·have F:z=(k:Int):=by omega
    subst F
    obtain⟨Q,O⟩:=W.out
    obtain⟨b,t,rfl,hc⟩:=V.out.at (k:=k) (by omega)
    obtain⟨b',l,rfl,Z⟩:=HY.out.at (k:=k) (by omega)
    have o:=ac g (hc k (by omega))
    have m:=ac g (Z k (by omega))
    have i0:(0:Int)<=(k:Int):=by omega
    have i1:(k:Int)<(N:Int):=by omega
    have i2:(k:Int)<(M:Int):=by omega
    have L:=fun h=>HL.out k (by omega) h (fun j a b=>P j (by omega) b)
    have rg:=fun h=>HR.out k (by omega) h (fun j a b=>P j (by omega) b)
    have J:xs.getD k 0=ys.getD k 0->∀j,k<=j->j<S->xs.getD j 0=ys.getD j 0:=fun h j a b=>by
     by_cases e:j=k
     ·subst e;exact h
     ·exact P j (by omega) b
    obtain⟨X,hX⟩:=aA (xs.getD k 0)
    obtain⟨Y,hY⟩:=aA (ys.getD k 0)
    rw[<-hX]at o L rg J
    rw[<-hY]at m L rg J
    have a0:k<=S:=by omega
    clear hc Z V HY W HD HL HR P Q O hX hY hz hk lS U
    rcases(by omega:X<Y∨Y<X∨X=Y)with K|K|K
    ·have H:=L K
     subst H
     clear L rg J
     go_wp2
     refine eF (by kernel_rfl) (by kernel_rfl) (fun ι _ G hG hall=>?_)
     have B:∀n,(G n).cell? ⟨b,t+k,none⟩=some (.int .u32 X):=fun n=>ac (hG n) o
     have C:∀n,(G n).cell? ⟨b',l+k,none⟩=some (.int .u32 Y):=fun n=>ac (hG n) m
     repeat(go_big_quiet_step (fail))
     refine wpQuiet_nil ?_
     rintro _ ⟨nq,rfl⟩
     have f:=hG nq
     replace o:=ac f o
     replace m:=ac f m
     replace g:=g.trans f
     clear B C hall hG f
     go_wp2
     exact BR ⟨rfl,g⟩
    ·have H:=rg K
     subst H
     have cy:¬(X<Y):=by omega
     clear L rg J
     go_wp2
     refine eF (by kernel_rfl) (by kernel_rfl) (fun ι _ G hG hall=>?_)
     have B:∀n,(G n).cell? ⟨b,t+k,none⟩=some (.int .u32 X):=fun n=>ac (hG n) o
     have C:∀n,(G n).cell? ⟨b',l+k,none⟩=some (.int .u32 Y):=fun n=>ac (hG n) m
     repeat(go_big_quiet_step (fail))
     refine wpQuiet_nil ?_
     rintro _ ⟨nq,rfl⟩
     have f:=hG nq
     replace o:=ac f o
     replace m:=ac f m
     replace g:=g.trans f
     clear B C hall hG f
     go_wp2
     refine eF (by kernel_rfl) (by kernel_rfl) (fun ι2 _ G2 hG hall=>?_)
     have B:∀n,(G2 n).cell? ⟨b,t+k,none⟩=some (.int .u32 X):=fun n=>ac (hG n) o
     have C:∀n,(G2 n).cell? ⟨b',l+k,none⟩=some (.int .u32 Y):=fun n=>ac (hG n) m
     repeat(go_big_quiet_step (fail))
     refine wpQuiet_nil ?_
     rintro _ ⟨I,rfl⟩
     have f:=hG I
     replace o:=ac f o
     replace m:=ac f m
     replace g:=g.trans f
     clear B C hall hG f
     go_wp2
     exact BR ⟨rfl,g⟩
    ·have a1:=J K
     subst K
     have cy:¬(X<X):=by omega
     clear L rg J
     go_wp2
     refine eF (by kernel_rfl) (by kernel_rfl) (fun ι _ G hG hall=>?_)
     have B:∀n,(G n).cell? ⟨b,t+k,none⟩=some (.int .u32 X):=fun n=>ac (hG n) o
     have C:∀n,(G n).cell? ⟨b',l+k,none⟩=some (.int .u32 X):=fun n=>ac (hG n) m
     repeat(go_big_quiet_step (fail))
     refine wpQuiet_nil ?_
     rintro _ ⟨nq,rfl⟩
     have f:=hG nq
     replace o:=ac f o
     replace m:=ac f m
     replace g:=g.trans f
     clear B C hall hG f
     go_wp2
     refine eF (by kernel_rfl) (by kernel_rfl) (fun ι2 _ G2 hG hall=>?_)
     have B:∀n,(G2 n).cell? ⟨b,t+k,none⟩=some (.int .u32 X):=fun n=>ac (hG n) o
     have C:∀n,(G2 n).cell? ⟨b',l+k,none⟩=some (.int .u32 X):=fun n=>ac (hG n) m
     repeat(go_big_quiet_step (fail))
     refine wpQuiet_nil ?_
     rintro _ ⟨I,rfl⟩
     have f:=hG I
     replace o:=ac f o
     replace m:=ac f m
     replace g:=g.trans f
     clear B C hall hG f
     go_wp2
     exact⟨⟨k,_,a0,rfl,by go_num,g,a1⟩,by simp[intOf]⟩
 ·rw[y r]
  have t1:¬((S:Int)<(T:Int)):=by omega
  have t2:(T:Int)<(S:Int):=by omega
  clear A y s x u V HY W r lS U
  go_enter func134,ntmps134
  go_wp2_with fail
  refine SM E ?_
  go_wp2_with fail
  refine SM D ?_
  go_wp2
  exact BR ⟨rfl,g⟩
theorem zi (p q:Option Addr)(c d:Nat)(zs ys:List Int)(w:World)(hz:Arr w p zs)(hy:Arr w q ys)(hwz:Wd zs)(hwy:Wd ys)(hl:zs.length=ys.length+1)(h1:1<=ys.length)(ly:ys.length<=1048577) :
  Calls prog 203 #[.slice p zs.length c,.slice q ys.length d] w (RT (.int .u64 (jJ (zs.getD ys.length 0).toNat (zs.getD (ys.length-1) 0).toNat (ys.getD (ys.length-1) 0).toNat:Nat)) w):=by
 obtain⟨M,G⟩:=aA ys.length
 obtain⟨k,Z⟩:=aA (M-1)
 obtain⟨b,a,rfl,F⟩:=hz.at (k:=0) (by omega)
 obtain⟨U,f,rfl,s⟩:=hy.at (k:=0) (by omega)
 have B:=F M (by omega)
 have h:=F k (by omega)
 have A:=s k (by omega)
 have N:=hwz M
 have J:=hwz k
 have V:=hwy k
 obtain⟨z,j⟩:∃z:Nat,(z:Int)=zs.getD M 0:=⟨_,b7 N.1⟩
 obtain⟨y,g⟩:∃y:Nat,(y:Int)=zs.getD k 0:=⟨_,b7 J.1⟩
 obtain⟨v,i⟩:∃v:Nat,(v:Int)=ys.getD k 0:=⟨_,b7 V.1⟩
 rw[<-j]at B
 rw[<-g]at h
 rw[<-i]at A
 rw[<-G,<-Z,<-j,<-g,<-i,av,av,av,hl,<-G]
 obtain⟨S,X⟩:=aA (z*4294967296)
 obtain⟨l,m⟩:=aA (z*4294967296+y)
 obtain⟨n,C⟩:=aA (v+1)
 obtain⟨x,E⟩:=aA (l/n)
 have W:jJ z y v=if x=0 then 1 else x:=by unfold jJ;rw[<-m,<-C,<-E]
 rw[W]
 have r:x<=l:=by rw[E];exact cS _ _
 have K:IntKind.u64.wrap (z:Int)=(z:Int):=by rw[IntKind.wrap_u64];omega
 have L:IntKind.u64.wrap (y:Int)=(y:Int):=by rw[IntKind.wrap_u64];omega
 have u:IntKind.u64.wrap (v:Int)=(v:Int):=by rw[IntKind.wrap_u64];omega
 have D:IntKind.u64.wrap ((v:Int)+1)=(n:Int):=by rw[IntKind.wrap_u64];omega
 have H:IntKind.u64.wrap ((z:Int)*4294967296)=(S:Int):=by rw[IntKind.wrap_u64];omega
 have O:bits BinOp.or IntKind.u64 (S:Int) (y:Int)=(l:Int):=by
  rw[X,bits_or_u64_nat (z*4294967296) y (by omega) (by omega)]
  have h:z*4294967296 ||| y=l:=by
   rw[eH,m]
   have:=fZ y z 32 (by omega)
   rw[show(2:Nat)^32=4294967296 from rfl]at this
   omega
  rw[h]
 have R:(l:Int)/(n:Int)=(x:Int):=by rw[E];exact(eJ l n).symm
 have o:Int.tdiv (l:Int) (n:Int)=(x:Int):=by rw[E];rfl
 have t:IntKind.u64.wrap (x:Int)=(x:Int):=by rw[IntKind.wrap_u64];omega
 have T:¬n=0:=by omega
 have I:IntKind.i64.wrap ((M:Int)-1)=(k:Int):=by rw[IntKind.wrap_i64];omega
 have i0:(M:Int)<(M:Int)+1:=by omega
 have Y:(k:Int)<(M:Int)+1:=by omega
 have P:(k:Int)<(M:Int):=by omega
 clear hz hy hwz hwy hl h1 ly F s N J V j g i m C X E W r G Z
 by_cases Q:x=0
 ·subst Q
  rw[if_pos rfl]
  go_enter func203,ntmps203
  go_wp2
  go_region_held3 (fun w'=>w'.cell? ⟨b,a+M,none⟩=some (.int .u32 (z:Int))∧w'.cell? ⟨b,a+k,none⟩=some (.int .u32 (y:Int))∧w'.cell? ⟨U,f+k,none⟩=some (.int .u32 (v:Int))) (exact⟨B,h,A⟩) (fail)
  clear R o t K L u D H O T B h A i0 Y P I
  go_wp2
  exact BR ⟨rfl,(Kp.refl _).drew⟩
 ·rw[if_neg Q]
  have t1:((x:Int) == 0)=false:=by simp;omega
  go_enter func203,ntmps203
  go_wp2
  go_region_held3 (fun w'=>w'.cell? ⟨b,a+M,none⟩=some (.int .u32 (z:Int))∧w'.cell? ⟨b,a+k,none⟩=some (.int .u32 (y:Int))∧w'.cell? ⟨U,f+k,none⟩=some (.int .u32 (v:Int))) (exact⟨B,h,A⟩) (fail)
  clear R o t K L u D H O T B h A i0 Y P I
  go_wp2
  exact BR ⟨rfl,(Kp.refl _).drew⟩
theorem Co (g n d X:Nat)(q:Option Addr)(zs ys:List Int)(w:World)(hr:Rw w g n zs)(hzl:zs.length=n)(hwz:Wd zs)(hy:Arr w q ys)(hwy:Wd ys)(hX:X<4294967296)(hq:0<ys.length->∀b off,q=some ⟨b,off,none⟩->b≠g)(hin:ys.length+1=n)(hn:n<=16777216)(hle:val ys*X<=val zs) :
  Calls prog 204 #[.slice (some ⟨g,0,none⟩) n n,.slice q ys.length d,.int .u64 (X:Int)] w fun e w'=>∃us:List Int,e=.returned (.tuple #[])∧Rw w' g n us∧us.length=n∧Wd us∧val us=val zs-val ys*X∧Kb g w w':=by
 obtain⟨M,L⟩:=aA ys.length
 rw[<-L]at hin|-
 have Q:Hid (Arr w q ys∧(0<ys.length->∀b off,q=some ⟨b,off,none⟩->b≠g)∧val ys*X<=val zs):=⟨hy,hq,hle⟩
 have HW:Hid (Wd ys∧M=ys.length):=⟨hwy,L⟩
 have N:Hid (Rw w g n zs∧zs.length=n∧Wd zs):=⟨hr,hzl,hwz⟩
 clear hy hq hwy L hr hzl hwz hle
 go_enter func204,ntmps204
 go_wp2
 go_loopw [6,7,8] (fun oo bb ii wr=>∃(k O b:Nat)(us:List Int),oo=.int .u64 (O:Int)∧bb=.int .u64 (b:Int)∧ii=.int .i64 k∧k<=n∧Rw wr g n us∧us.length=n∧Wd us∧O<4294967296∧b<=1∧val us+val (ys.take k)*X=val zs+(O+b)*4294967296^k∧Kb g w wr) (fun _ _ i _=>n-(intOf i).toNat)
 case atStart=>exact⟨0,0,0,zs,rfl,rfl,rfl,aW _,N.out.1,N.out.2.1,N.out.2.2,by omega,by omega,by simp[val],Kb.refl _ _⟩
 case round =>
  obtain⟨k,O,I,us,rfl,rfl,rfl,hk,a,o,j,hO,C,B,m⟩:=hrel
  obtain⟨hwy,L⟩:=HW.out
  by_cases ck:k<n
  ·have e1:=World.rowIs.cell a (i:=k) (by omega)
   have e4:=World.rowIs.frozen a k
   have wz:=j k
   obtain⟨h,t⟩:∃h:Nat,(h:Int)=us.getD k 0:=⟨(us.getD k 0).toNat,by omega⟩
   rw[<-t]at e1
   have i1:(k:Int)<(n:Int):=by omega
   have i0:(0:Int)<=(k:Int):=by omega
   have J:k+1<=n:=by omega
   by_cases cm:k<M
   ·obtain⟨b',a0,rfl,bc⟩:=Q.out.1.at (k:=k) (by omega)
    have bf:=Q.out.2.1 (by omega) b' a0 rfl
    have e2:=m.arr bf (bc k (by omega))
    have wy:=hwy k
    obtain⟨Y,hY⟩:∃Y:Nat,(Y:Int)=ys.getD k 0:=⟨(ys.getD k 0).toNat,by omega⟩
    rw[<-hY]at e2
    have s:(ys.getD k 0).toNat=Y:=by rw[<-hY,av]
    have x:=kt Y X O 0 (by omega) hX hO (by omega)
    obtain⟨P,z⟩:=aA (Y*X)
    rw[<-z]at x
    have f1:IntKind.u64.wrap (Y:Int)=(Y:Int):=by rw[IntKind.wrap_u64];omega
    have f2:IntKind.u64.wrap ((Y:Int)*(X:Int))=(P:Int):=by
     have:(Y:Int)*(X:Int)=(P:Int):=by rw[z];exact(aK Y X).symm
     rw[this,IntKind.wrap_u64];omega
    obtain⟨S,V⟩:∃S:Nat,S=O+P:=⟨_,rfl⟩
    have f3:IntKind.u64.wrap ((O:Int)+(P:Int))=(S:Int):=by rw[IntKind.wrap_u64];omega
    have i2:(k:Int)<(M:Int):=by omega
    clear bc bf wy hY
    have f8:=kK S (by omega)
    obtain⟨y,u⟩:∃y:Nat,y=S%4294967296:=⟨_,rfl⟩
    obtain⟨H,hH⟩:∃H:Nat,H=S/4294967296:=⟨_,rfl⟩
    rw[<-u]at f8
    have f9:(S:Int)/4294967296=(H:Int):=by omega
    obtain⟨r,E⟩:∃r:Nat,r=y+I:=⟨_,rfl⟩
    have bu:IntKind.u64.wrap ((y:Int)+(I:Int))=(r:Int):=by rw[IntKind.wrap_u64];omega
    have br:IntKind.u64.wrap (h:Int)=(h:Int):=by rw[IntKind.wrap_u64];omega
    by_cases ct:h<r
    ·have t3:((h:Int)<(r:Int)):=by omega
     obtain⟨D,T⟩:∃D:Nat,D=h+4294967296-r:=⟨_,rfl⟩
     obtain⟨K,U⟩:∃K:Nat,K=h+4294967296:=⟨_,rfl⟩
     have bx:IntKind.u64.wrap ((h:Int)+4294967296)=(K:Int):=by rw[IntKind.wrap_u64];omega
     have au:IntKind.u64.wrap ((K:Int)-(r:Int))=(D:Int):=by rw[IntKind.wrap_u64];omega
     have Z:IntKind.u32.wrap (D:Int)=(D:Int):=by rw[IntKind.wrap_u32];omega
     have f:=iG us ys 0 k O I 1 H y D Y h X (val zs) (by omega) (by rw[bJ];exact t.symm) s (by rw[<-z];omega) (by omega) (by simpa only[aB,aG,bJ]using B)
     simp only[aB,aG,bJ]at f
     have c:H<4294967296:=by omega
     have l:Wd (us.set k (D:Int)):=j.set k D (by omega)
     have p:(us.set k (D:Int)).length=n:=by rw[bg];exact o
     have F:=a.set k (D:Int) (by omega)
     have A:=m.setCell k (.int .u32 (D:Int))
     have G:Hid (Rw (wr.setCell ⟨g,k,none⟩ (.int .u32 (D:Int))) g n (us.set k (D:Int))∧(us.set k (D:Int)).length=n∧Wd (us.set k (D:Int))∧H<4294967296∧val (us.set k (D:Int))+val (ys.take (k+1))*X=val zs+(H+1)*4294967296^(k+1)∧Kb g w (wr.setCell ⟨g,k,none⟩ (.int .u32 (D:Int)))):=⟨F,p,l,c,f,A⟩
     clear Q HW N hwy L s t u hH V B z wz j hO C o x T E a m f c l p F A ct U hk
     go_wp2
     obtain⟨a1,a2,a3,R,a5,a6⟩:=G.out
     exact⟨⟨k+1,H,1,us.set k (D:Int),rfl,rfl,by go_num,J,a1,a2,a3,R,by omega,a5,a6⟩,by simp[intOf];omega⟩
    ·have t3:¬((h:Int)<(r:Int)):=by omega
     obtain⟨D,T⟩:∃D:Nat,D=h-r:=⟨_,rfl⟩
     have au:IntKind.u64.wrap ((h:Int)-(r:Int))=(D:Int):=by rw[IntKind.wrap_u64];omega
     have Z:IntKind.u32.wrap (D:Int)=(D:Int):=by rw[IntKind.wrap_u32];omega
     have f:=iG us ys 0 k O I 0 H y D Y h X (val zs) (by omega) (by rw[bJ];exact t.symm) s (by rw[<-z];omega) (by omega) (by simpa only[aB,aG,bJ]using B)
     simp only[aB,aG,bJ]at f
     have c:H<4294967296:=by omega
     have l:Wd (us.set k (D:Int)):=j.set k D (by omega)
     have p:(us.set k (D:Int)).length=n:=by rw[bg];exact o
     have F:=a.set k (D:Int) (by omega)
     have A:=m.setCell k (.int .u32 (D:Int))
     have G:Hid (Rw (wr.setCell ⟨g,k,none⟩ (.int .u32 (D:Int))) g n (us.set k (D:Int))∧(us.set k (D:Int)).length=n∧Wd (us.set k (D:Int))∧H<4294967296∧val (us.set k (D:Int))+val (ys.take (k+1))*X=val zs+(H+0)*4294967296^(k+1)∧Kb g w (wr.setCell ⟨g,k,none⟩ (.int .u32 (D:Int)))):=⟨F,p,l,c,f,A⟩
     clear Q HW N hwy L s t u hH V B z wz j hO C o x T E a m f c l p F A ct hk
     go_wp2
     obtain⟨a1,a2,a3,R,a5,a6⟩:=G.out
     exact⟨⟨k+1,H,0,us.set k (D:Int),rfl,rfl,by go_num,J,a1,a2,a3,R,by omega,a5,a6⟩,by simp[intOf];omega⟩
   ·obtain⟨Y,W⟩:∃Y:Nat,Y=0:=⟨_,rfl⟩
    have s:(ys.getD k 0).toNat=Y:=by
     rw[W];simp[List.getD,List.getElem?_eq_none (show ys.length<=k from by omega)]
    obtain⟨P,z⟩:=aA (Y*X)
    have bl:P=0:=by rw[z,W,aM]
    obtain⟨S,V⟩:∃S:Nat,S=O:=⟨_,rfl⟩
    have x:O<4294967296:=hO
    rw[<-V]
    have a8:=V.symm
    have i2:¬(k:Int)<(M:Int):=by omega
    clear W
    have f8:=kK S (by omega)
    obtain⟨y,u⟩:∃y:Nat,y=S%4294967296:=⟨_,rfl⟩
    obtain⟨H,hH⟩:∃H:Nat,H=S/4294967296:=⟨_,rfl⟩
    rw[<-u]at f8
    have f9:(S:Int)/4294967296=(H:Int):=by omega
    obtain⟨r,E⟩:∃r:Nat,r=y+I:=⟨_,rfl⟩
    have bu:IntKind.u64.wrap ((y:Int)+(I:Int))=(r:Int):=by rw[IntKind.wrap_u64];omega
    have br:IntKind.u64.wrap (h:Int)=(h:Int):=by rw[IntKind.wrap_u64];omega
    by_cases ct:h<r
    ·have t3:((h:Int)<(r:Int)):=by omega
     obtain⟨D,T⟩:∃D:Nat,D=h+4294967296-r:=⟨_,rfl⟩
     obtain⟨K,U⟩:∃K:Nat,K=h+4294967296:=⟨_,rfl⟩
     have bx:IntKind.u64.wrap ((h:Int)+4294967296)=(K:Int):=by rw[IntKind.wrap_u64];omega
     have au:IntKind.u64.wrap ((K:Int)-(r:Int))=(D:Int):=by rw[IntKind.wrap_u64];omega
     have Z:IntKind.u32.wrap (D:Int)=(D:Int):=by rw[IntKind.wrap_u32];omega
     have f:=iG us ys 0 k O I 1 H y D Y h X (val zs) (by omega) (by rw[bJ];exact t.symm) s (by rw[<-z];omega) (by omega) (by simpa only[aB,aG,bJ]using B)
     simp only[aB,aG,bJ]at f
     have c:H<4294967296:=by omega
     have l:Wd (us.set k (D:Int)):=j.set k D (by omega)
     have p:(us.set k (D:Int)).length=n:=by rw[bg];exact o
     have F:=a.set k (D:Int) (by omega)
     have A:=m.setCell k (.int .u32 (D:Int))
     have G:Hid (Rw (wr.setCell ⟨g,k,none⟩ (.int .u32 (D:Int))) g n (us.set k (D:Int))∧(us.set k (D:Int)).length=n∧Wd (us.set k (D:Int))∧H<4294967296∧val (us.set k (D:Int))+val (ys.take (k+1))*X=val zs+(H+1)*4294967296^(k+1)∧Kb g w (wr.setCell ⟨g,k,none⟩ (.int .u32 (D:Int)))):=⟨F,p,l,c,f,A⟩
     clear a8 bl Q HW N hwy L s t u hH V B z wz j hO C o x T E a m f c l p F A ct U hk
     go_wp2
     obtain⟨a1,a2,a3,R,a5,a6⟩:=G.out
     exact⟨⟨k+1,H,1,us.set k (D:Int),rfl,rfl,by go_num,J,a1,a2,a3,R,by omega,a5,a6⟩,by simp[intOf];omega⟩
    ·have t3:¬((h:Int)<(r:Int)):=by omega
     obtain⟨D,T⟩:∃D:Nat,D=h-r:=⟨_,rfl⟩
     have au:IntKind.u64.wrap ((h:Int)-(r:Int))=(D:Int):=by rw[IntKind.wrap_u64];omega
     have Z:IntKind.u32.wrap (D:Int)=(D:Int):=by rw[IntKind.wrap_u32];omega
     have f:=iG us ys 0 k O I 0 H y D Y h X (val zs) (by omega) (by rw[bJ];exact t.symm) s (by rw[<-z];omega) (by omega) (by simpa only[aB,aG,bJ]using B)
     simp only[aB,aG,bJ]at f
     have c:H<4294967296:=by omega
     have l:Wd (us.set k (D:Int)):=j.set k D (by omega)
     have p:(us.set k (D:Int)).length=n:=by rw[bg];exact o
     have F:=a.set k (D:Int) (by omega)
     have A:=m.setCell k (.int .u32 (D:Int))
     have G:Hid (Rw (wr.setCell ⟨g,k,none⟩ (.int .u32 (D:Int))) g n (us.set k (D:Int))∧(us.set k (D:Int)).length=n∧Wd (us.set k (D:Int))∧H<4294967296∧val (us.set k (D:Int))+val (ys.take (k+1))*X=val zs+(H+0)*4294967296^(k+1)∧Kb g w (wr.setCell ⟨g,k,none⟩ (.int .u32 (D:Int)))):=⟨F,p,l,c,f,A⟩
     clear a8 bl Q HW N hwy L s t u hH V B z wz j hO C o x T E a m f c l p F A ct hk
     go_wp2
     obtain⟨a1,a2,a3,R,a5,a6⟩:=G.out
     exact⟨⟨k+1,H,0,us.set k (D:Int),rfl,rfl,by go_num,J,a1,a2,a3,R,by omega,a5,a6⟩,by simp[intOf];omega⟩
  ·have bq:k=n:=by omega
   subst bq
   have hle:=Q.out.2.2
   rw[aY (by omega)]at B
   obtain⟨hC,a7⟩:=uA us zs (val ys) X (O+I) k o j hle B
   have i2:¬((k:Int)<(k:Int)):=by omega
   have G:Hid (Rw wr g k us∧us.length=k∧Wd us∧val us=val zs-val ys*X∧Kb g w wr):=⟨a,o,j,a7,m⟩
   clear Q HW N hwy L hk ck a o j hO C B m hC a7 hle
   go_wp2
   exact bodyPost_end (v:=.tuple #[]) (by kernel_rfl) rfl ⟨rfl,us,G.out⟩
end Go.Proofs.YtmpjcknaelgnoaaGreatDoor
