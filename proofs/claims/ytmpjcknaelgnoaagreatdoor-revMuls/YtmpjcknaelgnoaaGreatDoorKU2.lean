import Derived.Test.YtmpjcknaelgnoaaGreatDoorKMR23
import Derived.Test.YtmpjcknaelgnoaaGreatDoorKS2
import Derived.Test.YtmpjcknaelgnoaaGreatDoorKXP
set_option maxHeartbeats 1000000
set_option maxRecDepth 20000
namespace Go.Proofs.YtmpjcknaelgnoaaGreatDoor
open Go.RowKit Tryz
open Ieee in
theorem nI (m C:Nat)(hm:m<9223372036854775808)(hC:C<=9218868437227405312):FloatKind.f64.format.order m C=if m<=9218868437227405312 then some (compare (m:Int) (C:Int)) else none:=by
 have h:FloatKind.f64.format=double:=rfl
 have hi:double.infRung=9218868437227405312:=by decide +kernel
 have a:double.signWeight=9223372036854775808:=by decide +kernel
 have d:double.binade<=double.infRung:=by decide +kernel
 have b:Fq.rg double m=m:=by unfold Fq.rg;rw[a];exact aX hm
 have f:Fq.rg double C=C:=by unfold Fq.rg;rw[a];exact aX (by omega)
 have i:Fq.pl double m=(m:Int):=by
  unfold Fq.pl Fq.ng
  rw[b,a,bh hm];rfl
 have g:Fq.pl double C=(C:Int):=by
  unfold Fq.pl Fq.ng
  rw[f,a,bh (by omega)];rfl
 rw[h]
 by_cases c:m<=9218868437227405312
 ·rw[if_pos c,Fq.uJ double m C d (by rw[b,hi];exact c) (by rw[f,hi];exact hC),i,g]
 ·rw[if_neg c,Fq.mK double m C d (by rw[b,hi];omega)]
theorem ix (n:Bool)(m:Nat)(hm:m<9223372036854775808)(w:World):Calls prog 191 #[.float .f64 (Fq.wD n m)] w (RE (.bool (decide (2580562586483294208<=m∧m<=6633802251116740608))) w):=by
 have h:=AQ n m hm w
 obtain⟨X,j⟩:=aA (Fq.wD n m)
 rw[<-j]at h|-
 have b:=nI m 2580562586483294208 hm (by decide)
 have a:=nI m 6633802251116740608 hm (by decide)
 clear j
 by_cases c:m<=9218868437227405312
 ·rw[if_pos c]at b a
  rcases bw (m:Int) (2580562586483294208:Nat)with d|d|d
  ·have g:FloatKind.f64.format.order m 2580562586483294208=some .lt:=by rw[b,Int.compare_eq_lt.2 d]
   rw[ae (by omega)]
   clear b a c d
   go_enter func191,ntmps191
   go_wp2_with fail
   refine SM h ?_
   go_wp2
   exact BR ⟨rfl,rfl⟩
  ·have g:FloatKind.f64.format.order m 2580562586483294208=some .eq:=by rw[b,Int.compare_eq_eq.2 d]
   have i:FloatKind.f64.format.order m 6633802251116740608=some .lt:=by rw[a,Int.compare_eq_lt.2 (by omega)]
   rw[af (by omega)]
   clear b a c d
   go_enter func191,ntmps191
   go_wp2_with fail
   refine SM h ?_
   go_wp2_with fail
   refine SM h ?_
   go_wp2
   exact BR ⟨rfl,rfl⟩
  ·have g:FloatKind.f64.format.order m 2580562586483294208=some .gt:=by rw[b,Int.compare_eq_gt.2 d]
   rcases bw (m:Int) (6633802251116740608:Nat)with f|f|f
   ·have i:FloatKind.f64.format.order m 6633802251116740608=some .lt:=by rw[a,Int.compare_eq_lt.2 f]
    rw[af (by omega)]
    clear b a c d f
    go_enter func191,ntmps191
    go_wp2_with fail
    refine SM h ?_
    go_wp2_with fail
    refine SM h ?_
    go_wp2
    exact BR ⟨rfl,rfl⟩
   ·have i:FloatKind.f64.format.order m 6633802251116740608=some .eq:=by rw[a,Int.compare_eq_eq.2 f]
    rw[af (by omega)]
    clear b a c d f
    go_enter func191,ntmps191
    go_wp2_with fail
    refine SM h ?_
    go_wp2_with fail
    refine SM h ?_
    go_wp2
    exact BR ⟨rfl,rfl⟩
   ·have i:FloatKind.f64.format.order m 6633802251116740608=some .gt:=by rw[a,Int.compare_eq_gt.2 f]
    rw[ae (by omega)]
    clear b a c d f
    go_enter func191,ntmps191
    go_wp2_with fail
    refine SM h ?_
    go_wp2_with fail
    refine SM h ?_
    go_wp2
    exact BR ⟨rfl,rfl⟩
 ·rw[if_neg c]at b a
  have g:=b
  rw[ae (by omega)]
  clear b a c
  go_enter func191,ntmps191
  go_wp2_with fail
  refine SM h ?_
  go_wp2
  exact BR ⟨rfl,rfl⟩
theorem Fk (p q:Option Addr)(c d:Nat)(xs ys:List Int)(w:World)(hx:Arr w p xs)(hy:Arr w q ys)(hwx:Wd xs)(hwy:Wd ys)(lx:xs.length<=16777216)(ly:ys.length<=16777216)(hc:xs.length<=c)(hd:ys.length<=d) :
  Calls prog 223 #[.slice p xs.length c,.slice q ys.length d] w fun e w'=>∃v,e=.returned (.tuple #[v,.int .i64 (nm (val xs) (val ys)).2])∧Own w' w.heap.size v (nm (val xs) (val ys)).1∧Kp w w':=by
 have k:=dD.1 p c xs w hx (by omega) hc
 have j:=dD.1 q d ys w hy (by omega) hd
 have h:=gi p (tl xs) c
 have g:=gi q (tl ys) d
 have f:=xb p q c d (nz xs) (nz ys) w (hx.take _) (hy.take _) (hwx.take _) (hwy.take _) (by rw[bM];have:=dJ xs;omega) (by rw[bM];have:=dJ ys;omega)
 rw[bM,bM,eO,eO]at f
 have t:=fS xs hwx
 have s:=fS ys hwy
 have U:=dJ xs
 have R:=dJ ys
 obtain⟨a,F⟩:=aA (val xs)
 obtain⟨b,i⟩:=aA (val ys)
 rw[<-F,<-i]at f
 rw[<-F]at t
 rw[<-i]at s
 obtain⟨N,O⟩:=aA xs.length
 obtain⟨M,J⟩:=aA ys.length
 obtain⟨S,P⟩:=aA (tl xs)
 obtain⟨T,L⟩:=aA (tl ys)
 rw[<-O,<-P]at k
 rw[<-J,<-L]at j
 rw[<-P]at h f t U
 rw[<-L]at g f s R
 rw[<-O,<-J,<-F,<-i]
 have x:S<=16777216:=by omega
 have C:T<=16777216:=by omega
 clear hx hy hwx hwy lx ly hc hd O J P L F i U R
 by_cases u:16384<S
 ·rw[af u]at h
  have y:nm a b=([],2):=by unfold nm;rw[if_pos (Or.inl (by omega))]
  rw[y]
  clear g f u t s y x C
  go_enter func223,ntmps223
  go_wp2_with fail
  refine SM k ?_
  go_wp2_with fail
  refine SM j ?_
  go_wp2_with fail
  refine SM (h _) ?_
  go_wp2
  exact BR ⟨_,rfl,Own.nil _ _,Kp.refl _⟩
 rw[ae u]at h
 by_cases c2:16384<T
 ·rw[af c2]at g
  have y:nm a b=([],2):=by unfold nm;rw[if_pos (Or.inr (by omega))]
  rw[y]
  clear f u c2 t s y x C
  go_enter func223,ntmps223
  go_wp2_with fail
  refine SM k ?_
  go_wp2_with fail
  refine SM j ?_
  go_wp2_with fail
  refine SM (h _) ?_
  go_wp2_with fail
  refine SM (g _) ?_
  go_wp2
  exact BR ⟨_,rfl,Own.nil _ _,Kp.refl _⟩
 rw[ae c2]at g
 have E:nm a b=if 16384<aS (a*b) then ([],2) else (az (a*b),0):=by unfold nm;rw[if_neg (by omega)]
 by_cases Q:16384<S+T-1
 ·have c6:=uP a b 16384 (by omega) (by omega) (by omega)
  rw[E,if_pos c6]
  have W:(16384:Int)<(S:Int)+(T:Int)-1:=by omega
  clear f u c2 t s E Q c6
  go_enter func223,ntmps223
  go_wp2_with fail
  refine SM k ?_
  go_wp2_with fail
  refine SM j ?_
  go_wp2_with fail
  refine SM (h _) ?_
  go_wp2_with fail
  refine SM (g _) ?_
  go_wp2
  exact BR ⟨_,rfl,Own.nil _ _,Kp.refl _⟩
 have W:¬((16384:Int)<(S:Int)+(T:Int)-1):=by omega
 obtain⟨K,H⟩:=aA (a*b)
 rw[E,<-H]
 rw[<-H]at f
 clear u c2 E H t s Q
 by_cases c3:16384<aS K
 ·rw[if_pos c3]
  go_enter func223,ntmps223
  go_wp2_with fail
  refine SM k ?_
  go_wp2_with fail
  refine SM j ?_
  go_wp2_with fail
  refine SM (h _) ?_
  go_wp2_with fail
  refine SM (g _) ?_
  go_wp2_with fail
  refine f.mono ?_;rintro e G ⟨v,rfl,r,m⟩
  obtain⟨B,z,rfl,I,_⟩:=r.arr
  have n:=io B (az K).length z
  have c4:(16384<(az K).length):=c3
  rw[if_pos c4]at n
  clear c4
  obtain⟨D,o⟩:=aA ((az K).length)
  have A:Own G w.heap.size (.slice B D z) (az K):=by rw[o];exact r
  rw[<-o]at n|-
  clear I k j h g f o c3 r
  go_wp2_with fail
  refine(n _).mono ?_;rintro e V ⟨rfl,l⟩;obtain rfl:=l.symm
  go_wp2
  exact BR ⟨_,rfl,Own.nil _ _,m⟩
 ·rw[if_neg c3]
  go_enter func223,ntmps223
  go_wp2_with fail
  refine SM k ?_
  go_wp2_with fail
  refine SM j ?_
  go_wp2_with fail
  refine SM (h _) ?_
  go_wp2_with fail
  refine SM (g _) ?_
  go_wp2_with fail
  refine f.mono ?_;rintro e G ⟨v,rfl,r,m⟩
  obtain⟨B,z,rfl,I,_⟩:=r.arr
  have n:=io B (az K).length z
  have c4:¬(16384<(az K).length):=c3
  rw[if_neg c4]at n
  clear c4
  obtain⟨D,o⟩:=aA ((az K).length)
  have A:Own G w.heap.size (.slice B D z) (az K):=by rw[o];exact r
  rw[<-o]at n|-
  clear I k j h g f o c3 r
  go_wp2_with fail
  refine(n _).mono ?_;rintro e V ⟨rfl,l⟩;obtain rfl:=l.symm
  go_wp2
  exact BR ⟨_,rfl,A,m⟩

theorem B6 (s t:Bool)(a b:Nat)(ea eb:Int)(va vb:Value)(w:World)(ha:Ls w va (az a))(hb:Ls w vb (az b))(la:a<9007199254740992)(lb:b<9007199254740992)(ea1:-1074<=ea)(ea2:ea<=2048)(eb1:-1074<=eb)(eb2:eb<=2048) :
  Calls prog 194 #[.agg #[.bool s,va,.int .i64 ea],.agg #[.bool t,vb,.int .i64 eb]] w fun e w'=>∃v,e=.returned (.agg #[.bool (s ^^ t),v,.int .i64 (ea+eb)])∧Ls w' v (az (a*b))∧Kp w w':=by
 obtain⟨A,D,rfl,ha,x⟩:=ha
 obtain⟨C,F,rfl,hb,r⟩:=hb
 obtain⟨R,l⟩:=aA ((az a).length)
 obtain⟨L,n⟩:=aA ((az b).length)
 rw[<-l,<-n]
 obtain⟨B,M⟩:=aA w.heap.size
 obtain⟨c,j⟩:=aA (((w.alloc (.cells #[.bool s,.slice A R D,.int .i64 ea] 149)).alloc (.cells #[.bool t,.slice C L F,.int .i64 eb] 149)).alloc (.cells #[.bool false,.slice none 0 0,.int .i64 0] 149))
 have i:Kp w c:=by rw[j];exact(((Kp.refl w).alloc _).alloc _).alloc _
 obtain⟨x0,Z,x2,y0,y1,y2,z,J,T,f0,f1,f2⟩:c.cell? ⟨B,0,none⟩=some (.bool s)∧c.cell? ⟨B,1,none⟩=some (.slice A R D)∧c.cell? ⟨B,2,none⟩=some (.int .i64 ea)∧c.cell? ⟨B+1,0,none⟩=some (.bool t)∧c.cell? ⟨B+1,1,none⟩=some (.slice C L F)∧c.cell? ⟨B+1,2,none⟩=some (.int .i64 eb)∧c.cell? ⟨B+2,0,none⟩=some (.bool false)∧c.cell? ⟨B+2,1,none⟩=some (.slice none 0 0)∧c.cell? ⟨B+2,2,none⟩=some (.int .i64 0)∧c.frozen? ⟨B+2,0,none⟩=false∧c.frozen? ⟨B+2,1,none⟩=false∧c.frozen? ⟨B+2,2,none⟩=false:=by rw[j,M];simp[go_sem]
 have k:=be z
 have Y:aq a<=53:=by rw[ay,show(2:Nat)^53=9007199254740992 from by decide];exact la
 have bb:aq b<=53:=by rw[ay,show(2:Nat)^53=9007199254740992 from by decide];exact lb
 have H:aS a<=2:=dZ a 2 (by omega)
 have K:aS b<=2:=dZ b 2 (by omega)
 have W:aS (a*b)<=16384:=dZ (a*b) 16384 (by
  have h:aq (a*b)<=53+53:=by
   rw[ay,ag]
   exact Nat.mul_lt_mul'' ((ay a 53).1 Y) ((ay b 53).1 bb)
  omega)
 have y:=Fk A C D F (az a) (az b) c (ha.grown i) (hb.grown i) (bC a) (bC b) (by change aS a<=_;omega) (by change aS b<=_;omega) x r
 rw[aV,aV]at y
 have hs:nm a b=(az (a*b),0):=by
  unfold nm
  rw[if_neg (by omega),if_neg (by omega)]
 rw[hs,<-l,<-n]at y
 have a3:wrap64 (ea+eb)=ea+eb:=eQ _ (by omega) (by omega)
 have S:∀w:World,(binOp .neq 4 (.bool s) (.bool t)).run prog w=.ok (.bool (s ^^ t)) w:=fun w=>by cases s<;>cases t<;>rfl
 obtain⟨u,f⟩:=aA (s ^^ t)
 have a1:(s != t)=u:=by rw[f]
 have aw:(!decide (s=t))=u:=by rw[f];cases s<;>cases t<;>rfl
 have X:(!(s == t))=u:=by rw[f];cases s<;>cases t<;>rfl
 rw[<-f]at S|-
 have E:Hid (c=((w.alloc (.cells #[.bool s,.slice A R D,.int .i64 ea] 149)).alloc (.cells #[.bool t,.slice C L F,.int .i64 eb] 149)).alloc (.cells #[.bool false,.slice none 0 0,.int .i64 0] 149)∧B=w.heap.size∧Kp w c):=⟨j,M,i⟩
 clear f ha x hb r la lb l n j M i Y bb H K W hs
 go_enter func194,ntmps194
 go_wp2_with fail
 rw[<-E.out.2.1]
 try rw[<-E.out.1]
 refine y.mono ?_;rintro e o ⟨v,rfl,p,d⟩
 obtain⟨U,P,rfl,V,G⟩:=p.arr
 obtain⟨N,m⟩:=aA ((az (a*b)).length)
 rw[<-m]
 replace x0:=ac d x0
 replace Z:=ac d Z
 replace x2:=ac d x2
 replace y0:=ac d y0
 replace y1:=ac d y1
 replace y2:=ac d y2
 replace z:=ac d z
 replace J:=ac d J
 replace T:=ac d T
 replace f0:=(dC d k).trans f0
 replace f1:=(dC d k).trans f1
 replace f2:=(dC d k).trans f2
 have HO:Hid (Own o c.heap.size (.slice U (az (a*b)).length P) (az (a*b))∧N=(az (a*b)).length∧Kp c o∧B+2<c.heap.size):=⟨p,m,d,k⟩
 clear y p V G d m
 go_wp2
 obtain⟨p,hL,O,a6⟩:=HO.out
 have kb:Kb (B+2) o (((o.setCell ⟨B+2,0,none⟩ (.bool u)).setCell ⟨B+2,1,none⟩ (.slice U N P)).setCell ⟨B+2,2,none⟩ (.int .i64 (ea+eb))):=(((Kb.refl (B+2) o).setCell 0 _).setCell 1 _).setCell 2 _
 have Q:=p.kb kb (fun g hg=>by have:=p.lt g hg;omega)
 have q:=Q.ls
 rw[<-hL]at q
 have I:Kp w (((o.setCell ⟨B+2,0,none⟩ (.bool u)).setCell ⟨B+2,1,none⟩ (.slice U N P)).setCell ⟨B+2,2,none⟩ (.int .i64 (ea+eb))):=kb.kp (E.out.2.2.trans O) (by rw[E.out.2.1];omega)
 exact BR ⟨_,rfl,q,I⟩ (by simp[results,results194,go_sem,z,J,T])
theorem tL (n:Bool)(m:Nat)(h1:9218868437227405312<m)(h2:m<9223372036854775808):Ieee.double.read (Fq.wD n m)=.nan n (m-9218868437227405312):=by
 rw[Fq.ql Ieee.double _ Fq.yE (by rw[Fq.Em n m h2,Fq.yc];exact h1),Fq.Em n m h2,Fq.Hm n m h2,Fq.yc]
theorem jn (n:Bool):Ieee.double.read (Fq.wD n 9218868437227405312)=.infinity n:=by
 rw[Fq.jY Ieee.double _ Fq.yE (by rw[Fq.Em n 9218868437227405312 (by decide),Fq.yc]),Fq.Hm n 9218868437227405312 (by decide)]
theorem kG (n:Bool)(m:Nat)(h:m<9218868437227405312):∃a e,Ieee.double.read (Fq.wD n m)=.number n a e∧(a=0 ↔ m=0):=by
 rw[Fq.jZ _ _ (by rw[Fq.Em n m (by omega),Fq.yc];exact h),Fq.Hm n m (by omega),Fq.Em n m (by omega)]
 refine⟨_,_,rfl, ?_⟩
 unfold Fq.mM
 rw[Fq.D9]
 split<;>omega
theorem yT (s:Bool):Ieee.double.write (.infinity s)=Fq.wD s 9218868437227405312:=by unfold Ieee.Format.write Ieee.Format.word Fq.wD;rw[Fq.Be,Fq.yc]
def sK (m m':Nat):Prop:=9218868437227405312<m∨9218868437227405312<m'∨(m=9218868437227405312∧m'=0)∨(m=0∧m'=9218868437227405312)
theorem zJ (n n':Bool)(m m':Nat)(hm:m<9223372036854775808)(hm':m'<9223372036854775808)(h:sK m m'):FloatKind.f64.format.mul (Fq.wD n m) (Fq.wD n' m')=none:=by
 show Ieee.double.mul _ _=none
 unfold Ieee.Format.mul
 by_cases g:9218868437227405312<m
 ·rw[tL n m g hm];rfl
 ·by_cases c2:9218868437227405312<m'
  ·rw[tL n' m' c2 hm']
   by_cases c3:m=9218868437227405312
   ·rw[c3,jn];rfl
   ·obtain⟨a,e,b,_⟩:=kG n m (by omega)
    rw[b];rfl
  ·rcases(h.resolve_left g).resolve_left c2 with⟨f,d⟩|⟨f,d⟩
   ·obtain⟨a,e,b,c⟩:=kG n' m' (by omega)
    rw[f,jn,b]
    unfold Ieee.Datum.product
    simp only
    rw[if_pos (c.2 d)];rfl
   ·obtain⟨a,e,b,c⟩:=kG n m (by omega)
    rw[d,jn,b]
    unfold Ieee.Datum.product
    simp only
    rw[if_pos (c.2 f)];rfl
theorem zI (n n':Bool)(m m':Nat)(h:¬sK m m')(hi:¬(m<9218868437227405312∧m'<9218868437227405312)):FloatKind.f64.format.mul (Fq.wD n m) (Fq.wD n' m')=some (Fq.wD (n ^^ n') 9218868437227405312):=by
 unfold sK at h
 show Ieee.double.mul _ _=_
 unfold Ieee.Format.mul
 by_cases d:m=9218868437227405312
 ·rw[d,jn]
  by_cases c2:m'=9218868437227405312
  ·rw[c2,jn]
   exact congrArg some (yT _)
  ·obtain⟨a,e,c,b⟩:=kG n' m' (by omega)
   rw[c]
   unfold Ieee.Datum.product
   simp only
   rw[if_neg (fun h0=>h (Or.inr (Or.inr (Or.inl ⟨d,b.1 h0⟩))))]
   exact congrArg some (yT _)
 ·have c2:m'=9218868437227405312:=by omega
  obtain⟨a,e,c,b⟩:=kG n m (by omega)
  rw[c2,jn,c]
  unfold Ieee.Datum.product
  simp only
  rw[if_neg (fun h0=>h (Or.inr (Or.inr (Or.inr ⟨b.1 h0,c2⟩)))),show(n ^^ n')=(n' ^^ n)from by cases n<;>cases n'<;>rfl]
  exact congrArg some (yT _)
theorem ks (t:Nat):9218868437227405312<(t%2*2^63+0x7ff0000000000000+1+t/2%(2^52-1))%9223372036854775808∧t%2*2^63+0x7ff0000000000000+1+t/2%(2^52-1)<18446744073709551616:=by
 rw[show(2:Nat)^63=9223372036854775808 from by decide,show(2:Nat)^52-1=4503599627370495 from by decide]
 have a:t%2=0∨t%2=1:=by omega
 have c:t/2%4503599627370495<4503599627370495:=bZ _ (by decide)
 generalize t/2%4503599627370495=b at *
 rcases a with h|h<;>rw[h]<;>omega
theorem sO (R:Nat)(h:R<18446744073709551616):∃n m,m=R%9223372036854775808∧R=Fq.wD n m:=by
 by_cases c:9223372036854775808<=R
 ·exact⟨true,R%9223372036854775808,rfl,by unfold Fq.wD;rw[if_pos rfl];omega⟩
 ·exact⟨false,R%9223372036854775808,rfl,by unfold Fq.wD;simp;omega⟩
theorem qc (X Y:Nat)(h:FloatKind.f64.format.mul X Y=none)(w:World):∃r,9218868437227405312<r%9223372036854775808∧r<18446744073709551616∧(binOp .mul 27 (.float .f64 X) (.float .f64 Y)).run prog w=.ok (.float .f64 r) w.drew:=by
 refine⟨Question.cut (.nanBits .f64 X Y) _, ?_, ?_,by simp[binOp,Op.floatArith,h];rfl⟩
 ·simp only[Question.cut];exact(ks _).1
 ·simp only[Question.cut];exact(ks _).2
theorem xR (n s n':Bool)(m r m' e ey ex L:Nat)(hm:m<9218868437227405312)(hr:r<9218868437227405312)(hm':m'<9218868437227405312)(he:e<=1960)(hey:ey<=1960)(s1:1074<=e+ey)(s2:e+ey<=2944)(hL:L=1074)(p2:e+ey-L<=ex)(x2:ex<=1472)(hxx:(Iv n m).natAbs<9007199254740992*2^ex)
  (hU:((2^e:Nat):Int) ∣ Iv s r∧4503599627370496*2^e<=(Iv s r).natAbs∧(Iv s r).natAbs<9007199254740992*2^e)(hU':((2^ey:Nat):Int) ∣ Iv n' m'∧4503599627370496*2^ey<=(Iv n' m').natAbs∧(Iv n' m').natAbs<9007199254740992*2^ey)
  (hfit:∀V2:Int,V2*((2^L:Nat):Int)=Iv s r*Iv n' m'->(((2^(e+ey-L):Nat):Int) ∣ Iv n m∧((2^(e+ey-L):Nat):Int) ∣ V2∧(Iv n m-V2).natAbs<=4503599627370496*2^(e+ey-L)∧20282409603651670423947251286016*2^(e+ey-L)<=V2.natAbs∧V2.natAbs<81129638414606681695789005144064*2^(e+ey-L))) :
  ∃(V2:Int)(f:Bool)(fr:Nat),V2*((2^L:Nat):Int)=Iv s r*Iv n' m'∧fr<9218868437227405312∧Iv f fr=Iv n m-V2∧∀w:World,Calls prog 251 #[.float .f64 (Fq.wD n m),.float .f64 (Fq.wD s r),.float .f64 (Fq.wD n' m')] w (RE (.float .f64 (Fq.wD f fr)) w):=by
 obtain⟨V2,p,o,j,k,K,C,M,r0,r8,q0,T,d,K1,K2,kV⟩:=lH s n' r m' e ey hr hm' he hey s1 s2 hU.1 hU.2.1 hU.2.2 hU'.1 hU'.2.1 hU'.2.2 L hL
 obtain⟨y,N,B,F,h⟩:=hfit V2 C
 obtain⟨W,q⟩:=aA (2^(e+ey-L))
 rw[<-q]at y N B F h
 obtain⟨a,x⟩:∃a:Nat,a=1600:=⟨_,rfl⟩
 have kx:(Iv n m).natAbs<2^a:=by
  refine aE hxx ?_
  rw[<-rL,<-ag]
  exact al (by decide) (by omega)
 have c:V2.natAbs<2^a:=by
  refine aE h ?_
  rw[show(81129638414606681695789005144064:Nat)=2^106 from by decide,q,<-ag]
  exact al (by decide) (by omega)
 obtain⟨s9,r9,T9,_,_,H,e9,g,u⟩:=fp V2 (s ^^ n') a (by omega) (by omega) c
 rw[show s9=p from g.trans T.symm,show r9=j from e9.trans q0.symm]at H u
 obtain⟨t,I,T1,U,t1,n1,_,_,l1⟩:=fp (Iv n m-Iv p j) (n && !p) (a+2) (by omega) (by omega) (gI kx u (by omega)).2
 have lo:(Iv o k).natAbs<2^(a+2):=by rw[d];exact(gI c u (by omega)).2
 obtain⟨f,fr,T2,V,t2,n2,_,_,l2⟩:=fp (Iv t I-Iv o k) (t && !o) (a+4) (by omega) (by omega) (gm l1 lo (by omega)).2
 have b:=sc ⟨_,q⟩ y N B F h H d n1 n2
 have i:=ip n p m j hm r0 _ rfl
 have l:=ip t o I k t1 r8 _ rfl
 rw[U]at i
 rw[V]at l
 refine⟨V2,f,fr,C,t2,b,fun w=>?_⟩
 clear C r0 r8 q0 T d K1 K2 kV y N B F h q x kx c H e9 g u U t1 n1 l1 lo V t2 n2 l2 b hU hU' hfit hm hr hm' he hey s1 s2 hL p2 x2 hxx
 obtain⟨X,A⟩:=aA (Fq.wD n m)
 obtain⟨Y,E⟩:=aA (Fq.wD s r)
 obtain⟨Z,R⟩:=aA (Fq.wD n' m')
 obtain⟨P,z⟩:=aA (Fq.wD p j)
 obtain⟨O,S⟩:=aA (Fq.wD o k)
 obtain⟨D,J⟩:=aA (Fq.wD t I)
 obtain⟨G,Q⟩:=aA (Fq.wD f fr)
 rw[<-A,<-z,<-J]at i
 rw[<-J,<-S,<-Q]at l
 rw[<-E,<-R,<-z,<-S]at M
 rw[<-A,<-E,<-R,<-Q]
 have f1:∀w:World,(binOp .sub 27 (.float .f64 X) (.float .f64 P)).run prog w=.ok (.float .f64 D) w:=fun w=>run_float_arith w .sub 27 .f64 X P D i
 have f2:∀w:World,(binOp .sub 27 (.float .f64 D) (.float .f64 O)).run prog w=.ok (.float .f64 G) w:=fun w=>run_float_arith w .sub 27 .f64 D O G l
 clear A E R z S J Q i l
 go_enter func251,ntmps251
 go_wp2_with fail
 refine SM (M _) ?_;clear M
 go_wp2
 exact BR ⟨rfl,rfl⟩
theorem FI (n:Bool)(m:Nat)(hm:m<9223372036854775808):Fq.wD n m ^^^ 9223372036854775808=Fq.wD (!n) m:=by
 obtain⟨x,c⟩:=aA (Fq.wD n m)
 have b:(x ^^^ 9223372036854775808)%2^63=x%2^63:=by
  rw[Nat.xor_mod_two_pow,show(9223372036854775808:Nat)%2^63=0 from by decide,Nat.xor_zero]
 have a:(x ^^^ 9223372036854775808)/2^63=x/2^63 ^^^ 1:=by
  rw[<-dX,<-dX,Nat.shiftRight_xor_distrib,show(9223372036854775808:Nat) >>> 63=1 from by decide]
 rw[show(2:Nat)^63=9223372036854775808 from by decide]at b a
 rw[<-c]
 generalize hz:x ^^^ 9223372036854775808=z at b a|-
 clear hz
 cases n
 ·have e:x=m:=by rw[c];unfold Fq.wD;simp
  rw[e,bh hm,show(0:Nat) ^^^ 1=1 from by decide]at a
  rw[e,aX hm]at b
  unfold Fq.wD
  simp
  omega
 ·have e:x=9223372036854775808+m:=by rw[c];unfold Fq.wD;simp
  have f:x/9223372036854775808=1:=by omega
  have d:x%9223372036854775808=m:=by omega
  rw[f,show(1:Nat) ^^^ 1=0 from by decide]at a
  rw[d]at b
  unfold Fq.wD
  simp
  omega
theorem GO (n:Bool)(m:Nat)(hm:m<9223372036854775808)(w:World):(Op.unary .neg (.float .f64 (Fq.wD n m))).run prog w=.ok (.float .f64 (Fq.wD (!n) m)) w:=by
 have h:Op.negFloat .f64 (Fq.wD n m)=Fq.wD (!n) m:=by
  unfold Op.negFloat
  exact FI n m hm
 rw[<-h];rfl
theorem ou (n n':Bool)(m m':Nat)(c1:2580562586483294208<=m∧m<=6633802251116740608)(c2:2580562586483294208<=m'∧m'<=6633802251116740608) :
  ∃(V:Int)(s o:Bool)(r ro K:Nat),(∀w:World,Calls prog 224 #[.float .f64 (Fq.wD n m),.float .f64 (Fq.wD n' m')] w (RE (.tuple #[.float .f64 (Fq.wD s r),.float .f64 (Fq.wD o ro)]) w))∧r<9218868437227405312∧ro<9218868437227405312∧r=fk 53 (rU 0 53 V.natAbs 1)∧s=(if V=0 then n ^^ n' else decide (V<0))∧(Fq.gU o ro<0 ↔ V-Iv s r<0)∧(0<Fq.gU o ro ↔ 0<V-Iv s r)∧53<=K∧K<=2096∧V.natAbs<2^K∧(∀d,fg d V=iO d (n ^^ n') (Fq.vV Ieee.double m) (Fq.vV Ieee.double m')):=by
 obtain⟨L,T⟩:∃L:Nat,L=1074:=⟨_,rfl⟩
 obtain⟨V,s,r,K,e,ey,ex,g,J,H,j,U,R,F,b,⟨p1,p2,p3,p4,p5,W⟩,l,t,x,c⟩:=wU n n' m m' c1.1 c1.2 c2.1 c2.2 L T
 obtain⟨I,f,u,O,Q,P,C⟩:=xR n s n' m r m' e ey ex L (by omega) J (by omega) p1 p2 p3 p4 T p5 W x l t (fun I h=>(c I h).1)
 obtain⟨k,q⟩:=(c I O).2
 rw[<-P]at k q
 have M:∀w:World,(binOp .quo 27 (.float .f64 (Fq.wD n m)) (.float .f64 (Fq.wD n' m'))).run prog w=.ok (.float .f64 (Fq.wD s r)) w:=fun w=>run_float_arith w .quo 27 .f64 _ _ _ g
 have N:(0:Nat)=Fq.wD false 0:=rfl
 have a:FloatKind.f64.format.order (Fq.wD n' m') 0=some (compare (Fq.gU n' m') 0):=by
  rw[N,Fq.CY n' false m' 0 (by omega) (by decide)];rfl
 have D:=fun w=>GO f u (by omega) w
 obtain⟨X,y⟩:=aA (Fq.wD n m)
 obtain⟨Y,p⟩:=aA (Fq.wD n' m')
 obtain⟨S,A⟩:=aA (Fq.wD s r)
 obtain⟨G,E⟩:=aA (Fq.wD f u)
 obtain⟨G2,i⟩:=aA (Fq.wD (!f) u)
 rw[<-y,<-p,<-A]at M
 rw[<-y,<-A,<-p,<-E]at C
 rw[<-p]at a
 rw[<-E,<-i]at D
 cases n'
 ·have Z:(FloatKind.f64.format.order Y 0 == some .lt)=false:=by
   rw[a,Int.compare_eq_gt.2 (by unfold Fq.gU;simp;omega)];rfl
  rw[if_neg (by simp)]at k q
  obtain⟨B,z⟩:=jI f u
  refine⟨V,s,f,r,u,K,fun w=>?_,J,Q,H,j,B.symm.trans k,z.symm.trans q,U,R,F,b⟩
  rw[<-y,<-p,<-A,<-E]
  clear y p A E i D a N P O c x l t b F H j k q B z c1 c2 g
  go_enter func224,ntmps224
  go_wp2_with fail
  refine SM (C _) ?_;clear C
  go_wp2
  exact BR ⟨rfl,rfl⟩
 ·have Z:(FloatKind.f64.format.order Y 0 == some .lt)=true:=by
   rw[a,Int.compare_eq_lt.2 (by unfold Fq.gU;simp;omega)];rfl
  rw[if_pos rfl]at k q
  obtain⟨B,z⟩:=jI (!f) u
  rw[sd]at B z
  refine⟨V,s,!f,r,u,K,fun w=>?_,J,Q,H,j,B.symm.trans k,z.symm.trans q,U,R,F,b⟩
  rw[<-y,<-p,<-A,<-i]
  clear y p A E i a N P O c x l t b F H j k q B z c1 c2 g
  go_enter func224,ntmps224
  go_wp2_with fail
  refine SM (C _) ?_;clear C
  go_wp2
  exact BR ⟨rfl,rfl⟩
theorem pZ (X Y:Nat)(h:FloatKind.f64.format.div X Y=none)(w:World):∃r,9218868437227405312<r%9223372036854775808∧r<18446744073709551616∧(binOp .quo 27 (.float .f64 X) (.float .f64 Y)).run prog w=.ok (.float .f64 r) w.drew:=by
 refine⟨Question.cut (.nanBits .f64 X Y) _, ?_, ?_,by simp[binOp,Op.floatArith,h];rfl⟩
 ·simp only[Question.cut];exact(ks _).1
 ·simp only[Question.cut];exact(ks _).2
def yF (m m':Nat):Prop:=9218868437227405312<m∨9218868437227405312<m'∨(m=9218868437227405312∧m'=9218868437227405312)
theorem AD (n n':Bool)(m m':Nat)(hm:m<9223372036854775808)(hm':m'<9223372036854775808)(h:yF m m'):FloatKind.f64.format.div (Fq.wD n m) (Fq.wD n' m')=none:=by
 show Ieee.double.div _ _=none
 unfold Ieee.Format.div
 by_cases b:9218868437227405312<m
 ·rw[tL n m b hm];rfl
 ·by_cases c2:9218868437227405312<m'
  ·rw[tL n' m' c2 hm']
   by_cases c3:m=9218868437227405312
   ·rw[c3,jn];rfl
   ·obtain⟨a,e,d,_⟩:=kG n m (by omega)
    rw[d];rfl
  ·obtain⟨f,c⟩:=(h.resolve_left b).resolve_left c2
   rw[f,c,jn,jn];rfl
theorem AC (n n':Bool)(m m':Nat)(h:m=9218868437227405312)(h':m'<9218868437227405312):FloatKind.f64.format.div (Fq.wD n m) (Fq.wD n' m')=some (Fq.wD (n ^^ n') 9218868437227405312):=by
 show Ieee.double.div _ _=_
 unfold Ieee.Format.div
 obtain⟨a,e,b,c⟩:=kG n' m' h'
 rw[h,jn,b]
 exact congrArg some (yT _)
theorem Bp (s:Bool)(p:Int):Ieee.double.nearest s 0 p=Fq.wD s 0:=by
 unfold Ieee.Format.nearest
 rw[if_pos rfl,BX]
theorem ra (n n':Bool)(m m':Nat)(hm:m<9218868437227405312)(h:m'=9218868437227405312∨(m=0∧m'<9218868437227405312∧m'≠0)):FloatKind.f64.format.div (Fq.wD n m) (Fq.wD n' m')=some (Fq.wD (n ^^ n') 0):=by
 show Ieee.double.div _ _=_
 unfold Ieee.Format.div
 obtain⟨a,e,i,g⟩:=kG n m hm
 rw[i]
 rcases h with h|⟨h1,h2,h3⟩
 ·rw[h,jn]
  unfold Ieee.Datum.quotient
  simp only[Option.map_some]
  unfold Ieee.Format.write
  simp only
  rw[Bp]
 ·obtain⟨b,k,d,c⟩:=kG n' m' h2
  rw[d]
  have f:a=0:=g.2 h1
  have j:¬b=0:=fun h=>h3 (c.1 h)
  subst f
  unfold Ieee.Datum.quotient
  simp only[Nat.zero_shiftLeft,ei,eR]
  rw[if_neg j]
  simp only[Option.map_some]
  unfold Ieee.Format.write
  simp only
  exact congrArg some (Bp _ _)
theorem xl (n:Bool)(m:Nat)(hm:m<9223372036854775808):(FloatKind.f64.format.order (Fq.wD n m) (Fq.wD n m) != some .eq)=decide (9218868437227405312<m):=by
 by_cases c:9218868437227405312<m
 ·rw[Fq.kY n m _ c hm,af c];rfl
 ·rw[Fq.CY n n m m (by omega) (by omega),Fq.mX rfl,ae c];rfl
theorem zC (n:Bool)(m:Nat)(hm:m<=9218868437227405312)(z:m≠0):(FloatKind.f64.format.order (Fq.wD n m) 0 == some .lt)=n:=by
 have b:(0:Nat)=Fq.wD false 0:=rfl
 have a:FloatKind.f64.format.order (Fq.wD n m) 0=some (compare (Fq.gU n m) 0):=by
  rw[b,Fq.CY n false m 0 hm (by decide)];rfl
 rw[a]
 cases n
 ·rw[Int.compare_eq_gt.2 (by unfold Fq.gU;simp;omega)];rfl
 ·rw[Int.compare_eq_lt.2 (by unfold Fq.gU;simp;omega)];rfl
theorem Dw (n:Bool)(m:Nat)(hm:m<9223372036854775808)(w:World):Calls prog 200 #[.float .f64 (Fq.wD n m)] w (RE (.bool (decide (9218868437227405312<m))) w):=by
 have b:=xl n m hm
 obtain⟨X,a⟩:=aA (Fq.wD n m)
 rw[<-a]at b|-
 clear a
 go_enter func200,ntmps200
 go_wp2
 exact BR ⟨rfl,rfl⟩
theorem vx (n:Bool)(m:Nat)(hm:m<9223372036854775808)(w:World):Calls prog 225 #[.float .f64 (Fq.wD n m)] w (fun e w'=>e=.returned (.float .f64 (if m=0∨9218868437227405312<m then 9221120237041090561 else Fq.wD n 9218868437227405312))∧w'=w):=by
 have f:=Fq.GZ n m hm
 have a:=Dw n m hm w
 have d:=xy w
 have g:=ya n w
 by_cases c:m=0
 ·rw[if_pos (Or.inl c)]
  rw[show(m == 0)=true from by simp[c]]at f
  obtain⟨X,b⟩:=aA (Fq.wD n m)
  rw[<-b]at f a|-
  clear b a g c hm
  go_enter func225,ntmps225
  go_wp2_with fail
  refine SM d ?_;clear d
  go_wp2
  exact BR (v:=.float .f64 9221120237041090561) ⟨rfl,rfl⟩
 ·rw[show(m == 0)=false from by simp[c]]at f
  by_cases c2:9218868437227405312<m
  ·rw[if_pos (Or.inr c2)]
   rw[af c2]at a
   obtain⟨X,b⟩:=aA (Fq.wD n m)
   rw[<-b]at f a|-
   clear b g c c2 hm
   go_enter func225,ntmps225
   go_wp2_with fail
   refine SM a ?_;clear a
   go_wp2_with fail
   refine SM d ?_;clear d
   go_wp2
   exact BR (v:=.float .f64 9221120237041090561) ⟨rfl,rfl⟩
  ·rw[if_neg (by omega)]
   rw[ae c2]at a
   have i:=zC n m (by omega) c
   obtain⟨X,b⟩:=aA (Fq.wD n m)
   obtain⟨Z,h⟩:=aA (Fq.wD n 9218868437227405312)
   rw[<-b]at f a i|-
   rw[<-h]at g|-
   clear b h d c c2 hm
   go_enter func225,ntmps225
   go_wp2_with fail
   refine SM a ?_;clear a
   go_wp2_with fail
   refine SM g ?_;clear g
   go_wp2
   exact BR ⟨rfl,rfl⟩
theorem zq (d:Int)(ng:Bool)(a b x y:Nat)(ea eb:Int)(ha:a≠0)(hb:b≠0)(la:aS a<=16384)(lb:aS b<=16384)(hx:(x:Int)=ea+1074)(hy:(y:Int)=eb+1074):ni d ng a b (ea-eb)=iO d ng (a*2^x) (b*2^y):=by
 unfold ni iO
 rw[if_neg (by omega),if_neg hb,if_neg ha,if_neg (fF ha (dL (ah x))),jD _ _ _ _ _ _ (aQ (by omega) (ah y)),ju _ _ _ _ _ _ (by omega),show(1074:Int)+(x:Int)-(y:Int)=ea-eb+1074 from by omega]
theorem Iw (d:Int)(s t:Bool)(a b:Nat)(ea eb:Int)(va vb:Value)(w:World)(hQ:Fq.Tab w)(hd1:-9223372036854775808<=d)(hd2:d<9223372036854775808)(ha:Ls w va (az a))(hb:Ls w vb (az b))(la:aS a<=16384)(lb:aS b<=16384)(ea1:-1074<=ea)(ea2:ea<=2048)(eb1:-1074<=eb)(eb2:eb<=2048) :
  Calls prog 226 #[.agg #[.bool s,va,.int .i64 ea],.int .i64 d,.agg #[.bool t,vb,.int .i64 eb]] w (RT (.float .f64 (ni d (s ^^ t) a b (ea-eb))) w):=by
 obtain⟨o,r,rfl,ha,m⟩:=ha
 obtain⟨p,q,rfl,hb,l⟩:=hb
 obtain⟨z,j⟩:=aA ((az a).length)
 obtain⟨u,k⟩:=aA ((az b).length)
 rw[<-j,<-k]
 obtain⟨B,x⟩:=aA w.heap.size
 obtain⟨g,i⟩:=aA ((w.alloc (.cells #[.bool s,.slice o z r,.int .i64 ea] 149)).alloc (.cells #[.bool t,.slice p u q,.int .i64 eb] 149))
 have c:Kp w g:=by rw[i];exact((Kp.refl w).alloc _).alloc _
 obtain⟨x0,I,N,K,M,L⟩:g.cell? ⟨B,0,none⟩=some (.bool s)∧g.cell? ⟨B,1,none⟩=some (.slice o z r)∧g.cell? ⟨B,2,none⟩=some (.int .i64 ea)∧g.cell? ⟨B+1,0,none⟩=some (.bool t)∧g.cell? ⟨B+1,1,none⟩=some (.slice p u q)∧g.cell? ⟨B+1,2,none⟩=some (.int .i64 eb):=by rw[i,x];simp[go_sem]
 have h:=E7 d (s ^^ t) o p r q (az a) (az b) (ea-eb) g (Fq.Tab.grown hQ c) hd1 hd2 (ha.grown c) (hb.grown c) (bC a) (bC b) (by change aS a<=_;omega) (by change aS b<=_;omega) m l
 rw[aV,aV,<-j,<-k]at h
 have G:wrap64 (ea-eb)=ea-eb:=eQ _ (by omega) (by omega)
 obtain⟨n,f⟩:=aA (s ^^ t)
 have E:(s != t)=n:=by rw[f]
 have D:(!decide (s=t))=n:=by rw[f];cases s<;>cases t<;>rfl
 have A:(!(s == t))=n:=by rw[f];cases s<;>cases t<;>rfl
 rw[<-f]at h|-
 obtain⟨Z,F⟩:=aA (ni d n a b (ea-eb))
 rw[<-F]at h|-
 have y:Hid (g=(w.alloc (.cells #[.bool s,.slice o z r,.int .i64 ea] 149)).alloc (.cells #[.bool t,.slice p u q,.int .i64 eb] 149)∧B=w.heap.size∧Kp w g):=⟨i,x,c⟩
 clear F f ha m hb l la lb j k i x c hQ hd1 hd2 ea1 ea2 eb1 eb2
 go_enter func226,ntmps226
 go_wp2_with fail
 rw[<-y.out.2.1]
 try rw[<-y.out.1]
 go_wp2_with fail
 refine h.mono ?_;rintro e J ⟨rfl,C⟩
 have H:=y.out.2.2.trans C
 clear h C
 go_wp2
 exact BR ⟨rfl,H⟩
end Go.Proofs.YtmpjcknaelgnoaaGreatDoor
