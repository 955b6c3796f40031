import Derived.Test.YtmpjcknaelgnoaaGreatDoorKBO
import Derived.Test.YtmpjcknaelgnoaaGreatDoorKMVa
import Derived.Scope
import Derived.ScopeJumps
set_option maxHeartbeats 1000000
set_option maxRecDepth 20000
namespace Go.Proofs.YtmpjcknaelgnoaaGreatDoor
set_option linter.all false
open Go.RowKit Tryz
theorem nA (d V:Int)(s o sz:Bool)(r ro K:Nat)(hK:53<=K)(hK2:K<=2096)(hv:V.natAbs<2^K)(hr1:r<9218868437227405312)(hro:ro<9218868437227405312)(hr:r=fk 53 (rU 0 53 V.natAbs 1))(hs:s=(if V=0 then sz else decide (V<0)))(ho1:Fq.gU o ro<0 ↔ V-Iv s r<0)(ho2:0<Fq.gU o ro ↔ 0<V-Iv s r)(w:World) :
  Calls prog 176 #[.int .i64 d,.float .f64 (Fq.wD s r),.float .f64 (Fq.wD o ro)] w (RT (.float .f64 (fg d V)) w):=by
 obtain⟨l,k,i⟩:=wj d V s o sz r ro K hK hK2 hv hr hs ho1 ho2
 have B:(0:Nat)=Fq.wD false 0:=rfl
 have a:FloatKind.f64.format.order (Fq.wD o ro) 0=some (compare (Fq.gU o ro) 0):=by
  rw[B,Fq.CY o false ro 0 (by omega) (by decide)];rfl
 obtain⟨P,A⟩:=aA (Fq.gU o ro)
 rw[<-A]at l k i a
 obtain⟨O,y⟩:=aA (Fq.wD o ro)
 obtain⟨Z,z⟩:=aA (fg d V)
 obtain⟨N,t⟩:=aA (Fq.wD s r)
 rw[<-z]at l k i
 rw[<-y]at a
 rw[<-y,<-z,<-t]
 have g:=fun h=>Fq.H4 s r (by omega) h w
 have f:=fun h=>Fq.Is s r (by omega) h w
 have c:=Fq.Gu s r (by omega) w
 rw[<-t]at g f c
 clear y t z hr hs ho1 ho2 A B hv hK hK2 hr1 hro
 by_cases j:d = -1
 ·by_cases c2:P<0
  ·obtain⟨p,n⟩:=l j c2
   have b:=f p
   rw[n]at b
   have x:(FloatKind.f64.format.order O 0 == some .lt)=true:=by rw[a,Int.compare_eq_lt.2 c2];rfl
   subst j
   clear l k i g f c a c2 p n
   go_enter func176,ntmps176
   go_wp2_with fail
   refine b.mono ?_;rintro e q ⟨rfl,u⟩
   clear b
   go_wp2
   exact BR ⟨rfl,u⟩
  ·have b:=c
   rw[i (fun h=>c2 h.2) (fun h=>by omega)]at b
   have x:(FloatKind.f64.format.order O 0 == some .lt)=false:=by
    rw[a]
    rcases bw P 0 with h|h|h
    ·exact absurd h c2
    ·rw[Int.compare_eq_eq.2 h];rfl
    ·rw[Int.compare_eq_gt.2 h];rfl
   subst j
   clear l k i g f c a c2
   go_enter func176,ntmps176
   go_wp2_with fail
   refine b.mono ?_;rintro e q ⟨rfl,m⟩
   obtain rfl:=m.symm
   clear b
   go_wp2
   exact BR ⟨rfl,Kp.refl _⟩
 ·have D:(d == -1)=false:=by simp[j]
  by_cases c3:d=1
  ·by_cases c2:0<P
   ·obtain⟨p,n⟩:=k c3 c2
    have b:=g p
    rw[n]at b
    have x:(FloatKind.f64.format.order O 0 == some .gt)=true:=by rw[a,Int.compare_eq_gt.2 c2];rfl
    subst c3
    clear l k i g f c a c2 p n j
    go_enter func176,ntmps176
    go_wp2_with fail
    refine b.mono ?_;rintro e q ⟨rfl,u⟩
    clear b
    go_wp2
    exact BR ⟨rfl,u⟩
   ·have b:=c
    rw[i (fun h=>j h.1) (fun h=>c2 h.2)]at b
    have x:(FloatKind.f64.format.order O 0 == some .gt)=false:=by
     rw[a]
     rcases bw P 0 with h|h|h
     ·rw[Int.compare_eq_lt.2 h];rfl
     ·rw[Int.compare_eq_eq.2 h];rfl
     ·exact absurd h c2
    subst c3
    clear l k i g f c a c2 j
    go_enter func176,ntmps176
    go_wp2_with fail
    refine b.mono ?_;rintro e q ⟨rfl,m⟩
    obtain rfl:=m.symm
    clear b
    go_wp2
    exact BR ⟨rfl,Kp.refl _⟩
  ·have C:(d == 1)=false:=by simp[c3]
   have b:=c
   rw[i (fun h=>j h.1) (fun h=>c3 h.1)]at b
   clear l k i g f c a j c3
   go_enter func176,ntmps176
   go_wp2_with fail
   refine b.mono ?_;rintro e q ⟨rfl,m⟩
   obtain rfl:=m.symm
   clear b
   go_wp2
   exact BR ⟨rfl,Kp.refl _⟩
theorem wg (d V:Int)(s o sz:Bool)(r ro K:Nat)(hK:53<=K)(hK2:K<=2096)(hv:V.natAbs<2^K)(hr1:r<9218868437227405312)(hro:ro<9218868437227405312)(hr:r=fk 53 (rU 0 53 V.natAbs 1))(hs:s=(if V=0 then sz else decide (V<0)))(ho:Iv o ro=V-Iv s r)(w:World) :
  Calls prog 176 #[.int .i64 d,.float .f64 (Fq.wD s r),.float .f64 (Fq.wD o ro)] w (RT (.float .f64 (fg d V)) w):=nA d V s o sz r ro K hK hK2 hv hr1 hro hr hs (by rw[<-(jI o ro).1,ho]) (by rw[<-(jI o ro).2,ho]) w
theorem qt (s t:Bool)(a b:Nat)(ea eb low:Int)(pa pb:Option Addr)(ca cb:Nat)(w:World)(ha:Arr w pa (az a))(hca:(az a).length<=ca)(hb:Arr w pb (az b))(hcb:(az b).length<=cb)(la:aq a<=106)(lb:aq b<=106)(ea1:-2148<=ea)(ea2:ea<=4096)(eb1:-2148<=eb)(eb2:eb<=4096)(hlow:low=min ea eb)(A' B':Nat)(hA:A'=a*2^(ea-low).toNat)(hB':B'=b*2^(eb-low).toNat)(hst:s=t) :
  Calls prog 179 #[.agg #[.bool s,.slice pa (az a).length ca,.int .i64 ea],.agg #[.bool t,.slice pb (az b).length cb,.int .i64 eb]] w fun e w'=>∃v,e=.returned (.agg #[.bool s,v,.int .i64 low])∧Ls w' v (az (A'+B'))∧Kp w w':=by
 obtain⟨La,F⟩:=aA ((az a).length)
 obtain⟨Lb,L⟩:=aA ((az b).length)
 rw[<-F,<-L]
 obtain⟨B,hB⟩:=aA w.heap.size
 obtain⟨d,z⟩:=aA (((w.alloc (.cells #[.bool s,.slice pa La ca,.int .i64 ea] 149)).alloc (.cells #[.bool t,.slice pb Lb cb,.int .i64 eb] 149)).alloc (.cells #[.bool false,.slice none 0 0,.int .i64 0] 149))
 have q:Kp w d:=by rw[z];exact(((Kp.refl w).alloc _).alloc _).alloc _
 obtain⟨x0,P,V,W,S,T,z0,z1,z2,f0,f1,f2,i0,i1,i2⟩:d.cell? ⟨B,0,none⟩=some (.bool s)∧d.cell? ⟨B,1,none⟩=some (.slice pa La ca)∧d.cell? ⟨B,2,none⟩=some (.int .i64 ea)∧d.cell? ⟨B+1,0,none⟩=some (.bool t)∧d.cell? ⟨B+1,1,none⟩=some (.slice pb Lb cb)∧d.cell? ⟨B+1,2,none⟩=some (.int .i64 eb)∧d.cell? ⟨B+2,0,none⟩=some (.bool false)∧d.cell? ⟨B+2,1,none⟩=some (.slice none 0 0)∧d.cell? ⟨B+2,2,none⟩=some (.int .i64 0)∧d.frozen? ⟨B+2,0,none⟩=false∧d.frozen? ⟨B+2,1,none⟩=false∧d.frozen? ⟨B+2,2,none⟩=false∧d.frozen? ⟨B,0,none⟩=false∧d.frozen? ⟨B,1,none⟩=false∧d.frozen? ⟨B,2,none⟩=false:=by rw[z,hB];simp[go_sem]
 have I:=be z0
 have bx:B<d.heap.size:=be x0
 obtain⟨C,a9⟩:∃C:Nat,C=8192:=⟨_,rfl⟩
 have bA:aq A'<=C:=by
  rw[hA,ay]
  have D:2^106*2^(ea-low).toNat<=2^C:=by rw[<-ag];exact al (by omega) (by omega)
  have n:a*2^(ea-low).toNat<2^106*2^(ea-low).toNat:=am ((ay a 106).1 la) (ah _)
  exact aE n D
 have bB:aq B'<=C:=by
  rw[hB',ay]
  have D:2^106*2^(eb-low).toNat<=2^C:=by rw[<-ag];exact al (by omega) (by omega)
  have n:b*2^(eb-low).toNat<2^106*2^(eb-low).toNat:=am ((ay b 106).1 lb) (ah _)
  exact aE n D
 have R:aS (A'+B')<=16000:=dZ (A'+B') 16000 (by
  have D:=(ay A' C).1 bA
  have n:=(ay B' C).1 bB
  have h3:aq (A'+B')<=C+1:=by rw[ay,aF];omega
  omega)
 have lA:aS A'<=16000:=dZ A' 16000 (by omega)
 have lB:aS B'<=16000:=dZ B' 16000 (by omega)
 have ba:aq a<=106:=la
 have bb:aq b<=106:=lb
 have N:aS a<=4:=dZ a 4 (by omega)
 have Q:aS b<=4:=dZ b 4 (by omega)
 have j:∀(u:Nat)(e:Int)(U:Nat)(pu:Option Addr)(cu Lu:Nat)(i:World),Arr i pu (az u)->(az u).length<=cu->Lu=(az u).length->aq u<=106->aS u<=4->0<=e->e<=8000->U=u*2^e.toNat->Calls prog 210 #[.slice pu Lu cu,.int .i64 e] i fun r w'=>∃p c,r=.returned (.tuple #[.slice p (az U).length c,.int .i64 0])∧Arr w' p (az U)∧(az U).length<=c∧(∀g o,p=some ⟨g,o,none⟩->i.heap.size<=g)∧Kp i w':=fun u e U pu cu Lu i au lu hl b1 b2 e1 e2 hU=>by
  subst hl
  have g:=qw pu cu (az u) i e au (bC u) (by change aS u<=_;omega) lu
  rw[aV]at g
  have hs:iI u e=(az U,0):=by
   unfold iI
   rw[if_neg (by omega),if_neg (by omega)]
   by_cases c0:u=0
   ·rw[if_pos c0,hU,c0,aM,dF]
   ·rw[if_neg c0,if_neg (by omega),hU]
  rw[hs]at g
  refine g.mono ?_
  rintro r w' ⟨v,D,n,h3⟩
  obtain⟨p,c,rfl,h4,h5⟩:=n.arr
  refine⟨p,c,D,h4,h5,fun g o hg=>?_,h3⟩
  rcases n.2 with⟨h',_⟩|⟨g',cy,ct,h6,h7,_⟩
  ·rw[hg]at h';cases h'
  ·rw[hg]at h6;cases h6;exact h7
 have q1:=j a (ea-low) A' pa ca La d (ha.grown q) hca F ba N (by omega) (by omega) hA
 have q2:=fun i (k:Kp d i)=>j b (eb-low) B' pb cb Lb i (hb.grown (q.trans k)) hcb L bb Q (by omega) (by omega) hB'
 have g2:∀w:World,(Builtin.min_ #[3,3] 3 #[.int .i64 ea,.int .i64 eb]).run prog w=.ok (.int .i64 low) w:=fun w=>by
  rw[run_min_int2]
  congr 2
  split<;>omega
 have cn:wrap64 (ea-low)=ea-low:=eQ _ (by omega) (by omega)
 have cq:wrap64 (eb-low)=eb-low:=eQ _ (by omega) (by omega)
 have Y:Hid (d=((w.alloc (.cells #[.bool s,.slice pa La ca,.int .i64 ea] 149)).alloc (.cells #[.bool t,.slice pb Lb cb,.int .i64 eb] 149)).alloc (.cells #[.bool false,.slice none 0 0,.int .i64 0] 149)∧B=w.heap.size∧Kp w d∧aS A'<=16000∧aS B'<=16000∧aS (A'+B')<=16000):=⟨z,hB,q,lA,lB,R⟩
 have X:-2148<=low∧low<=4096∧ea-low<=8000∧eb-low<=8000∧0<=ea-low∧0<=eb-low:=by omega
 have HE:Hid (-2148<=low∧low<=4096∧ea-low<=8000∧eb-low<=8000∧0<=ea-low∧0<=eb-low):=X
 clear a9 X j ha hca hb hcb la lb hA hB' F L z hB q bA bB lA lB R ba bb N Q hlow
 subst hst
 go_enter func179,ntmps179
 go_wp2_with fail
 rw[<-Y.out.2.1]
 try rw[<-Y.out.1]
 refine q1.mono ?_;rintro e i ⟨p1,c1,rfl,a1,l1,n1,l⟩
 obtain⟨Z,H⟩:=aA ((az A').length)
 rw[<-H]
 have E:Hid (Z=(az A').length):=H
 clear H
 replace W:=ac l W
 replace S:=ac l S
 replace T:=ac l T
 replace x0:=ac l x0
 replace P:=ac l P
 replace V:=ac l V
 have q3:=q2 i l
 clear q1 q2
 go_wp2_with fail
 refine q3.mono ?_;rintro e m ⟨p2,c2,rfl,a2,l2,n2,A⟩
 obtain⟨L2,y⟩:=aA ((az B').length)
 rw[<-y]
 have O:=l.trans A
 replace W:=ac A W
 replace S:=ac A S
 replace T:=ac A T
 replace x0:=ac A x0
 replace P:=ac A P
 replace V:=ac A V
 have J:Hid (Arr m p1 (az A')∧Z=(az A').length∧Z<=c1∧Arr m p2 (az B')∧L2=(az B').length∧L2<=c2∧Kp d m∧(∀g o,p1=some ⟨g,o,none⟩->g≠B)∧(∀g o,p2=some ⟨g,o,none⟩->g≠B)):=⟨a1.grown A,E.out,by rw[E.out];exact l1,a2,y,by rw[y];exact l2,O,fun g o h=>by have:=n1 g o h;omega,fun g o h=>by have:=n2 g o h;have:=Below.size l;omega⟩
 clear q3 a1 l1 a2 l2 l A O E y n1 n2
 have q4:Calls prog 211 #[.slice p1 Z c1,.slice p2 L2 c2] m fun e w'=>∃v,e=.returned (.tuple #[v,.int .i64 0])∧Own w' m.heap.size v (az (A'+B'))∧Kp m w':=by
  obtain⟨D,n,h3,h4,h5,h6,-,-,-⟩:=J.out
  obtain⟨-,-,-,b1,b2,b3⟩:=Y.out
  have g:=Bq p1 p2 c1 c2 (az A') (az B') m D h4 (bC _) (bC _) (by change aS _<_;omega) (by change aS _<_;omega) (by rw[<-n];exact h3) (by rw[<-h5];exact h6)
  rw[aV,aV]at g
  have hs:na A' B'=(az (A'+B'),0):=by
   unfold na
   rw[if_neg (by omega),if_neg (by omega)]
  rw[hs,<-n,<-h5]at g
  exact g
 go_wp2_with fail
 refine q4.mono ?_;rintro e M ⟨v,rfl,K,k3⟩
 have KK:Kp d m:=J.out.2.2.2.2.2.2.1
 replace x0:=ac k3 x0
 clear q4 P V W S T J
 have x:=K.ls
 obtain⟨pv,cv,rfl,bm,a3⟩:=K.arr
 have f:=KK.trans k3
 replace z0:=ac f z0
 replace z1:=ac f z1
 replace z2:=ac f z2
 replace f0:=(dC f I).trans f0
 replace f1:=(dC f I).trans f1
 replace f2:=(dC f I).trans f2
 obtain⟨LV,G⟩:=aA ((az (A'+B')).length)
 rw[<-G]
 have HO:Hid (Own M m.heap.size (.slice pv (az (A'+B')).length cv) (az (A'+B'))∧LV=(az (A'+B')).length∧Kp d M∧B+2<m.heap.size):=⟨K,G,f,by have:=Below.size KK;omega⟩
 clear K x bm a3 k3 f G KK
 go_wp2
 obtain⟨K,hL,f,cr⟩:=HO.out
 have kb:Kb (B+2) M (((M.setCell ⟨B+2,0,none⟩ (.bool s)).setCell ⟨B+2,1,none⟩ (.slice pv LV cv)).setCell ⟨B+2,2,none⟩ (.int .i64 low)):=(((Kb.refl (B+2) M).setCell 0 _).setCell 1 _).setCell 2 _
 have bt:=K.kb kb (fun g hg=>by have:=K.lt g hg;omega)
 have x:=bt.ls
 rw[<-hL]at x
 have a4:Kp w (((M.setCell ⟨B+2,0,none⟩ (.bool s)).setCell ⟨B+2,1,none⟩ (.slice pv LV cv)).setCell ⟨B+2,2,none⟩ (.int .i64 low)):=kb.kp (Y.out.2.2.1.trans f) (by rw[Y.out.2.1];omega)
 exact BR ⟨_,rfl,x,a4⟩ (by simp[results,results179,go_sem,z0,z1,z2])
theorem qr (s t:Bool)(a b:Nat)(ea eb low:Int)(pa pb:Option Addr)(ca cb:Nat)(w:World)(ha:Arr w pa (az a))(hca:(az a).length<=ca)(hb:Arr w pb (az b))(hcb:(az b).length<=cb)(la:aq a<=106)(lb:aq b<=106)(ea1:-2148<=ea)(ea2:ea<=4096)(eb1:-2148<=eb)(eb2:eb<=4096)(hlow:low=min ea eb)(A' B':Nat)(hA:A'=a*2^(ea-low).toNat)(hB':B'=b*2^(eb-low).toNat)(hst:s≠t)(hge:B'<=A') :
  Calls prog 179 #[.agg #[.bool s,.slice pa (az a).length ca,.int .i64 ea],.agg #[.bool t,.slice pb (az b).length cb,.int .i64 eb]] w fun e w'=>∃v,e=.returned (.agg #[.bool s,v,.int .i64 low])∧Ls w' v (az (A'-B'))∧Kp w w':=by
 obtain⟨La,I⟩:=aA ((az a).length)
 obtain⟨Lb,R⟩:=aA ((az b).length)
 rw[<-I,<-R]
 obtain⟨B,hB⟩:=aA w.heap.size
 obtain⟨d,D⟩:=aA (((w.alloc (.cells #[.bool s,.slice pa La ca,.int .i64 ea] 149)).alloc (.cells #[.bool t,.slice pb Lb cb,.int .i64 eb] 149)).alloc (.cells #[.bool false,.slice none 0 0,.int .i64 0] 149))
 have y:Kp w d:=by rw[D];exact(((Kp.refl w).alloc _).alloc _).alloc _
 obtain⟨x0,G,O,P,L,M,z0,z1,z2,f0,f1,f2,i0,i1,i2⟩:d.cell? ⟨B,0,none⟩=some (.bool s)∧d.cell? ⟨B,1,none⟩=some (.slice pa La ca)∧d.cell? ⟨B,2,none⟩=some (.int .i64 ea)∧d.cell? ⟨B+1,0,none⟩=some (.bool t)∧d.cell? ⟨B+1,1,none⟩=some (.slice pb Lb cb)∧d.cell? ⟨B+1,2,none⟩=some (.int .i64 eb)∧d.cell? ⟨B+2,0,none⟩=some (.bool false)∧d.cell? ⟨B+2,1,none⟩=some (.slice none 0 0)∧d.cell? ⟨B+2,2,none⟩=some (.int .i64 0)∧d.frozen? ⟨B+2,0,none⟩=false∧d.frozen? ⟨B+2,1,none⟩=false∧d.frozen? ⟨B+2,2,none⟩=false∧d.frozen? ⟨B,0,none⟩=false∧d.frozen? ⟨B,1,none⟩=false∧d.frozen? ⟨B,2,none⟩=false:=by rw[D,hB];simp[go_sem]
 have N:=be z0
 have b0:B<d.heap.size:=be x0
 obtain⟨F,bn⟩:∃F:Nat,F=8192:=⟨_,rfl⟩
 have bA:aq A'<=F:=by
  rw[hA,ay]
  have n:2^106*2^(ea-low).toNat<=2^F:=by rw[<-ag];exact al (by omega) (by omega)
  have i:a*2^(ea-low).toNat<2^106*2^(ea-low).toNat:=am ((ay a 106).1 la) (ah _)
  exact aE i n
 have bB:aq B'<=F:=by
  rw[hB',ay]
  have n:2^106*2^(eb-low).toNat<=2^F:=by rw[<-ag];exact al (by omega) (by omega)
  have i:b*2^(eb-low).toNat<2^106*2^(eb-low).toNat:=am ((ay b 106).1 lb) (ah _)
  exact aE i n
 have aw:aS (A'+B')<=16000:=dZ (A'+B') 16000 (by
  have n:=(ay A' F).1 bA
  have i:=(ay B' F).1 bB
  have Z:aq (A'+B')<=F+1:=by rw[ay,aF];omega
  omega)
 have lA:aS A'<=16000:=dZ A' 16000 (by omega)
 have lB:aS B'<=16000:=dZ B' 16000 (by omega)
 have ba:aq a<=106:=la
 have bb:aq b<=106:=lb
 have ad:aS a<=4:=dZ a 4 (by omega)
 have ar:aS b<=4:=dZ b 4 (by omega)
 have m:∀(u:Nat)(e:Int)(U:Nat)(pu:Option Addr)(cu Lu:Nat)(j:World),Arr j pu (az u)->(az u).length<=cu->Lu=(az u).length->aq u<=106->aS u<=4->0<=e->e<=8000->U=u*2^e.toNat->Calls prog 210 #[.slice pu Lu cu,.int .i64 e] j fun r w'=>∃p c,r=.returned (.tuple #[.slice p (az U).length c,.int .i64 0])∧Arr w' p (az U)∧(az U).length<=c∧(∀g o,p=some ⟨g,o,none⟩->j.heap.size<=g)∧Kp j w':=fun u e U pu cu Lu j au lu hl b1 b2 e1 e2 hU=>by
  subst hl
  have g:=qw pu cu (az u) j e au (bC u) (by change aS u<=_;omega) lu
  rw[aV]at g
  have hs:iI u e=(az U,0):=by
   unfold iI
   rw[if_neg (by omega),if_neg (by omega)]
   by_cases c0:u=0
   ·rw[if_pos c0,hU,c0,aM,dF]
   ·rw[if_neg c0,if_neg (by omega),hU]
  rw[hs]at g
  refine g.mono ?_
  rintro r w' ⟨v,n,i,Z⟩
  obtain⟨p,c,rfl,h4,Q⟩:=i.arr
  refine⟨p,c,n,h4,Q,fun g o hg=>?_,Z⟩
  rcases i.2 with⟨h',_⟩|⟨g',cY,cR,V,h7,_⟩
  ·rw[hg]at h';cases h'
  ·rw[hg]at V;cases V;exact h7
 have q1:=m a (ea-low) A' pa ca La d (ha.grown y) hca I ba ad (by omega) (by omega) hA
 have q2:=fun j (k:Kp d j)=>m b (eb-low) B' pb cb Lb j (hb.grown (y.trans k)) hcb R bb ar (by omega) (by omega) hB'
 have g2:∀w:World,(Builtin.min_ #[3,3] 3 #[.int .i64 ea,.int .i64 eb]).run prog w=.ok (.int .i64 low) w:=fun w=>by
  rw[run_min_int2]
  congr 2
  split<;>omega
 have cD:wrap64 (ea-low)=ea-low:=eQ _ (by omega) (by omega)
 have cL:wrap64 (eb-low)=eb-low:=eQ _ (by omega) (by omega)
 have HW:Hid (d=((w.alloc (.cells #[.bool s,.slice pa La ca,.int .i64 ea] 149)).alloc (.cells #[.bool t,.slice pb Lb cb,.int .i64 eb] 149)).alloc (.cells #[.bool false,.slice none 0 0,.int .i64 0] 149)∧B=w.heap.size∧Kp w d∧aS A'<=16000∧aS B'<=16000∧aS (A'+B')<=16000):=⟨D,hB,y,lA,lB,aw⟩
 have a3:-2148<=low∧low<=4096∧ea-low<=8000∧eb-low<=8000∧0<=ea-low∧0<=eb-low:=by omega
 have HE:Hid (-2148<=low∧low<=4096∧ea-low<=8000∧eb-low<=8000∧0<=ea-low∧0<=eb-low):=a3
 clear bn a3 m ha hca hb hcb la lb hA hB' I R D hB y bA bB lA lB aw ba bb ad ar hlow
 have cE:(s == t)=false:=by cases s<;>cases t<;>simp_all
 have ch:decide (s=t)=false:=by simp[hst]
 clear hst
 have HG:Hid (B'<=A'):=hge
 clear hge
 go_enter func179,ntmps179
 go_wp2_with fail
 rw[<-HW.out.2.1]
 try rw[<-HW.out.1]
 refine q1.mono ?_;rintro e j ⟨p1,c1,rfl,a1,l1,n1,q⟩
 obtain⟨L1,K⟩:=aA ((az A').length)
 rw[<-K]
 have H:Hid (L1=(az A').length):=K
 clear K
 replace P:=ac q P
 replace L:=ac q L
 replace M:=ac q M
 replace x0:=ac q x0
 replace G:=ac q G
 replace O:=ac q O
 have q3:=q2 j q
 clear q1 q2
 go_wp2_with fail
 refine q3.mono ?_;rintro e Y ⟨X,c2,rfl,a2,l2,n2,E⟩
 obtain⟨L2,A⟩:=aA ((az B').length)
 rw[<-A]
 have aj:=q.trans E
 replace P:=ac E P
 replace L:=ac E L
 replace M:=ac E M
 replace x0:=ac E x0
 replace G:=ac E G
 replace O:=ac E O
 have C:Hid (Arr Y p1 (az A')∧L1=(az A').length∧L1<=c1∧Arr Y X (az B')∧L2=(az B').length∧L2<=c2∧Kp d Y∧(∀g o,p1=some ⟨g,o,none⟩->g≠B)∧(∀g o,X=some ⟨g,o,none⟩->g≠B)):=⟨a1.grown E,H.out,by rw[H.out];exact l1,a2,A,by rw[A];exact l2,aj,fun g o h=>by have:=n1 g o h;omega,fun g o h=>by have:=n2 g o h;have:=Below.size q;omega⟩
 clear q3 a1 l1 a2 l2 q E aj H A n1 n2
 have q4:Calls prog 212 #[.slice p1 L1 c1,.slice X L2 c2] Y (RT (.int .i64 (dW A' B')) Y):=by
  obtain⟨n,i,Z,h4,Q,V,-,-,-⟩:=C.out
  obtain⟨-,-,-,b1,b2,b3⟩:=HW.out
  have g:=nK p1 X c1 c2 (az A') (az B') Y n h4 (bC _) (bC _) (by change aS _<=_;omega) (by change aS _<=_;omega) (by rw[<-i];exact Z) (by rw[<-Q];exact V)
  rw[aV,aV,<-i,<-Q]at g
  exact g
 obtain⟨bH,l⟩:=aA (dW A' B')
 rw[<-l]at q4
 have bR:¬bH<0:=by
  rw[l];unfold dW;have:=HG.out;rw[if_neg (by omega)];split<;>omega
 clear l
 go_wp2_with fail
 refine q4.mono ?_;rintro e T ⟨rfl,x⟩
 clear q4
 replace x0:=ac x x0
 replace G:=ac x G
 replace O:=ac x O
 replace P:=ac x P
 replace L:=ac x L
 replace M:=ac x M
 have q5:Calls prog 213 #[.slice p1 L1 c1,.slice X L2 c2] T fun e w'=>∃v,e=.returned (.tuple #[v,.int .i64 0])∧Own w' T.heap.size v (az (A'-B'))∧Kp T w':=by
  obtain⟨n,i,Z,h4,Q,V,-,h8,h9⟩:=C.out
  obtain⟨-,-,-,b1,b2,b3⟩:=HW.out
  have g:=tJ p1 X c1 c2 (az A') (az B') T (n.grown x) (h4.grown x) (bC _) (bC _) (by change aS _<_;omega) (by change aS _<_;omega) (by rw[<-i];exact Z) (by rw[<-Q];exact V)
  rw[aV,aV]at g
  have hs:jU A' B'=(az (A'-B'),0):=by
   unfold jU
   rw[if_neg (by have:=HG.out;omega),if_neg (by omega)]
  rw[hs]at g
  rw[i,Q]
  exact g
 go_wp2_with fail
 refine q5.mono ?_;rintro e W ⟨v,rfl,S,k4⟩
 have KK:Kp d T:=C.out.2.2.2.2.2.2.1.trans x
 replace x0:=ac k4 x0
 clear q5 G O P L M C x bR
 have z:=S.ls
 obtain⟨pv,cv,rfl,bq,a9⟩:=S.arr
 have f:=KK.trans k4
 replace z0:=ac f z0
 replace z1:=ac f z1
 replace z2:=ac f z2
 replace f0:=(dC f N).trans f0
 replace f1:=(dC f N).trans f1
 replace f2:=(dC f N).trans f2
 obtain⟨LV,J⟩:=aA ((az (A'-B')).length)
 rw[<-J]
 have HO:Hid (Own W T.heap.size (.slice pv (az (A'-B')).length cv) (az (A'-B'))∧LV=(az (A'-B')).length∧Kp d W∧B+2<T.heap.size):=⟨S,J,f,by have:=Below.size KK;omega⟩
 clear S z bq a9 k4 f J KK
 go_wp2
 obtain⟨S,hL,f,cN⟩:=HO.out
 have kb:Kb (B+2) W (((W.setCell ⟨B+2,0,none⟩ (.bool s)).setCell ⟨B+2,1,none⟩ (.slice pv LV cv)).setCell ⟨B+2,2,none⟩ (.int .i64 low)):=(((Kb.refl (B+2) W).setCell 0 _).setCell 1 _).setCell 2 _
 have bE:=S.kb kb (fun g hg=>by have:=S.lt g hg;omega)
 have z:=bE.ls
 rw[<-hL]at z
 have bc:Kp w (((W.setCell ⟨B+2,0,none⟩ (.bool s)).setCell ⟨B+2,1,none⟩ (.slice pv LV cv)).setCell ⟨B+2,2,none⟩ (.int .i64 low)):=kb.kp (HW.out.2.2.1.trans f) (by rw[HW.out.2.1];omega)
 exact BR ⟨_,rfl,z,bc⟩ (by simp[results,results179,go_sem,z0,z1,z2])
theorem Arr.kb9 {w w':World}{B:Nat}{p:Option Addr}{xs:List Int}(h:Arr w p xs)(k:Kb B w w')(hne:∀g o,p=some ⟨g,o,none⟩->g≠B):Arr w' p xs:=by
 rcases h with h|⟨b,off,e,hc⟩
 ·exact Or.inl h
 ·exact Or.inr ⟨b,off,e,fun j hj=>k.arr (hne b off e) (hc j hj)⟩
theorem qo (s t:Bool)(a b:Nat)(ea eb low:Int)(pa pb:Option Addr)(ca cb:Nat)(w:World)(ha:Arr w pa (az a))(hca:(az a).length<=ca)(hb:Arr w pb (az b))(hcb:(az b).length<=cb)(la:aq a<=106)(lb:aq b<=106)(ea1:-2148<=ea)(ea2:ea<=4096)(eb1:-2148<=eb)(eb2:eb<=4096)(hlow:low=min ea eb)(A' B':Nat)(hA:A'=a*2^(ea-low).toNat)(hB':B'=b*2^(eb-low).toNat)(hst:s≠t)(hge:A'<B') :
  Calls prog 179 #[.agg #[.bool s,.slice pa (az a).length ca,.int .i64 ea],.agg #[.bool t,.slice pb (az b).length cb,.int .i64 eb]] w fun e w'=>∃v,e=.returned (.agg #[.bool t,v,.int .i64 low])∧Ls w' v (az (B'-A'))∧Kp w w':=by
 obtain⟨La,Q⟩:=aA ((az a).length)
 obtain⟨Lb,ab⟩:=aA ((az b).length)
 rw[<-Q,<-ab]
 obtain⟨B,hB⟩:=aA w.heap.size
 obtain⟨f,K⟩:=aA (((w.alloc (.cells #[.bool s,.slice pa La ca,.int .i64 ea] 149)).alloc (.cells #[.bool t,.slice pb Lb cb,.int .i64 eb] 149)).alloc (.cells #[.bool false,.slice none 0 0,.int .i64 0] 149))
 have E:Kp w f:=by rw[K];exact(((Kp.refl w).alloc _).alloc _).alloc _
 obtain⟨x0,O,Y,Z,V,W,z0,z1,z2,f0,f1,f2,i0,i1,i2⟩:f.cell? ⟨B,0,none⟩=some (.bool s)∧f.cell? ⟨B,1,none⟩=some (.slice pa La ca)∧f.cell? ⟨B,2,none⟩=some (.int .i64 ea)∧f.cell? ⟨B+1,0,none⟩=some (.bool t)∧f.cell? ⟨B+1,1,none⟩=some (.slice pb Lb cb)∧f.cell? ⟨B+1,2,none⟩=some (.int .i64 eb)∧f.cell? ⟨B+2,0,none⟩=some (.bool false)∧f.cell? ⟨B+2,1,none⟩=some (.slice none 0 0)∧f.cell? ⟨B+2,2,none⟩=some (.int .i64 0)∧f.frozen? ⟨B+2,0,none⟩=false∧f.frozen? ⟨B+2,1,none⟩=false∧f.frozen? ⟨B+2,2,none⟩=false∧f.frozen? ⟨B,0,none⟩=false∧f.frozen? ⟨B,1,none⟩=false∧f.frozen? ⟨B,2,none⟩=false:=by rw[K,hB];simp[go_sem]
 have X:=be z0
 have n:B<f.heap.size:=be x0
 obtain⟨M,b9⟩:∃M:Nat,M=8192:=⟨_,rfl⟩
 have bA:aq A'<=M:=by
  rw[hA,ay]
  have A:2^106*2^(ea-low).toNat<=2^M:=by rw[<-ag];exact al (by omega) (by omega)
  have l:a*2^(ea-low).toNat<2^106*2^(ea-low).toNat:=am ((ay a 106).1 la) (ah _)
  exact aE l A
 have bB:aq B'<=M:=by
  rw[hB',ay]
  have A:2^106*2^(eb-low).toNat<=2^M:=by rw[<-ag];exact al (by omega) (by omega)
  have l:b*2^(eb-low).toNat<2^106*2^(eb-low).toNat:=am ((ay b 106).1 lb) (ah _)
  exact aE l A
 have bm:aS (A'+B')<=16000:=dZ (A'+B') 16000 (by
  have A:=(ay A' M).1 bA
  have l:=(ay B' M).1 bB
  have h3:aq (A'+B')<=M+1:=by rw[ay,aF];omega
  omega)
 have lA:aS A'<=16000:=dZ A' 16000 (by omega)
 have lB:aS B'<=16000:=dZ B' 16000 (by omega)
 have ba:aq a<=106:=la
 have bb:aq b<=106:=lb
 have a7:aS a<=4:=dZ a 4 (by omega)
 have bl:aS b<=4:=dZ b 4 (by omega)
 have z:∀(u:Nat)(e:Int)(U:Nat)(pu:Option Addr)(cu Lu:Nat)(x:World),Arr x pu (az u)->(az u).length<=cu->Lu=(az u).length->aq u<=106->aS u<=4->0<=e->e<=8000->U=u*2^e.toNat->Calls prog 210 #[.slice pu Lu cu,.int .i64 e] x fun r w'=>∃p c,r=.returned (.tuple #[.slice p (az U).length c,.int .i64 0])∧Arr w' p (az U)∧(az U).length<=c∧(∀g o,p=some ⟨g,o,none⟩->x.heap.size<=g)∧Kp x w':=fun u e U pu cu Lu x au lu hl b1 b2 e1 e2 hU=>by
  subst hl
  have g:=qw pu cu (az u) x e au (bC u) (by change aS u<=_;omega) lu
  rw[aV]at g
  have hs:iI u e=(az U,0):=by
   unfold iI
   rw[if_neg (by omega),if_neg (by omega)]
   by_cases c0:u=0
   ·rw[if_pos c0,hU,c0,aM,dF]
   ·rw[if_neg c0,if_neg (by omega),hU]
  rw[hs]at g
  refine g.mono ?_
  rintro r w' ⟨v,A,l,h3⟩
  obtain⟨p,c,rfl,h4,h5⟩:=l.arr
  refine⟨p,c,A,h4,h5,fun g o hg=>?_,h3⟩
  rcases l.2 with⟨h',_⟩|⟨g',dp,dk,h6,h7,_⟩
  ·rw[hg]at h';cases h'
  ·rw[hg]at h6;cases h6;exact h7
 have q1:=z a (ea-low) A' pa ca La f (ha.grown E) hca Q ba a7 (by omega) (by omega) hA
 have q2:=fun x (k:Kp f x)=>z b (eb-low) B' pb cb Lb x (hb.grown (E.trans k)) hcb ab bb bl (by omega) (by omega) hB'
 have g2:∀w:World,(Builtin.min_ #[3,3] 3 #[.int .i64 ea,.int .i64 eb]).run prog w=.ok (.int .i64 low) w:=fun w=>by
  rw[run_min_int2]
  congr 2
  split<;>omega
 have dc:wrap64 (ea-low)=ea-low:=eQ _ (by omega) (by omega)
 have df:wrap64 (eb-low)=eb-low:=eQ _ (by omega) (by omega)
 have HW:Hid (f=((w.alloc (.cells #[.bool s,.slice pa La ca,.int .i64 ea] 149)).alloc (.cells #[.bool t,.slice pb Lb cb,.int .i64 eb] 149)).alloc (.cells #[.bool false,.slice none 0 0,.int .i64 0] 149)∧B=w.heap.size∧Kp w f∧aS A'<=16000∧aS B'<=16000∧aS (A'+B')<=16000):=⟨K,hB,E,lA,lB,bm⟩
 have bq:-2148<=low∧low<=4096∧ea-low<=8000∧eb-low<=8000∧0<=ea-low∧0<=eb-low:=by omega
 have HE:Hid (-2148<=low∧low<=4096∧ea-low<=8000∧eb-low<=8000∧0<=ea-low∧0<=eb-low):=bq
 clear b9 bq z ha hca hb hcb la lb hA hB' Q ab K hB E bA bB lA lB bm ba bb a7 bl hlow
 have dd:(s == t)=false:=by cases s<;>cases t<;>simp_all
 have cz:decide (s=t)=false:=by simp[hst]
 clear hst
 have HG:Hid (A'<B'):=hge
 clear hge
 go_enter func179,ntmps179
 go_wp2_with fail
 rw[<-HW.out.2.1]
 try rw[<-HW.out.1]
 refine q1.mono ?_;rintro e x ⟨p1,c1,rfl,a1,l1,n1,C⟩
 obtain⟨L1,T⟩:=aA ((az A').length)
 rw[<-T]
 have P:Hid (L1=(az A').length):=T
 clear T
 replace Z:=ac C Z
 replace V:=ac C V
 replace W:=ac C W
 replace x0:=ac C x0
 replace O:=ac C O
 replace Y:=ac C Y
 have q3:=q2 x C
 clear q1 q2
 go_wp2_with fail
 refine q3.mono ?_;rintro e w2 ⟨p2,c2,rfl,a2,l2,n2,L⟩
 obtain⟨L2,H⟩:=aA ((az B').length)
 rw[<-H]
 have a8:=C.trans L
 replace Z:=ac L Z
 replace V:=ac L V
 replace W:=ac L W
 replace x0:=ac L x0
 replace O:=ac L O
 replace Y:=ac L Y
 have J:Hid (Arr w2 p1 (az A')∧L1=(az A').length∧L1<=c1∧Arr w2 p2 (az B')∧L2=(az B').length∧L2<=c2∧Kp f w2∧(∀g o,p1=some ⟨g,o,none⟩->g≠B)∧(∀g o,p2=some ⟨g,o,none⟩->g≠B)):=⟨a1.grown L,P.out,by rw[P.out];exact l1,a2,H,by rw[H];exact l2,a8,fun g o h=>by have:=n1 g o h;omega,fun g o h=>by have:=n2 g o h;have:=Below.size C;omega⟩
 clear q3 a1 l1 a2 l2 C L a8 P H n1 n2
 have q4:Calls prog 212 #[.slice p1 L1 c1,.slice p2 L2 c2] w2 (RT (.int .i64 (dW A' B')) w2):=by
  obtain⟨A,l,h3,h4,h5,h6,-,-,-⟩:=J.out
  obtain⟨-,-,-,b1,b2,b3⟩:=HW.out
  have g:=nK p1 p2 c1 c2 (az A') (az B') w2 A h4 (bC _) (bC _) (by change aS _<=_;omega) (by change aS _<=_;omega) (by rw[<-l];exact h3) (by rw[<-h5];exact h6)
  rw[aV,aV,<-l,<-h5]at g
  exact g
 obtain⟨cl,y⟩:=aA (dW A' B')
 rw[<-y]at q4
 have cn:cl<0:=by
  rw[y];unfold dW;rw[if_pos HG.out];decide
 clear y
 go_wp2_with fail
 refine q4.mono ?_;rintro e w3 ⟨rfl,D⟩
 clear q4
 replace x0:=ac D x0
 replace O:=ac D O
 replace Y:=ac D Y
 replace Z:=ac D Z
 replace V:=ac D V
 replace W:=ac D W
 have d:Kp f w3:=J.out.2.2.2.2.2.2.1.trans D
 replace i0:=(dC d n).trans i0
 replace i1:=(dC d n).trans i1
 replace i2:=(dC d n).trans i2
 go_upto_region 8 with fail
 go_region
 all_goals go_wp2_with fail
 obtain⟨wc,q⟩:=aA (((w3.setCell ⟨B,0,none⟩ (.bool t)).setCell ⟨B,1,none⟩ (.slice pb Lb cb)).setCell ⟨B,2,none⟩ (.int .i64 eb))
 obtain⟨I,R⟩:=aA wc.drew
 rw[<-q,<-R]
 have j:Kb B w3 wc:=by rw[q];exact(((Kb.refl B w3).setCell 0 _).setCell 1 _).setCell 2 _
 have m:Kp wc I:=by rw[R];exact(Kp.refl wc).drew
 have b4:w3.heap.size<=wc.heap.size:=j.2.2.2.1
 have ci:=Below.size d
 have N:Kp w I:=(j.kp (HW.out.2.2.1.trans d) (by rw[HW.out.2.1];exact ao _)).trans m
 have a9:wc.cell? ⟨B,0,none⟩=some (.bool t):=by rw[q];simp[go_sem,x0]
 have fz:∀o,wc.frozen? ⟨B+2,o,none⟩=w3.frozen? ⟨B+2,o,none⟩:=fun o=>by rw[q];simp only[World.frozen?_setCell]
 replace x0:=ac m a9
 replace z0:=ac m (j.arr (by omega) (ac d z0))
 replace z1:=ac m (j.arr (by omega) (ac d z1))
 replace z2:=ac m (j.arr (by omega) (ac d z2))
 replace f0:=(dC m (by omega)).trans ((fz 0).trans ((dC d X).trans f0))
 replace f1:=(dC m (by omega)).trans ((fz 1).trans ((dC d X).trans f1))
 replace f2:=(dC m (by omega)).trans ((fz 2).trans ((dC d X).trans f2))
 have i:B+2<I.heap.size:=by have:=Below.size m;omega
 have q5:Calls prog 213 #[.slice p2 L2 c2,.slice p1 L1 c1] I fun e w'=>∃v,e=.returned (.tuple #[v,.int .i64 0])∧Own w' I.heap.size v (az (B'-A'))∧Kp I w':=by
  obtain⟨A,l,h3,h4,h5,h6,-,h8,h9⟩:=J.out
  obtain⟨-,-,-,b1,b2,b3⟩:=HW.out
  have g:=tJ p2 p1 c2 c1 (az B') (az A') I (((h4.grown D).kb9 j h9).grown m) (((A.grown D).kb9 j h8).grown m) (bC _) (bC _) (by change aS _<_;omega) (by change aS _<_;omega) (by rw[<-h5];exact h6) (by rw[<-l];exact h3)
  rw[aV,aV]at g
  have hs:jU B' A'=(az (B'-A'),0):=by
   unfold jU
   rw[if_neg (by have:=HG.out;omega),if_neg (by omega)]
  rw[hs]at g
  rw[h5,l]
  exact g
 refine q5.mono ?_;rintro e w5 ⟨v,rfl,ho,G⟩
 have F:=ho.ls
 obtain⟨pv,cv,rfl,cd,bL⟩:=ho.arr
 replace x0:=ac G x0
 replace z0:=ac G z0
 replace z1:=ac G z1
 replace z2:=ac G z2
 replace f0:=(dC G i).trans f0
 replace f1:=(dC G i).trans f1
 replace f2:=(dC G i).trans f2
 obtain⟨LV,S⟩:=aA ((az (B'-A')).length)
 rw[<-S]
 have HO:Hid (Own w5 I.heap.size (.slice pv (az (B'-A')).length cv) (az (B'-A'))∧LV=(az (B'-A')).length∧Kp w w5∧B+2<I.heap.size):=⟨ho,S,N.trans G,i⟩
 clear q5 ho F cd bL G S N m j R q fz a9 O Y Z V W J D d cn i0 i1 i2 b4 ci i
 go_wp2
 obtain⟨ho,hL,b0,dh⟩:=HO.out
 have kb:Kb (B+2) w5 (((w5.setCell ⟨B+2,0,none⟩ (.bool t)).setCell ⟨B+2,1,none⟩ (.slice pv LV cv)).setCell ⟨B+2,2,none⟩ (.int .i64 low)):=(((Kb.refl (B+2) w5).setCell 0 _).setCell 1 _).setCell 2 _
 have ck:=ho.kb kb (fun g hg=>by have:=ho.lt g hg;omega)
 have F:=ck.ls
 rw[<-hL]at F
 have bR:Kp w (((w5.setCell ⟨B+2,0,none⟩ (.bool t)).setCell ⟨B+2,1,none⟩ (.slice pv LV cv)).setCell ⟨B+2,2,none⟩ (.int .i64 low)):=kb.kp b0 (by rw[HW.out.2.1];omega)
 exact BR ⟨_,rfl,F,bR⟩ (by simp[results,results179,go_sem,z0,z1,z2])
theorem ma (n n':Bool)(m m' K:Nat)(hK:53<=K)(hK2:K+12<=2097)(hm:m<9218868437227405312)(hm':m'<9218868437227405312)(hx:(Iv n m).natAbs<2^K)(hy:(Iv n' m').natAbs<2^K)(V:Int)(hV:V=Iv n m+Iv n' m'):∃(s o:Bool)(r ro:Nat),(∀w:World,Calls prog 175 #[.float .f64 (Fq.wD n m),.float .f64 (Fq.wD n' m')] w (RE (.tuple #[.float .f64 (Fq.wD s r),.float .f64 (Fq.wD o ro)]) w))∧r<9218868437227405312∧ro<9218868437227405312∧r=fk 53 (rU 0 53 V.natAbs 1)∧s=(if V=0 then n && n' else decide (V<0))∧Iv o ro=V-Iv s r:=by
 obtain⟨s,p,a,b,c,o,r,I,M,L,J,ro,q,i,k,l,z,t,H,E,G,F,A⟩:=um n n' m m' K hK hK2 hm hm' hx hy V hV
 refine⟨s,o,r,ro,fun w=>?_,H,E,G,F,A⟩
 obtain⟨X,d⟩:=aA (Fq.wD n m)
 obtain⟨Y,h⟩:=aA (Fq.wD n' m')
 obtain⟨N,f⟩:=aA (Fq.wD s r)
 obtain⟨P,g⟩:=aA (Fq.wD p I)
 obtain⟨B,j⟩:=aA (Fq.wD a M)
 obtain⟨C,x⟩:=aA (Fq.wD b L)
 obtain⟨D,u⟩:=aA (Fq.wD c J)
 obtain⟨O,y⟩:=aA (Fq.wD o ro)
 rw[<-d,<-h,<-f,<-y]
 rw[<-d,<-h,<-f]at q
 rw[<-d,<-f,<-g]at i
 rw[<-f,<-g,<-j]at k
 rw[<-d,<-j,<-x]at l
 rw[<-h,<-g,<-u]at z
 rw[<-x,<-u,<-y]at t
 have Q:∀w:World,(binOp .add 27 (.float .f64 X) (.float .f64 Y)).run prog w=.ok (.float .f64 N) w:=fun w=>run_float_arith w .add 27 .f64 X Y N q
 have S:∀w:World,(binOp .sub 27 (.float .f64 N) (.float .f64 X)).run prog w=.ok (.float .f64 P) w:=fun w=>run_float_arith w .sub 27 .f64 N X P i
 have T:∀w:World,(binOp .sub 27 (.float .f64 N) (.float .f64 P)).run prog w=.ok (.float .f64 B) w:=fun w=>run_float_arith w .sub 27 .f64 N P B k
 have R:∀w:World,(binOp .sub 27 (.float .f64 X) (.float .f64 B)).run prog w=.ok (.float .f64 C) w:=fun w=>run_float_arith w .sub 27 .f64 X B C l
 have W:∀w:World,(binOp .sub 27 (.float .f64 Y) (.float .f64 P)).run prog w=.ok (.float .f64 D) w:=fun w=>run_float_arith w .sub 27 .f64 Y P D z
 have U:∀w:World,(binOp .add 27 (.float .f64 C) (.float .f64 D)).run prog w=.ok (.float .f64 O) w:=fun w=>run_float_arith w .add 27 .f64 C D O t
 clear d h f g j x u y q i k l z t H E G F A hm hm' hx hy hV
 go_enter func175,ntmps175
 go_wp2
 exact BR ⟨rfl,rfl⟩
theorem qj (d:Int)(ng:Bool)(c:Nat)(low:Int)(v:Value)(w:World)(hv:Ls w v (az c))(hT:Tab w)(hQ:Fq.Tab w)(hd1:-9223372036854775808<=d)(hd2:d<9223372036854775808)(hl:aS c<=16384) :
  Calls prog 180 #[.agg #[.bool ng,v,.int .i64 low],.int .i64 d] w (RT (.float .f64 (tI d ng c low)) w):=by
 obtain⟨p,g,rfl,n,l⟩:=hv
 obtain⟨L,k⟩:=aA ((az c).length)
 obtain⟨B,i⟩:=aA w.heap.size
 obtain⟨f,b⟩:=aA (w.alloc (.cells #[.bool ng,.slice p L g,.int .i64 low] 149))
 have a:Kp w f:=by rw[b];exact(Kp.refl w).alloc _
 have h:=GK d ng p g (az c) low f (hT.grown a) (Fq.Tab.grown hQ a) hd1 hd2 (n.grown a) (bC c) (by change aS c<=_;omega) l
 rw[aV,<-k]at h
 rw[<-k]
 obtain⟨x0,r,t⟩:f.cell? ⟨B,0,none⟩=some (.bool ng)∧f.cell? ⟨B,1,none⟩=some (.slice p L g)∧f.cell? ⟨B,2,none⟩=some (.int .i64 low):=by rw[b,i];simp[go_sem]
 obtain⟨Z,o⟩:=aA (tI d ng c low)
 rw[<-o]at h|-
 have j:Hid (f=w.alloc (.cells #[.bool ng,.slice p L g,.int .i64 low] 149)∧B=w.heap.size∧Kp w f):=⟨b,i,a⟩
 clear o k b i a n l hT hQ hd1 hd2 hl
 go_enter func180,ntmps180
 go_wp2_with fail
 rw[<-j.out.2.1]
 try rw[<-j.out.1]
 go_wp2_with fail
 refine h.mono ?_;rintro e s ⟨rfl,m⟩
 have q:=j.out.2.2.trans m
 clear h m
 go_wp2
 exact BR ⟨rfl,q⟩
theorem Eo {a:Nat} (h:a<9007199254740992):aq a<=106:=(ay a 106).2 (aE h (by decide))
theorem xf (n n':Bool)(m m':Nat)(a b:Nat)(ea eb:Int)(la:a<9007199254740992)(lb:b<9007199254740992)(ea1:-1074<=ea)(ea2:ea<=2048)(eb1:-1074<=eb)(eb2:eb<=2048)(ha:a*2^(ea+1074).toNat=Fq.vV Ieee.double m)(hb:b*2^(eb+1074).toNat=Fq.vV Ieee.double m')(s t:Bool)(hs:s=(n && !(m == 0)))(ht:t=(n' && !(m' == 0))) :
  ∃(ng:Bool)(c:Nat)(low:Int),(∀d:Int,tI d ng c low=fg d (Iv n m+Iv n' m'))∧aS c<=16384∧∀(va vb:Value)(w:World),Ls w va (az a)->Ls w vb (az b)->Calls prog 179 #[.agg #[.bool s,va,.int .i64 ea],.agg #[.bool t,vb,.int .i64 eb]] w fun e w'=>∃v,e=.returned (.agg #[.bool ng,v,.int .i64 low])∧Ls w' v (az c)∧Kp w w':=by
 obtain⟨low,h⟩:=aA (min ea eb)
 obtain⟨g,q⟩:=aA (a*2^(ea-low).toNat)
 obtain⟨f,p⟩:=aA (b*2^(eb-low).toNat)
 obtain⟨J,I,H⟩:=ur s t a b ea eb low ea1 eb1 h n n' m m' hs ht ha hb g f q p
 obtain⟨j,L⟩:∃j:Nat,j=4096:=⟨_,rfl⟩
 have y:∀(u:Nat)(e:Int)(U:Nat),u<9007199254740992->e<=4000->U=u*2^e.toNat->aq U<=j:=fun u e U G N h3=>by
  rw[h3,ay]
  have O:2^53*2^e.toNat<=2^j:=by rw[<-ag];exact al (by omega) (by omega)
  have K:u*2^e.toNat<2^53*2^e.toNat:=am (by rw[show(2:Nat)^53=9007199254740992 from by decide];exact G) (ah _)
  exact aE K O
 have P:=y a (ea-low) g la (by omega) q
 have M:=y b (eb-low) f lb (by omega) p
 have F:∀c:Nat,c<=g+f->aq c<=j+1:=fun c hc=>by
  have G:=(ay g j).1 P
  have N:=(ay f j).1 M
  rw[ay,aF];omega
 have i:∀(ng:Bool)(c:Nat),c<=g+f->(Iv n m+Iv n' m'=if ng then -((c*2^(low+1074).toNat:Nat):Int) else ((c*2^(low+1074).toNat:Nat):Int))->(∀d:Int,tI d ng c low=fg d (Iv n m+Iv n' m'))∧aS c<=16384:=fun ng c hc hv=>by
  have G:=F c hc
  exact⟨fun d=>C3 d ng c low _ (by omega) (by omega) (by omega) hv,dZ c 16384 (by omega)⟩
 by_cases k:s=t
 ·obtain⟨l,o⟩:=i s (g+f) (ao _) (J k)
  refine⟨s,g+f,low,l,o, ?_⟩
  rintro va vb w ⟨r,E,rfl,A,B⟩ ⟨x,D,rfl,C,z⟩
  exact qt s t a b ea eb low r x E D w A B C z (Eo la) (Eo lb) (by omega) (by omega) (by omega) (by omega) h g f q p k
 ·by_cases c2:f<=g
  ·obtain⟨l,o⟩:=i s (g-f) (by omega) (I k c2)
   refine⟨s,g-f,low,l,o, ?_⟩
   rintro va vb w ⟨r,E,rfl,A,B⟩ ⟨x,D,rfl,C,z⟩
   exact qr s t a b ea eb low r x E D w A B C z (Eo la) (Eo lb) (by omega) (by omega) (by omega) (by omega) h g f q p k c2
  ·obtain⟨l,o⟩:=i t (f-g) (by omega) (H k (by omega))
   refine⟨t,f-g,low,l,o, ?_⟩
   rintro va vb w ⟨r,E,rfl,A,B⟩ ⟨x,D,rfl,C,z⟩
   exact qo s t a b ea eb low r x E D w A B C z (Eo la) (Eo lb) (by omega) (by omega) (by omega) (by omega) h g f q p k (by omega)
theorem xk (d:Int)(n n':Bool)(m m':Nat)(hm:m<9218868437227405312)(hm':m'<9218868437227405312)(w:World)(hT:Tab w)(hQ:Fq.Tab w)(hd1:-9223372036854775808<=d)(hd2:d<9223372036854775808) :
  Calls prog 140 #[.int .i64 d,.float .f64 (Fq.wD n m),.float .f64 (Fq.wD n' m')] w (RT (.float .f64 (fg d (Iv n m+Iv n' m'))) w):=by
 have f:=mw n m (by omega) w
 have j:=mw n' m' (by omega) w
 obtain⟨X,u⟩:=aA (Fq.wD n m)
 obtain⟨Y,x⟩:=aA (Fq.wD n' m')
 obtain⟨Z,C⟩:=aA (fg d (Iv n m+Iv n' m'))
 by_cases ct:m<=9110782046170513408∧m'<=9110782046170513408
 ·obtain⟨l,c2⟩:=ct
  rw[af l]at f
  rw[af c2]at j
  obtain⟨K,hK⟩:∃K:Nat,K=2075:=⟨_,rfl⟩
  have B:(Iv n m).natAbs<2^K:=by rw[gg];exact lF m l K hK
  have A:(Iv n' m').natAbs<2^K:=by rw[gg];exact lF m' c2 K hK
  obtain⟨s,o,r,ro,h3,r1,r2,r3,r4,r5⟩:=ma n n' m m' K (by omega) (by omega) hm hm' B A _ rfl
  have h4:=wg d (Iv n m+Iv n' m') s o (n && n') r ro (K+1) (by omega) (by omega) (gm B A (ao _)).1 r1 r2 r3 r4 r5
  obtain⟨N,hN⟩:=aA (Fq.wD s r)
  obtain⟨O,hO⟩:=aA (Fq.wD o ro)
  rw[<-u]at f
  rw[<-x]at j
  rw[<-u,<-x,<-hN,<-hO]at h3
  rw[<-hN,<-hO,<-C]at h4
  rw[<-u,<-x,<-C]
  clear u x C hN hO l c2 B A hK r1 r2 r3 r4 r5 hm hm' hT hQ hd1 hd2
  go_enter func140,ntmps140
  go_wp2
  refine wp_scope_straight ?_
  go_wp2_with fail
  refine SM f ?_;clear f
  go_wp2_with fail
  refine SM j ?_;clear j
  have h5:=h3 w
  clear h3
  go_wp2_with fail
  refine SM h5 ?_;clear h5
  have h6:=h4 w
  clear h4
  go_wp2_with fail
  refine h6.mono ?_;rintro e g ⟨rfl,p⟩
  clear h6
  go_wp2
  try rw[Exit.noGoto_ret]
  exact BR ⟨rfl,p⟩
 ·have g1:=fO n m (by omega) w
  have g2:=fO n' m' (by omega) w
  rw[af hm]at g1
  rw[af hm']at g2
  obtain⟨a,ea,a1,a2,a3,a4,ta⟩:=mx n m hm
  obtain⟨b,eb,B,A,b3,b4,tb⟩:=mx n' m' hm'
  obtain⟨s,hs⟩:∃s:Bool,s=(n && !(m == 0)):=⟨_,rfl⟩
  obtain⟨t,ht⟩:∃t:Bool,t=(n' && !(m' == 0)):=⟨_,rfl⟩
  rw[<-hs]at ta
  rw[<-ht]at tb
  obtain⟨ng,c,low,f1,f2,hp⟩:=xf n n' m m' a b ea eb a4 b4 a2 a3 A b3 a1 B s t hs ht
  have hr:∀(v:Value)(g:World),Kp w g->Ls g v (az c)->Calls prog 180 #[.agg #[.bool ng,v,.int .i64 low],.int .i64 d] g (RT (.float .f64 Z) g):=fun v g p l1=>by
   rw[C,<-f1 d];exact qj d ng c low v g l1 (hT.grown p) (Fq.Tab.grown hQ p) hd1 hd2 f2
  rw[<-u]at f g1 ta
  rw[<-x]at j g2 tb
  rw[<-u,<-x,<-C]
  have q:=ta w hQ
  have z:=fun g (k:Kp w g)=>tb g (Fq.Tab.grown hQ k)
  have HT:Hid (m<=9110782046170513408->¬m'<=9110782046170513408):=fun h h'=>ct ⟨h,h'⟩
  clear u x C hs ht f1 f2 a1 a2 a3 a4 B A b3 b4 ta tb hT hQ hd1 hd2 ct hm hm'
  go_enter func140,ntmps140
  go_wp2
  refine wp_scope_jumps 0 (fun a' w'=>w'=w∧∃u3 u4 u5 u6 u7 u8 u9 R aj bf a6 bm a8 bo a5 M F L aa bp H an E ba a0 P V aw bt au bl bb W S U ar bq a9 br G I T:Value,a'=⟨#[.int .i64 d,.float .f64 X,.float .f64 Y,u3,u4,u5,u6,u7,u8,u9,R,aj,bf,a6,bm,a8,bo,a5,M,F,L,aa,bp,H,an,E,ba,a0,P,V,aw,bt,au,bl,bb,W,S,U,ar,bq,a9,br,G,I,T],[]⟩) (fun _ _=>0) rfl ?_ ?_
  ·clear g1 g2 q z hp hr
   by_cases l:m<=9110782046170513408
   ·rw[af l]at f
    rw[ae (HT.out l)]at j
    clear l HT
    go_wp2_with fail
    refine SM f ?_;clear f
    go_wp2_with fail
    refine SM j ?_;clear j
    go_wp2_with fail
    go_step3
    exact⟨rfl,rfl,_,_,_,_,_,_,_,_,_,_,_,_,_,_,_,_,_,_,_,_,_,_,_,_,_,_,_,_,_,_,_,_,_,_,_,_,_,_,_,_,_,_,rfl⟩
   ·rw[ae l]at f
    clear l HT j
    go_wp2_with fail
    refine SM f ?_;clear f
    go_wp2_with fail
    go_step3
    exact⟨rfl,rfl,_,_,_,_,_,_,_,_,_,_,_,_,_,_,_,_,_,_,_,_,_,_,_,_,_,_,_,_,_,_,_,_,_,_,_,_,_,_,_,_,_,_,rfl⟩
  ·rintro a' w' ⟨rfl,u3,u4,u5,u6,u7,u8,u9,R,aj,bf,a6,bm,a8,bo,a5,M,F,L,aa,bp,H,an,E,ba,a0,P,V,aw,bt,au,bl,bb,W,S,U,ar,bq,a9,br,G,I,T,rfl⟩
   clear f j HT
   go_wp2_with fail
   refine g1.mono ?_;rintro e w9 ⟨rfl,i⟩;obtain rfl:=i.symm;clear i g1
   go_wp2_with fail
   refine g2.mono ?_;rintro e w9 ⟨rfl,i⟩;obtain rfl:=i.symm;clear i g2
   go_wp2_with fail
   refine q.mono ?_;rintro e g ⟨va,rfl,J,p⟩
   have bc:=z g p
   clear q z
   go_wp2_with fail
   refine bc.mono ?_;rintro e w2 ⟨vb,rfl,Q,k2⟩
   have ad:=hp va vb w2 (J.kp k2) Q
   have D:=p.trans k2
   clear bc hp J Q p k2
   go_wp2_with fail
   refine ad.mono ?_;rintro e w3 ⟨v,rfl,lv,k3⟩
   have y:=D.trans k3
   have bn:=hr v w3 y lv
   clear ad hr D k3 lv
   go_wp2_with fail
   refine bn.mono ?_;rintro e w4 ⟨rfl,k4⟩
   have bA:=y.trans k4
   clear bn y k4
   go_wp2
   try simp only[Exit.jump]
   exact BR ⟨rfl,bA⟩
theorem nB (n:Bool)(m:Nat)(h1:9218868437227405312<m)(h2:m<9223372036854775808):Ieee.double.read (Fq.wD n m)=.nan n (m-9218868437227405312):=by
 rw[Fq.ql Ieee.double _ Fq.yE (by rw[Fq.Em n m h2,Fq.yc];exact h1),Fq.Em n m h2,Fq.Hm n m h2,Fq.yc]
theorem gV (n:Bool):Ieee.double.read (Fq.wD n 9218868437227405312)=.infinity n:=by
 rw[Fq.jY Ieee.double _ Fq.yE (by rw[Fq.Em n 9218868437227405312 (by decide),Fq.yc]),Fq.Hm n 9218868437227405312 (by decide)]
theorem kT (n:Bool)(m:Nat)(h:m<9218868437227405312):∃a e,Ieee.double.read (Fq.wD n m)=.number n a e:=by
 rw[Fq.jZ _ _ (by rw[Fq.Em n m (by omega),Fq.yc];exact h),Fq.Hm n m (by omega)]
 exact⟨_,_,rfl⟩
def m8 (n:Bool)(m:Nat)(n':Bool)(m':Nat):Prop:=9218868437227405312<m∨9218868437227405312<m'∨(m=9218868437227405312∧m'=9218868437227405312∧n≠n')
theorem pA (n n':Bool)(m m':Nat)(hm:m<9223372036854775808)(hm':m'<9223372036854775808)(h:m8 n m n' m'):FloatKind.f64.format.add (Fq.wD n m) (Fq.wD n' m')=none:=by
 show Ieee.double.add _ _=none
 unfold Ieee.Format.add
 by_cases b:9218868437227405312<m
 ·rw[nB n m b hm];rfl
 ·by_cases c2:9218868437227405312<m'
  ·rw[nB n' m' c2 hm']
   by_cases c3:m=9218868437227405312
   ·rw[c3,gV];rfl
   ·obtain⟨a,e,f⟩:=kT n m (by omega)
    rw[f];rfl
  ·obtain⟨g,d,c⟩:=(h.resolve_left b).resolve_left c2
   rw[g,d,gV,gV]
   unfold Ieee.Datum.sum
   simp only
   rw[if_neg c];rfl
theorem ui (n n':Bool)(m m':Nat)(h:¬m8 n m n' m')(hi:¬(m<9218868437227405312∧m'<9218868437227405312)):FloatKind.f64.format.add (Fq.wD n m) (Fq.wD n' m')=some (Fq.wD (if m=9218868437227405312 then n else n') 9218868437227405312):=by
 unfold m8 at h
 have d:∀s,Ieee.double.write (.infinity s)=Fq.wD s 9218868437227405312:=fun s=>by unfold Ieee.Format.write Ieee.Format.word Fq.wD;rw[Fq.Be,Fq.yc]
 show Ieee.double.add _ _=_
 unfold Ieee.Format.add
 by_cases b:m=9218868437227405312
 ·rw[if_pos b,b,gV]
  by_cases c2:m'=9218868437227405312
  ·have e:n=n':=by
    rcases Decidable.em (n=n')with e|e
    ·exact e
    ·exact absurd (Or.inr (Or.inr ⟨b,c2,e⟩)) h
   rw[c2,gV]
   unfold Ieee.Datum.sum
   simp only
   rw[if_pos e]
   exact congrArg some (d n)
  ·obtain⟨a,e,c⟩:=kT n' m' (by omega)
   rw[c]
   exact congrArg some (d n)
 ·have c2:m'=9218868437227405312:=by omega
  rw[if_neg b,c2,gV]
  obtain⟨a,e,c⟩:=kT n m (by omega)
  rw[c]
  exact congrArg some (d n')
theorem qD (t:Nat):9218868437227405312<(t%2*2^63+0x7ff0000000000000+1+t/2%(2^52-1))%9223372036854775808∧t%2*2^63+0x7ff0000000000000+1+t/2%(2^52-1)<18446744073709551616:=by
 rw[show(2:Nat)^63=9223372036854775808 from by decide,show(2:Nat)^52-1=4503599627370495 from by decide]
 have a:t%2=0∨t%2=1:=by omega
 have c:t/2%4503599627370495<4503599627370495:=bZ _ (by decide)
 generalize t/2%4503599627370495=b at *
 rcases a with h|h<;>rw[h]<;>omega
theorem oG (X Y:Nat)(h:FloatKind.f64.format.add X Y=none)(w:World):∃r,9218868437227405312<r%9223372036854775808∧r<18446744073709551616∧(binOp .add 27 (.float .f64 X) (.float .f64 Y)).run prog w=.ok (.float .f64 r) w.drew:=by
 refine⟨Question.cut (.nanBits .f64 X Y) _, ?_, ?_,by simp[binOp,Op.floatArith,h];rfl⟩
 ·simp only[Question.cut];exact(qD _).1
 ·simp only[Question.cut];exact(qD _).2
set_option maxHeartbeats 20000000 in
theorem tH:(∀(d:Int)(n n':Bool)(m m':Nat)(hm:m<9223372036854775808)(hm':m'<9223372036854775808)(hi:¬(m<9218868437227405312∧m'<9218868437227405312))(hb:¬m8 n m n' m')(w:World),Calls prog 140 #[.int .i64 d,.float .f64 (Fq.wD n m),.float .f64 (Fq.wD n' m')] w (fun e w'=>e=.returned (.float .f64 (Fq.wD (if m=9218868437227405312 then n else n') 9218868437227405312))∧Kp w w'))∧(∀(d:Int)(n n':Bool)(m m':Nat)(hm:m<9223372036854775808)(hm':m'<9223372036854775808)(hi:¬(m<9218868437227405312∧m'<9218868437227405312))(hb:m8 n m n' m')(w:World),Calls prog 140 #[.int .i64 d,.float .f64 (Fq.wD n m),.float .f64 (Fq.wD n' m')] w fun e w'=>∃R,e=.returned (.float .f64 R)∧(9218868437227405312<R%9223372036854775808∧R<18446744073709551616)∧Kp w w'):=by
 refine⟨?_,?_⟩
 case' refine_1=>intro d n n' m m' hm hm' hi hb w;have i:=trivial
 case' refine_2=>intro d n n' m m' hm hm' hi hb w;have g:=trivial
 all_goals (
  have j:=mw n m hm w
  have t:=mw n' m' hm' w
  have k:=fO n m hm w
  have s:=fO n' m' hm' w
  obtain⟨X,p⟩:=aA (Fq.wD n m)
  obtain⟨Y,q⟩:=aA (Fq.wD n' m')
  first
  |(
    have b:=i;clear b
    obtain⟨l,o⟩:=aA (Fq.wD (if m=9218868437227405312 then n else n') 9218868437227405312)
    have c:=ui n n' m m' hb hi
    rw[<-p,<-q,<-o]at c
    have A:∀w:World,(binOp .add 27 (.float .f64 X) (.float .f64 Y)).run prog w=.ok (.float .f64 l) w:=fun w=>run_float_arith w .add 27 .f64 X Y l c
    rw[<-o])
  |(
    have b:=g;clear b
    obtain⟨l,p1,p2,A⟩:=oG X Y (by rw[p,q];exact pA n n' m m' hm hm' hb) w
    have HR:Hid (9218868437227405312<l%9223372036854775808∧l<18446744073709551616):=⟨p1,p2⟩
    clear p1 p2)
  rw[<-p]at j k
  rw[<-q]at t s
  rw[<-p,<-q]
  have r:Hid ((m<=9110782046170513408->¬m'<=9110782046170513408)∧(m<9218868437227405312->¬m'<9218868437227405312)):=⟨fun h h'=>hi ⟨by omega,by omega⟩,fun h h'=>hi ⟨h,h'⟩⟩
  first
  |(have b:=i;clear b;clear p q hi hm hm' hb c o)
  |(have b:=g;clear b;clear p q hi hm hm' hb)
  go_enter func140,ntmps140
  go_wp2
  refine wp_scope_jumps 0 (fun a' w'=>w'=w∧∃u3 u4 u5 u6 u7 u8 u9 F M ab U aj V ar T D x C L an z N u Z S E J Q a0 P ad aa K G I O au W aw y B H:Value,a'=⟨#[.int .i64 d,.float .f64 X,.float .f64 Y,u3,u4,u5,u6,u7,u8,u9,F,M,ab,U,aj,V,ar,T,D,x,C,L,an,z,N,u,Z,S,E,J,Q,a0,P,ad,aa,K,G,I,O,au,W,aw,y,B,H],[]⟩) (fun _ _=>0) rfl ?_ ?_
  ·clear k s
   by_cases f:m<=9110782046170513408
   ·rw[af f]at j
    rw[ae (r.out.1 f)]at t
    clear f r
    go_wp2_with fail
    refine SM j ?_;clear j
    go_wp2_with fail
    refine SM t ?_;clear t
    go_wp2_with fail
    go_step3
    exact⟨rfl,rfl,_,_,_,_,_,_,_,_,_,_,_,_,_,_,_,_,_,_,_,_,_,_,_,_,_,_,_,_,_,_,_,_,_,_,_,_,_,_,_,_,_,_,rfl⟩
   ·rw[ae f]at j
    clear f r t
    go_wp2_with fail
    refine SM j ?_;clear j
    go_wp2_with fail
    go_step3
    exact⟨rfl,rfl,_,_,_,_,_,_,_,_,_,_,_,_,_,_,_,_,_,_,_,_,_,_,_,_,_,_,_,_,_,_,_,_,_,_,_,_,_,_,_,_,_,_,rfl⟩
  ·rintro a' w' ⟨rfl,u3,u4,u5,u6,u7,u8,u9,F,M,ab,U,aj,V,ar,T,D,x,C,L,an,z,N,u,Z,S,E,J,Q,a0,P,ad,aa,K,G,I,O,au,W,aw,y,B,H,rfl⟩
   clear j t
   by_cases f:m<9218868437227405312
   ·rw[af f]at k
    rw[ae (r.out.2 f)]at s
    clear f r
    go_wp2_with fail
    refine k.mono ?_;rintro e w9 ⟨rfl,a⟩;obtain rfl:=a.symm;clear a k
    go_wp2_with fail
    refine s.mono ?_;rintro e w9 ⟨rfl,a⟩;obtain rfl:=a.symm;clear a s
    go_wp2
    try simp only[Exit.jump]
    first
    |(have b:=i;clear b;exact BR ⟨rfl,Kp.refl _⟩)
    |(have b:=g;clear b;exact BR ⟨l,rfl,HR.out,(Kp.refl _).drew⟩)
   ·rw[ae f]at k
    clear f r s
    go_wp2_with fail
    refine k.mono ?_;rintro e w9 ⟨rfl,a⟩;obtain rfl:=a.symm;clear a k
    go_wp2
    try simp only[Exit.jump]
    first
    |(have b:=i;clear b;exact BR ⟨rfl,Kp.refl _⟩)
    |(have b:=g;clear b;exact BR ⟨l,rfl,HR.out,(Kp.refl _).drew⟩))
theorem tV (n:Bool)(m:Nat)(hm:m<9218868437227405312)(e:Nat)(he:e<=1960)(hU:((2^e:Nat):Int) ∣ Iv n m)(b1:4503599627370496*2^e<=(Iv n m).natAbs)(b2:(Iv n m).natAbs<9007199254740992*2^e) :
  ∃(h l:Bool)(hr lr:Nat),(∀w:World,Calls prog 222 #[.float .f64 (Fq.wD n m)] w (RE (.tuple #[.float .f64 (Fq.wD h hr),.float .f64 (Fq.wD l lr)]) w))∧hr<9218868437227405312∧lr<9218868437227405312∧∃a b:Int,Iv h hr=134217728*(((2^e:Nat):Int)*a)∧Iv l lr=((2^e:Nat):Int)*b∧Iv n m=Iv h hr+Iv l lr∧a.natAbs<=67108864∧b.natAbs<=67108864:=by
 obtain⟨c,g,h,l,x,y,hr,lr,j,k,p,r,u,s,t⟩:=sm n m hm e he hU b1 b2
 refine⟨h,l,hr,lr,fun w=>?_,u,s,t⟩
 obtain⟨X,d⟩:=aA (Fq.wD n m)
 obtain⟨C,i⟩:=aA (Fq.wD c x)
 obtain⟨G,o⟩:=aA (Fq.wD g y)
 obtain⟨H,f⟩:=aA (Fq.wD h hr)
 obtain⟨L,q⟩:=aA (Fq.wD l lr)
 rw[show Fq.wD false 4728779608772575232=4728779608772575232 from rfl,<-d,<-i]at j
 rw[<-i,<-d,<-o]at k
 rw[<-i,<-o,<-f]at p
 rw[<-d,<-f,<-q]at r
 rw[<-d,<-f,<-q]
 have z:∀w:World,(binOp .mul 27 (.float .f64 X) (.float .f64 4728779608772575232)).run prog w=.ok (.float .f64 C) w:=fun w=>run_float_arith w .mul 27 .f64 X 4728779608772575232 C j
 have B:∀w:World,(binOp .sub 27 (.float .f64 C) (.float .f64 X)).run prog w=.ok (.float .f64 G) w:=fun w=>run_float_arith w .sub 27 .f64 C X G k
 have D:∀w:World,(binOp .sub 27 (.float .f64 C) (.float .f64 G)).run prog w=.ok (.float .f64 H) w:=fun w=>run_float_arith w .sub 27 .f64 C G H p
 have A:∀w:World,(binOp .sub 27 (.float .f64 X) (.float .f64 H)).run prog w=.ok (.float .f64 L) w:=fun w=>run_float_arith w .sub 27 .f64 X H L r
 clear d i o f q j k p r u s t hm hU b1 b2
 go_enter func222,ntmps222
 go_wp2
 exact BR ⟨rfl,rfl⟩
theorem lH (n n':Bool)(m m' e e':Nat)(hm:m<9218868437227405312)(hm':m'<9218868437227405312)(he:e<=1960)(he':e'<=1960)(s1:1074<=e+e')(s2:e+e'<=2944)(hU:((2^e:Nat):Int) ∣ Iv n m)(b1:4503599627370496*2^e<=(Iv n m).natAbs)(b2:(Iv n m).natAbs<9007199254740992*2^e)(hU':((2^e':Nat):Int) ∣ Iv n' m')(b3:4503599627370496*2^e'<=(Iv n' m').natAbs)(b4:(Iv n' m').natAbs<9007199254740992*2^e')(L:Nat)(hL:L=1074) :
  ∃(V:Int)(s o:Bool)(r ro K:Nat),V*((2^L:Nat):Int)=Iv n m*Iv n' m'∧(∀w:World,Calls prog 192 #[.float .f64 (Fq.wD n m),.float .f64 (Fq.wD n' m')] w (RE (.tuple #[.float .f64 (Fq.wD s r),.float .f64 (Fq.wD o ro)]) w))∧r<9218868437227405312∧ro<9218868437227405312∧r=fk 53 (rU 0 53 V.natAbs 1)∧s=(if V=0 then n ^^ n' else decide (V<0))∧Iv o ro=V-Iv s r∧53<=K∧K<=2096∧V.natAbs<2^K:=by
 obtain⟨h,l,hr,lr,k1,f1,f2,a,b,ga,gb,gx,la,lb⟩:=tV n m hm e he hU b1 b2
 obtain⟨h',l',y,C,k2,f3,f4,a',b',E,A,B,F,x⟩:=tV n' m' hm' e' he' hU' b3 b4
 obtain⟨V,s,p1,q1,p2,q2,p3,q3,p4,o,r,aa,ab,ba,a2,ar,ad,au,ro,K,zV,w0,w1,w2,w3,w4,w5,w6,w7,w8,r0,r8,e0,z,D,K1,K2,kV⟩:=rN n n' h l h' l' m m' hr lr y C e e' hm hm' f1 f2 f3 f4 s1 s2 b1 b2 b3 b4 a b a' b' ga gb gx la lb E A B F x L hL
 refine⟨V,s,o,r,ro,K,zV,fun w=>?_,r0,r8,e0,z,D,K1,K2,kV⟩
 clear zV r0 r8 e0 z D K1 K2 kV ga gb gx la lb E A B F x f1 f2 f3 f4 hU b1 b2 hU' b3 b4 s1 s2 hm hm' he he' hL
 obtain⟨X,J⟩:=aA (Fq.wD n m)
 obtain⟨Y,N⟩:=aA (Fq.wD n' m')
 obtain⟨S,Q⟩:=aA (Fq.wD s r)
 obtain⟨Z,f⟩:=aA (Fq.wD h hr)
 obtain⟨H,d⟩:=aA (Fq.wD l lr)
 obtain⟨H2,g⟩:=aA (Fq.wD h' y)
 obtain⟨M,c⟩:=aA (Fq.wD l' C)
 obtain⟨W,q⟩:=aA (Fq.wD p1 aa)
 obtain⟨P,k⟩:=aA (Fq.wD p2 ba)
 obtain⟨R,p⟩:=aA (Fq.wD p3 ar)
 obtain⟨G,u⟩:=aA (Fq.wD p4 au)
 obtain⟨T,t⟩:=aA (Fq.wD q1 ab)
 obtain⟨I,i⟩:=aA (Fq.wD q2 a2)
 obtain⟨U,j⟩:=aA (Fq.wD q3 ad)
 obtain⟨O,hO⟩:=aA (Fq.wD o ro)
 rw[<-J,<-N,<-Q]at w0
 rw[<-f,<-g,<-q]at w1
 rw[<-Q,<-q,<-t]at w2
 rw[<-d,<-g,<-k]at w3
 rw[<-t,<-k,<-i]at w4
 rw[<-f,<-c,<-p]at w5
 rw[<-i,<-p,<-j]at w6
 rw[<-d,<-c,<-u]at w7
 rw[<-u,<-j,<-hO]at w8
 rw[<-J,<-f,<-d]at k1
 rw[<-N,<-g,<-c]at k2
 rw[<-J,<-N,<-Q,<-hO]
 have g0:∀w:World,(binOp .mul 27 (.float .f64 X) (.float .f64 Y)).run prog w=.ok (.float .f64 S) w:=fun w=>run_float_arith w .mul 27 .f64 X Y S w0
 have g1:∀w:World,(binOp .mul 27 (.float .f64 Z) (.float .f64 H2)).run prog w=.ok (.float .f64 W) w:=fun w=>run_float_arith w .mul 27 .f64 Z H2 W w1
 have g2:∀w:World,(binOp .sub 27 (.float .f64 S) (.float .f64 W)).run prog w=.ok (.float .f64 T) w:=fun w=>run_float_arith w .sub 27 .f64 S W T w2
 have g3:∀w:World,(binOp .mul 27 (.float .f64 H) (.float .f64 H2)).run prog w=.ok (.float .f64 P) w:=fun w=>run_float_arith w .mul 27 .f64 H H2 P w3
 have g4:∀w:World,(binOp .sub 27 (.float .f64 T) (.float .f64 P)).run prog w=.ok (.float .f64 I) w:=fun w=>run_float_arith w .sub 27 .f64 T P I w4
 have g5:∀w:World,(binOp .mul 27 (.float .f64 Z) (.float .f64 M)).run prog w=.ok (.float .f64 R) w:=fun w=>run_float_arith w .mul 27 .f64 Z M R w5
 have g6:∀w:World,(binOp .sub 27 (.float .f64 I) (.float .f64 R)).run prog w=.ok (.float .f64 U) w:=fun w=>run_float_arith w .sub 27 .f64 I R U w6
 have g7:∀w:World,(binOp .mul 27 (.float .f64 H) (.float .f64 M)).run prog w=.ok (.float .f64 G) w:=fun w=>run_float_arith w .mul 27 .f64 H M G w7
 have g8:∀w:World,(binOp .sub 27 (.float .f64 G) (.float .f64 U)).run prog w=.ok (.float .f64 O) w:=fun w=>run_float_arith w .sub 27 .f64 G U O w8
 clear J N Q f d g c q k p u t i j hO w0 w1 w2 w3 w4 w5 w6 w7 w8
 go_enter func192,ntmps192
 go_wp2_with fail
 refine SM (k1 _) ?_;clear k1
 go_wp2_with fail
 refine SM (k2 _) ?_;clear k2
 go_wp2
 exact BR ⟨rfl,rfl⟩
end Go.Proofs.YtmpjcknaelgnoaaGreatDoor
