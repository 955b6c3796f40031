import Derived.Test.YtmpjcknaelgnoaaGreatDoorKBO
import Derived.Test.YtmpjcknaelgnoaaGreatDoorKO6
set_option maxHeartbeats 400000
set_option maxRecDepth 20000
namespace Go.Proofs.YtmpjcknaelgnoaaGreatDoor
open Go.RowKit Tryz
theorem xu (h:Nat)(p q:Option Addr)(c d:Nat)(rs ys:List Int)(w:World)(hx:Arr w p rs)(hy:Arr w q ys)(hwx:Wd rs)(hwy:Wd ys)(lx:rs.length<=1048576)(ly:ys.length<=1048576)(hc:rs.length<=c)(hd:ys.length<=d)(hlt:val rs<val ys)(hb:aS (val ys)<=16384)(hh:h<4611686018427387904)(R H:Nat)(hR:R=2*val rs%val ys)(hH:H=2*h+2*val rs/val ys) :
  Calls prog 255 #[.int .u64 (h:Int),.slice p rs.length c,.slice q ys.length d] w fun e w'=>∃v,e=.returned (.tuple #[.int .u64 (H:Int),v])∧Ls w' v (az R)∧Kp w w':=by
 obtain⟨V,U⟩:=xt (val rs) (val ys) hlt
 have n:=tJ q p d c ys rs w hy hx hwy hwx (by omega) (by omega) hd hc
 unfold jU at n
 rw[if_neg (by omega),if_neg (by omega)]at n
 obtain⟨s,J⟩:=aA (2*h)
 have f1:IntKind.u64.wrap ((h:Int)*2)=(s:Int):=by rw[IntKind.wrap_u64];omega
 have W:IntKind.u64.wrap (2*(h:Int))=(s:Int):=by rw[IntKind.wrap_u64];omega
 have Q:aS (val rs)<=16384:=aT (fA (bO hlt)) hb
 have D:aS (val ys-val rs)<=16384:=aT (fA (Nat.sub_le _ _)) hb
 by_cases z:val rs<val ys-val rs
 ·obtain⟨T,I⟩:=V z
  have r:H=s:=by omega
  have t:∀a:World,Kp w a->Calls prog 211 #[.slice p rs.length c,.slice p rs.length c] a fun e w'=>∃v,e=.returned (.tuple #[v,.int .i64 0])∧Own w' a.heap.size v (az R)∧Kp a w':=fun a j=>by
   have g:=Bq p p c c rs rs a (hx.grown j) (hx.grown j) hwx hwx (by omega) (by omega) hc hc
   unfold na at g
   rw[if_neg (by omega),if_neg (by have:=aT (fA (show val rs+val rs<=val ys from by omega)) hb;omega)]at g
   rw[hR,I];exact g
  have b:∀(i:Option Addr)(f:Nat)(a:World),Kp w a->Arr a i (az (val ys-val rs))->(az (val ys-val rs)).length<=f->Calls prog 212 #[.slice p rs.length c,.slice i (az (val ys-val rs)).length f] a (RT (.int .i64 (-1)) a):=fun i f a j a1 l1=>by
   have g:=nK p i c f rs (az (val ys-val rs)) a (hx.grown j) a1 hwx (bC _) (by omega) (by change aS _<=_;omega) hc l1
   rw[aV,gJ z]at g;exact g
  obtain⟨N,P⟩:=aA rs.length
  obtain⟨M,F⟩:=aA ys.length
  obtain⟨L,E⟩:=aA (az (val ys-val rs))
  rw[<-P]at n t b|-
  rw[<-F]at n|-
  rw[<-E]at n b
  rw[r]
  clear hx hy hwx hwy lx ly hc hd hlt hb hh hR hH V U Q D z T I r J P F E
  go_enter func255,ntmps255
  go_wp2_with fail
  refine n.mono ?_;rintro e a ⟨v,rfl,m,j⟩
  obtain⟨i,f,rfl,o,l⟩:=m.arr
  have K:=b i f a j o l
  clear n b m o l
  go_wp2_with fail
  refine K.mono ?_;rintro e S ⟨rfl,A⟩
  have k:=j.trans A
  have G:=t S k
  clear t K j A
  go_wp2_with fail
  refine G.mono ?_;rintro e w3 ⟨Z,rfl,m,C⟩
  have x:=m.ls
  obtain⟨Y,c2,rfl,o,u⟩:=m.arr
  have y:=k.trans C
  clear G m o u k C
  go_wp2
  exact BR ⟨_,rfl,x,y⟩
 ·obtain⟨T,I⟩:=U z
  have r:H=s+1:=by omega
  have f2:bits BinOp.or IntKind.u64 (s:Int) 1=(H:Int):=by
   have g:=u64_or_nat s 1 (by omega) (by decide)
   have X:=fZ 1 h 1 (by decide)
   rw[eH,show s=h*2^1 from by omega,X,show 1+h*2^1=H from by omega,show h*2^1=s from by omega]at g
   exact g
  have t:∀(i:Option Addr)(f:Nat)(a:World),Kp w a->Arr a i (az (val ys-val rs))->(az (val ys-val rs)).length<=f->Calls prog 213 #[.slice p rs.length c,.slice i (az (val ys-val rs)).length f] a fun e w'=>∃v,e=.returned (.tuple #[v,.int .i64 0])∧Own w' a.heap.size v (az R)∧Kp a w':=fun i f a j a1 l1=>by
   have g:=tJ p i c f rs (az (val ys-val rs)) a (hx.grown j) a1 hwx (bC _) (by omega) (by change aS _<_;omega) hc l1
   rw[aV]at g
   unfold jU at g
   rw[if_neg z,if_neg (by omega)]at g
   rw[hR,I];exact g
  have b:∀(i:Option Addr)(f:Nat)(a:World),Kp w a->Arr a i (az (val ys-val rs))->(az (val ys-val rs)).length<=f->Calls prog 212 #[.slice p rs.length c,.slice i (az (val ys-val rs)).length f] a (RT (.int .i64 (dW (val rs) (val ys-val rs))) a):=fun i f a j a1 l1=>by
   have g:=nK p i c f rs (az (val ys-val rs)) a (hx.grown j) a1 hwx (bC _) (by omega) (by change aS _<=_;omega) hc l1
   rw[aV]at g;exact g
  have O:¬dW (val rs) (val ys-val rs)<0:=by
   unfold dW;rw[if_neg z];split<;>omega
  obtain⟨N,P⟩:=aA rs.length
  obtain⟨M,F⟩:=aA ys.length
  obtain⟨cv,B⟩:=aA (dW (val rs) (val ys-val rs))
  rw[<-B]at b O
  obtain⟨L,E⟩:=aA (az (val ys-val rs))
  rw[<-P]at n t b|-
  rw[<-F]at n|-
  rw[<-E]at n b t
  clear hx hy hwx hwy lx ly hc hd hlt hb hh hR hH V U Q D z T I r J P F E B
  go_enter func255,ntmps255
  go_wp2_with fail
  refine n.mono ?_;rintro e a ⟨v,rfl,m,j⟩
  obtain⟨i,f,rfl,o,l⟩:=m.arr
  have K:=b i f a j o l
  clear n b m
  go_wp2_with fail
  refine K.mono ?_;rintro e S ⟨rfl,A⟩
  have k:=j.trans A
  have G:=t i f S k (o.grown A) l
  clear t K j A o l
  go_wp2_with fail
  refine G.mono ?_;rintro e w3 ⟨Z,rfl,m,C⟩
  have x:=m.ls
  obtain⟨Y,c2,rfl,o,u⟩:=m.arr
  have y:=k.trans C
  clear G m o u k C O
  go_wp2
  exact BR ⟨_,rfl,x,y⟩
theorem EX (p q:Option Addr)(c d:Nat)(xs ys:List Int)(w:World)(hx:Arr w p xs)(hy:Arr w q ys)(hwx:Wd xs)(hwy:Wd ys)(lx:xs.length<=1048576)(ly:ys.length<=1048576)(hc:xs.length<=c)(hd:ys.length<=d)(a b:Nat)(hva:a=val xs)(hvb:b=val ys)(ha:a≠0)(hb:b≠0)(la lb:Nat)(hla:la=aq a)(hlb:lb=aq b)(la2:la<=524288)(lb2:lb<=524288)(v:Nat)(hv:lb+56+v=la)(hv0:0<v)(h H:Nat)(hh:h=a/(b*2^v))(hH:H=2*h+(if a%(b*2^v)=0 then 0 else 1)) :
  Calls prog 231 #[.slice p xs.length c,.slice q ys.length d] w (RT (.tuple #[.int .u64 (H:Int),.int .i64 ((v:Int)-1)]) w):=by
 have K:=fun f (k:f=w)=>ji q d ys f (by rw[k];exact hy) hwy (by omega) hd
 have E:=fun f (k:f=w)=>ji p c xs f (by rw[k];exact hx) hwx (by omega) hc
 rw[<-hvb,<-hlb]at K
 rw[<-hva,<-hla]at E
 have s:=qw q d ys w (v:Int) hy hwy (by omega) hd
 have ab:aS b<=16384:=dZ b 16384 (by rw[hlb]at lb2;omega)
 have B:aS a<=16384:=dZ a 16384 (by rw[hla]at la2;omega)
 rw[<-hvb]at s
 unfold iI at s
 rw[if_neg (by omega),if_neg (by omega),if_neg hb,av,if_neg (by rw[<-hlb];omega)]at s
 obtain⟨D,u⟩:=aA (b*2^v)
 have z:0<D:=by rw[u];exact aQ (by omega) (aP (by omega))
 have V:aq D=lb+v:=by rw[u,hlb];exact du b v hb
 have C:aS D<=16384:=dZ D 16384 (by omega)
 have O:=jg a b 0 v ha hb (by rw[<-hla,<-hlb];omega)
 rw[aB,aG,<-u]at O
 rw[<-u]at s hh hH
 rw[<-hh]at O
 have J:∀(l:Option Addr)(j:Nat)(f:World),Kp w f->Arr f l (az D)->(az D).length<=j->Calls prog 253 #[.slice p xs.length c,.slice l (az D).length j] f fun e w'=>(∃l j I c2,e=.returned (.tuple #[.slice l (az h).length j,.slice I (az (a%D)).length c2,.int .i64 0])∧Arr w' l (az h)∧(az h).length<=j∧Arr w' I (az (a%D))∧(az (a%D)).length<=c2)∧Kp f w':=fun l j f y a1 l1=>by
  have g:=Bl p l c j xs (az D) f (hx.grown y) a1 hwx (bC _) lx (by change aS _<=_;omega) hc l1
  rw[aV,<-hva]at g
  unfold nk at g
  rw[if_neg (by omega),if_neg (by omega),<-hh]at g
  refine g.mono ?_
  rintro e P ⟨⟨Z,c3,p4,c4,rfl,o1,o2,-⟩,Q⟩
  obtain⟨p5,c5,e5,a5,l5⟩:=o1.arr
  obtain⟨p6,c6,e6,a6,l6⟩:=o2.arr
  cases e5
  cases e6
  exact⟨⟨_,_,_,_,rfl,a5,l5,a6,l6⟩,Q⟩
 have h5:∀(l:Option Addr)(j:Nat)(f:World),Arr f l (az h)->(az h).length<=j->Calls prog 254 #[.slice l (az h).length j] f (RE (.tuple #[.int .u64 (h:Int),.bool true]) f):=fun l j f a1 l1=>by
  have br:aS h<=2:=dZ h 2 (by
   have e:aq h<=57:=by rw[ay,show(2:Nat)^57=144115188075855872 from by decide];exact O.2
   omega)
  have g:=rW l j (az h) f a1 (bC h) (by change aS _<=_;omega) l1
  rw[aV]at g
  unfold gT at g
  rw[if_neg (by omega)]at g
  exact g
 obtain⟨R,hR⟩:=aA (a%D)
 rw[<-hR]at J hH
 have W:∀(l:Option Addr)(j:Nat)(f:World),Arr f l (az R)->(az R).length<=j->Calls prog 229 #[.slice l (az R).length j] f (RE (.int .i64 (aq R:Nat)) f):=fun l j f a1 l1=>by
  have g:=ji l j (az R) f a1 (bC R) (by
   have:aS R<=aS D:=fA (by rw[hR];exact bO (bZ _ z))
   change aS _<=_;omega) l1
  rw[aV]at g;exact g
 obtain⟨G,m⟩:∃G:Bool,G=decide (0<aq R):=⟨_,rfl⟩
 have F:H=2*h+(if G=true then 1 else 0):=by
  rw[hH,m]
  by_cases X:R=0
  ·simp[X,cP]
  ·have:=(cK R X).2.2
   simp[X];omega
 have S:=fun w=>oU h G w (by omega)
 rw[<-F]at S
 obtain⟨bR,x⟩:=aA (aq R)
 rw[<-x]at W m
 obtain⟨N,hN⟩:=aA xs.length
 obtain⟨M,hM⟩:=aA ys.length
 rw[<-hN]at E J|-
 rw[<-hM]at K s|-
 have g2:∀w:World,(Builtin.min_ #[3,3] 3 #[.int .i64 (-(v:Int)),.int .i64 (524288-(la:Int))]).run prog w=.ok (.int .i64 (-(v:Int))) w:=fun w=>by
  rw[run_min_int2]
  congr 2
  split<;>omega
 have bc:56+(lb:Int)-(la:Int) = -(v:Int):=by omega
 have bf:v<=524288:=by omega
 have HL:Hid (lb<=524288∧la<=524288):=⟨lb2,la2⟩
 have t1:-(v:Int)<0:=by omega
 have g3:wrap64 ((v:Int)-1)=(v:Int)-1:=eQ _ (by omega) (by omega)
 clear hx hy hwx hwy lx ly hc hd hva hvb ha hb hla hlb hv hv0 hh hH u z V C ab B O hR F x hN hM
 go_enter func231,ntmps231
 go_wp2_with fail
 refine SM (K _ rfl) ?_;clear K
 go_wp2_with fail
 refine SM (E _ rfl) ?_
 go_wp2_with fail
 refine SM (E _ rfl) ?_;clear E
 go_wp2_with fail
 refine s.mono ?_;rintro e f ⟨v1,rfl,hO,y⟩
 obtain⟨l,j,rfl,hA,t⟩:=hO.arr
 have U:=J l j f y hA t
 obtain⟨L,hL⟩:=aA ((az D).length)
 rw[<-hL]at U|-
 clear s J hO hA t hL
 go_wp2_with fail
 refine U.mono ?_;rintro e P ⟨⟨I,c2,Z,c3,rfl,a2,l2,a3,l3⟩,Q⟩
 have T:=y.trans Q
 have Y:=h5 I c2 P a2 l2
 have o:=W Z c3 P a3 l3
 obtain⟨L2,n⟩:=aA ((az h).length)
 obtain⟨L3,r⟩:=aA ((az R).length)
 rw[<-n]at Y
 rw[<-r]at o
 rw[<-n,<-r]
 clear U h5 W a2 l2 a3 l3 y Q n r
 go_wp2_with fail
 refine SM Y ?_;clear Y
 go_wp2
 go_loopw [4,9,52] (fun hd rr i wr=>hd=.int .u64 (h:Int)∧rr=.slice Z L3 c3∧i=.int .i64 0∧wr=P) (fun _ _ _ _=>0)
 case atStart=>exact⟨rfl,rfl,rfl,rfl⟩
 case round =>
  obtain⟨rfl,rfl,rfl,rfl⟩:=hrel
  go_wp2_with fail
  refine SM o ?_;clear o
  go_wp2_with fail
  rw[<-m]
  have A:=S wr
  clear S m
  refine SM A ?_;clear A
  go_wp2
  exact BR ⟨rfl,T⟩
theorem EW (p q:Option Addr)(c d:Nat)(xs ys:List Int)(w:World)(hx:Arr w p xs)(hy:Arr w q ys)(hwx:Wd xs)(hwy:Wd ys)(lx:xs.length<=1048576)(ly:ys.length<=1048576)(hc:xs.length<=c)(hd:ys.length<=d)(a b:Nat)(hva:a=val xs)(hvb:b=val ys)(ha:a≠0)(hb:b≠0)(la lb:Nat)(hla:la=aq a)(hlb:lb=aq b)(la2:la<=524288)(lb2:lb<=524288)(u s K:Nat)(hu:la+u=lb+56)(hs:s+K=u)(hs2:la+s<=524288)(hK:K=0∨la+s=524288)(h H:Nat)(hh:h=a*2^u/b)(hH:H=2*h+(if a*2^u%b=0 then 0 else 1)) :
  Calls prog 231 #[.slice p xs.length c,.slice q ys.length d] w (RT (.tuple #[.int .u64 (H:Int),.int .i64 (-(u:Int)-1)]) w):=by
 have h1:=fun f (k:f=w)=>ji q d ys f (by rw[k];exact hy) hwy (by omega) hd
 have h2:=fun f (k:f=w)=>ji p c xs f (by rw[k];exact hx) hwx (by omega) hc
 rw[<-hvb,<-hlb]at h1
 rw[<-hva,<-hla]at h2
 have W:=qw p c xs w (s:Int) hx hwx (by omega) hc
 have ar:aS b<=16384:=dZ b 16384 (by rw[hlb]at lb2;omega)
 have ab:aS a<=16384:=dZ a 16384 (by rw[hla]at la2;omega)
 rw[<-hva]at W
 unfold iI at W
 rw[if_neg (by omega),if_neg (by omega),if_neg ha,av,if_neg (by rw[<-hla];omega)]at W
 obtain⟨D,hD⟩:=aA (a*2^s)
 have bf:aq D=la+s:=by rw[hD,hla];exact du a s ha
 have ad:aS D<=16384:=dZ D 16384 (by omega)
 have hq:=jg a b u 0 ha hb (by rw[<-hla,<-hlb];omega)
 rw[aB,aG,<-hh]at hq
 rw[<-hD]at W
 have n:0<b:=by omega
 have h4:∀(m:Option Addr)(j:Nat)(f:World),Kp w f->Arr f m (az D)->(az D).length<=j->Calls prog 253 #[.slice m (az D).length j,.slice q ys.length d] f fun e w'=>(∃m j p2 c2,e=.returned (.tuple #[.slice m (az (D/b)).length j,.slice p2 (az (D%b)).length c2,.int .i64 0])∧Arr w' m (az (D/b))∧(az (D/b)).length<=j∧Arr w' p2 (az (D%b))∧(az (D%b)).length<=c2)∧Kp f w':=fun m j f T a1 l1=>by
  have g:=Bl m q j d (az D) ys f a1 (hy.grown T) (bC _) hwy (by change aS _<=_;omega) ly l1 hd
  rw[aV,<-hvb]at g
  unfold nk at g
  rw[if_neg (by omega),if_neg (by omega)]at g
  refine g.mono ?_
  rintro e w2 ⟨⟨p3,c3,Y,c4,rfl,o1,o2,-⟩,k2⟩
  obtain⟨p5,c5,e5,a5,l5⟩:=o1.arr
  obtain⟨p6,c6,e6,a6,l6⟩:=o2.arr
  cases e5
  cases e6
  exact⟨⟨_,_,_,_,rfl,a5,l5,a6,l6⟩,k2⟩
 have o:∀k,k<=K->D*2^k/b<=h:=fun k hk=>by
  rw[hh]
  apply Nat.div_le_div_right
  rw[hD,ak,<-ag]
  exact aR _ (al (by omega) (by omega))
 have h5:∀(m:Option Addr)(j:Nat)(f:World),Arr f m (az (D/b))->(az (D/b)).length<=j->Calls prog 254 #[.slice m (az (D/b)).length j] f (RE (.tuple #[.int .u64 ((D/b:Nat):Int),.bool true]) f):=fun m j f a1 l1=>by
  have c7:aS (D/b)<=2:=dZ (D/b) 2 (by
   have e:aq (D/b)<=57:=by
    rw[ay,show(2:Nat)^57=144115188075855872 from by decide]
    have:=o 0 (by omega)
    rw[aB,aG]at this
    omega
   omega)
  have g:=rW m j (az (D/b)) f a1 (bC _) (by change aS _<=_;omega) l1
  rw[aV]at g
  unfold gT at g
  rw[if_neg (by omega)]at g
  exact g
 have h6:∀(R:Nat)(m:Option Addr)(j:Nat)(f:World),R<b->Arr f m (az R)->(az R).length<=j->Calls prog 229 #[.slice m (az R).length j] f (RE (.int .i64 (aq R:Nat)) f):=fun R m j f hRb a1 l1=>by
  have g:=ji m j (az R) f a1 (bC R) (by
   have:aS R<=aS b:=fA (bO hRb)
   change aS _<=_;omega) l1
  rw[aV]at g;exact g
 have h7:∀(x:Bool)(w:World),Calls prog 256 #[.int .u64 (h:Int),.bool x] w (fun e w'=>e=.returned (.int .u64 ((2*h+(if x=true then 1 else 0):Nat):Int))∧w'=w):=fun x w=>oU h x w (by omega)
 have t:∀(k:Nat)(m:Option Addr)(j:Nat)(f:World),k<K->Kp w f->Arr f m (az (D*2^k%b))->(az (D*2^k%b)).length<=j->Calls prog 255 #[.int .u64 ((D*2^k/b:Nat):Int),.slice m (az (D*2^k%b)).length j,.slice q ys.length d] f fun e w'=>∃v,e=.returned (.tuple #[.int .u64 ((D*2^(k+1)/b:Nat):Int),v])∧Ls w' v (az (D*2^(k+1)%b))∧Kp f w':=fun k m j f hk T a1 l1=>by
  have hm:=uO (D*2^k) b n
  rw[show 2*(D*2^k)=D*2^(k+1)from by rw[aF,ap 2,ak]]at hm
  have cu:aS (D*2^k%b)<=aS b:=fA (bO (bZ _ n))
  have cR:=o k (by omega)
  exact xu (D*2^k/b) m q j d (az (D*2^k%b)) ys f a1 (hy.grown T) (bC _) hwy (by change aS _<=_;omega) ly l1 hd (by rw[aV,<-hvb];exact bZ _ n) (by rw[<-hvb];exact ar) (by omega) _ _ (by rw[aV,<-hvb];exact hm.2) (by rw[aV,<-hvb];exact hm.1)
 have C:D*2^K=a*2^u:=by rw[hD,ak,<-ag,hs]
 rw[<-C]at hh hH
 obtain⟨N,hN⟩:=aA xs.length
 obtain⟨M,hM⟩:=aA ys.length
 rw[<-hN]at h2 W|-
 rw[<-hM]at h1 h4 t|-
 have g2:∀w:World,(Builtin.min_ #[3,3] 3 #[.int .i64 (u:Int),.int .i64 (524288-(la:Int))]).run prog w=.ok (.int .i64 (s:Int)) w:=fun w=>by
  rw[run_min_int2]
  congr 2
  split<;>omega
 have ct:56+(lb:Int)-(la:Int)=(u:Int):=by omega
 have cN:u<=524344:=by omega
 have cy:s<=524288:=by omega
 have HL:Hid (lb<=524288∧la<=524288∧s+K=u):=⟨lb2,la2,hs⟩
 have HH:Hid (0<b∧h=D*2^K/b∧H=2*h+(if D*2^K%b=0 then 0 else 1)):=⟨n,hh,hH⟩
 have t1:¬((s:Int)<0):=by omega
 have g4:(u:Int)-(s:Int)=(K:Int):=by omega
 have cm:K<=524344:=by omega
 clear hx hy hwx hwy lx ly hc hd hva hvb ha hb hla hlb hu hs hs2 hK hD bf ad ar ab hq hN hM o n hh hH C
 go_enter func231,ntmps231
 go_wp2_with fail
 refine SM (h1 _ rfl) ?_;clear h1
 go_wp2_with fail
 refine SM (h2 _ rfl) ?_
 go_wp2_with fail
 refine SM (h2 _ rfl) ?_;clear h2
 go_wp2_with fail
 refine W.mono ?_;rintro e f ⟨v1,rfl,X,T⟩
 obtain⟨m,j,rfl,B,Z⟩:=X.arr
 have h8:=h4 m j f T B Z
 obtain⟨L,hL⟩:=aA ((az D).length)
 rw[<-hL]at h8|-
 clear W h4 X B Z hL
 go_wp2_with fail
 refine h8.mono ?_;rintro e w2 ⟨⟨p2,c2,p3,c3,rfl,a2,l2,a3,l3⟩,k2⟩
 have E:=T.trans k2
 have h9:=h5 p2 c2 w2 a2 l2
 obtain⟨h0,r⟩:=aA (D/b)
 obtain⟨L2,F⟩:=aA ((az h0).length)
 obtain⟨L3,P⟩:=aA ((az (D%b)).length)
 rw[<-r,<-F]at h9
 rw[<-r,<-F,<-P]
 have HA:Hid (h0=D/b∧L3=(az (D%b)).length∧Arr w2 p3 (az (D%b))∧(az (D%b)).length<=c3):=⟨r,P,a3,l3⟩
 clear h8 h5 a2 l2 a3 l3 T k2 F P r
 go_wp2_with fail
 refine SM h9 ?_;clear h9
 go_wp2
 go_loopw [4,9,52] (fun hd rr i wr=>∃(k O l c4:Nat)(Y:Option Addr),hd=.int .u64 (O:Int)∧rr=.slice Y l c4∧i=.int .i64 (k:Int)∧k<=K∧O=D*2^k/b∧l=(az (D*2^k%b)).length∧Arr wr Y (az (D*2^k%b))∧l<=c4∧Kp w wr) (fun _ _ i _=>K-(intOf i).toNat)
 case atStart =>
  obtain⟨e1,e2,e3,e4⟩:=HA.out
  exact⟨0,h0,L3,c3,p3,rfl,rfl,rfl,by omega,by rw[aB,aG];exact e1,by rw[aB,aG];exact e2,by rw[aB,aG];exact e3,by rw[e2];exact e4,E⟩
 case round =>
  obtain⟨k,O,l,c4,Y,rfl,rfl,rfl,hk,X,I,B,A,y⟩:=hrel
  by_cases ck:k<K
  ·have G:=t k Y c4 wr ck y B (by rw[<-I];exact A)
   rw[<-X,<-I]at G
   have t2:(k:Int)<(K:Int):=by omega
   have kb:k<=524344:=by omega
   have HK:Hid (k<K∧Kp w wr):=⟨ck,y⟩
   clear t h6 h7 HA HH X I B A hk ck y E
   go_wp2_with fail
   refine G.mono ?_;rintro e w3 ⟨v3,rfl,⟨p5,c5,rfl,a5,l5⟩,k3⟩
   obtain⟨O',S⟩:=aA (D*2^(k+1)/b)
   obtain⟨L',z⟩:=aA ((az (D*2^(k+1)%b)).length)
   rw[<-S,<-z]
   have HB:Hid (O'=D*2^(k+1)/b∧L'=(az (D*2^(k+1)%b)).length∧Arr w3 p5 (az (D*2^(k+1)%b))∧L'<=c5∧Kp wr w3):=⟨S,z,a5,by rw[z];exact l5,k3⟩
   clear G a5 l5 k3 S z
   go_wp2
   obtain⟨b1,b2,b3,b4,b5⟩:=HB.out
   exact⟨⟨k+1,O',L',c5,p5,rfl,rfl,by go_num,by have:=HK.out.1;omega,b1,b2,b3,b4,HK.out.2.trans b5⟩,by have:=HK.out.1;simp[intOf];omega⟩
  ·have bt:k=K:=by omega
   subst bt
   obtain⟨n,hh,hH⟩:=HH.out
   rw[<-hh]at X
   obtain⟨R,hR⟩:=aA (D*2^k%b)
   rw[<-hR]at I B hH
   have J:=h6 R Y c4 wr (by rw[hR];exact bZ _ n) B (by rw[<-I];exact A)
   obtain⟨bR,Q⟩:=aA (aq R)
   obtain⟨x,V⟩:∃x:Bool,x=decide (0<bR):=⟨_,rfl⟩
   have an:H=2*h+(if x=true then 1 else 0):=by
    rw[hH,V,Q]
    by_cases c0:R=0
    ·simp[c0,cP]
    ·have:=(cK R c0).2.2
     simp[c0];omega
   have U:=h7 x wr
   rw[<-an]at U
   rw[<-I,<-Q]at J
   subst X
   have t2:¬((k:Int)<(k:Int)):=by omega
   clear t h6 h7 HA HH I B A hk ck E n hh hH hR Q an
   go_wp2_with fail
   refine SM J ?_;clear J
   go_wp2_with fail
   rw[<-V]
   clear V
   refine SM U ?_;clear U
   go_wp2
   exact BR ⟨rfl,y⟩
theorem mO (a b:Nat):(16384<aS a∨16384<aS b) ↔ (524288<aq a∨524288<aq b):=by
 rw[jm a,jm b]
theorem E7 (dd:Int)(neg:Bool)(p q:Option Addr)(c d:Nat)(xs ys:List Int)(exp:Int)(w:World)(hQ:Fq.Tab w)(hd1:-9223372036854775808<=dd)(hd2:dd<9223372036854775808)(hx:Arr w p xs)(hy:Arr w q ys)(hwx:Wd xs)(hwy:Wd ys)(lx:xs.length<=1048576)(ly:ys.length<=1048576)(hc:xs.length<=c)(hd:ys.length<=d) :
  Calls prog 196 #[.int .i64 dd,.bool neg,.slice p xs.length c,.slice q ys.length d,.int .i64 exp] w (RT (.float .f64 (ni dd neg (val xs) (val ys) exp)) w):=by
 have o:=fun j (k:j=w)=>xa p c xs j (by rw[k];exact hx) hwx lx hc
 have r:=fun j (k:j=w)=>xa q d ys j (by rw[k];exact hy) hwy ly hd
 have B:=fun j (k:j=w)=>ji p c xs j (by rw[k];exact hx) hwx (by omega) hc
 have y:=fun j (k:j=w)=>ji q d ys j (by rw[k];exact hy) hwy (by omega) hd
 have I:=xy w
 have L:=fun(a b:Nat)=>EX p q c d xs ys w hx hy hwx hwy lx ly hc hd a b
 have m:=fun(a b:Nat)=>EW p q c d xs ys w hx hy hwx hwy lx ly hc hd a b
 obtain⟨l,f⟩:=aA (aq (val xs))
 obtain⟨C,g⟩:=aA (aq (val ys))
 obtain⟨N,G⟩:=aA xs.length
 obtain⟨M,F⟩:=aA ys.length
 rw[<-f,<-G]at o B
 rw[<-g,<-F]at r y
 rw[<-G,<-F]at L m
 rw[<-G,<-F]
 unfold ni
 by_cases D:524288<l
 ·rw[if_pos ((mO _ _).2 (Or.inl (by rw[<-f];exact D)))]
  rw[af D]at o
  clear hQ hd1 hd2 hx hy hwx hwy lx ly hc hd f g G F
  clear r B y L m D
  go_enter func196,ntmps196
  go_wp2_with fail
  refine SM (o _ rfl) ?_
  clear o
  go_wp2_with fail
  refine SM I ?_;clear I
  go_wp2
  exact BR ⟨rfl,Kp.refl _⟩
 by_cases O:524288<C
 ·rw[if_pos ((mO _ _).2 (Or.inr (by rw[<-g];exact O)))]
  rw[ae D]at o
  rw[af O]at r
  clear hQ hd1 hd2 hx hy hwx hwy lx ly hc hd f g G F
  clear B y L m D O
  go_enter func196,ntmps196
  go_wp2_with fail
  refine SM (o _ rfl) ?_
  go_wp2_with fail
  refine SM (r _ rfl) ?_
  clear o r
  go_wp2_with fail
  refine SM I ?_;clear I
  go_wp2
  exact BR ⟨rfl,Kp.refl _⟩
 rw[if_neg (by rw[mO,<-f,<-g];omega)]
 rw[ae D]at o
 rw[ae O]at r
 by_cases n:val ys=0
 ·have aw:C=0:=by rw[g,n,cP]
  rw[if_pos n]
  subst aw
  by_cases i:val xs=0
  ·have V:l=0:=by rw[f,i,cP]
   rw[if_pos i]
   subst V
   clear hQ hd1 hd2 hx hy hwx hwy lx ly hc hd f g G F L m D O n i
   go_enter func196,ntmps196
   go_wp2_with fail
   refine SM (o _ rfl) ?_
   go_wp2_with fail
   refine SM (r _ rfl) ?_
   go_wp2_with fail
   refine SM (y _ rfl) ?_
   go_wp2_with fail
   refine SM (B _ rfl) ?_
   clear o r B y
   go_wp2_with fail
   refine SM I ?_;clear I
   go_wp2
   exact BR ⟨rfl,Kp.refl _⟩
  ·rw[if_neg i]
   have t1:¬((l:Int)=0):=by
    have:=(cK _ i).2.2;omega
   have S:Calls prog 230 #[.bool neg] w (RE (.float .f64 (gO neg 9218868437227405312)) w):=by
    cases neg
    ·exact mU w
    ·exact nO w
   obtain⟨Z,hZ⟩:=aA (gO neg 9218868437227405312)
   rw[<-hZ]at S|-
   clear hQ hd1 hd2 hx hy hwx hwy lx ly hc hd f g G F L m D O n i I hZ
   go_enter func196,ntmps196
   go_wp2_with fail
   refine SM (o _ rfl) ?_
   go_wp2_with fail
   refine SM (r _ rfl) ?_
   go_wp2_with fail
   refine SM (y _ rfl) ?_
   go_wp2_with fail
   refine SM (B _ rfl) ?_
   go_wp2_with fail
   refine SM (y _ rfl) ?_
   clear o r B y
   go_wp2_with fail
   refine SM S ?_;clear S
   go_wp2
   exact BR ⟨rfl,Kp.refl _⟩
 rw[if_neg n]
 have t1:¬((C:Int)=0):=by
  have:=(cK _ n).2.2;omega
 by_cases i:val xs=0
 ·have V:l=0:=by rw[f,i,cP]
  rw[if_pos i]
  subst V
  clear hQ hd1 hd2 hx hy hwx hwy lx ly hc hd f g G F L m D O n i I
  go_enter func196,ntmps196
  go_wp2_with fail
  refine SM (o _ rfl) ?_
  go_wp2_with fail
  refine SM (r _ rfl) ?_
  go_wp2_with fail
  refine SM (y _ rfl) ?_
  go_wp2_with fail
  refine SM (y _ rfl) ?_
  go_wp2_with fail
  refine SM (B _ rfl) ?_
  clear o r B y
  go_wp2
  exact BR ⟨rfl,Kp.refl _⟩
 rw[if_neg i]
 have t2:¬((l:Int)=0):=by
  have:=(cK _ i).2.2;omega
 have aa:=yA exp
 have S:=nV exp
 obtain⟨H,E,aj,A,an,U,h6⟩:∃(H:Nat)(E:Int),(∀(e:Int)(t:Int),rV e 53 H 1 (t+E)=rV e 53 (val xs) (val ys) t)∧H<1152921504606846976∧-1048576<=E∧E<=1048576∧Calls prog 231 #[.slice p N c,.slice q M d] w (RT (.tuple #[.int .u64 (H:Int),.int .i64 E]) w):=by
  by_cases cu:C+56<l
  ·obtain⟨v,hv⟩:∃v,C+56+v=l:=⟨l-(C+56),by omega⟩
   obtain⟨h,J⟩:=aA (val xs*2^0/(val ys*2^v))
   obtain⟨H,A⟩:∃H,H=2*h+(if val xs*2^0%(val ys*2^v)=0 then 0 else 1):=⟨_,rfl⟩
   have W:=jg (val xs) (val ys) 0 v i n (by rw[<-f,<-g];omega)
   rw[<-J]at W
   refine⟨H,(v:Int)-1,fun e t=>?_,by rw[A];split<;>omega,by omega,by omega, ?_⟩
   ·have:=wV e (val xs) (val ys) 0 v h H t i n (by rw[<-f,<-g];omega) J A
    rw[<-this];congr 1;omega
   ·rw[aB,aG]at J A
    exact L (val xs) (val ys) rfl rfl i n l C f g (by omega) (by omega) v hv (by omega) h H J A
  ·obtain⟨u,hu⟩:∃u,l+u=C+56:=⟨C+56-l,by omega⟩
   obtain⟨s,K,hs,U,hK⟩:∃s K,s+K=u∧l+s<=524288∧(K=0∨l+s=524288):=by
    by_cases c5:l+u<=524288
    ·exact⟨u,0,by omega,by omega,Or.inl rfl⟩
    ·exact⟨524288-l,u-(524288-l),by omega,by omega,Or.inr (by omega)⟩
   obtain⟨h,J⟩:=aA (val xs*2^u/(val ys*2^0))
   obtain⟨H,A⟩:∃H,H=2*h+(if val xs*2^u%(val ys*2^0)=0 then 0 else 1):=⟨_,rfl⟩
   have W:=jg (val xs) (val ys) u 0 i n (by rw[<-f,<-g];omega)
   rw[<-J]at W
   refine⟨H,-(u:Int)-1,fun e t=>?_,by rw[A];split<;>omega,by omega,by omega, ?_⟩
   ·have:=wV e (val xs) (val ys) u 0 h H t i n (by rw[<-f,<-g];omega) J A
    rw[<-this];congr 1;omega
   ·rw[aB,aG]at J A
    exact m (val xs) (val ys) rfl rfl i n l C f g (by omega) (by omega) u s K hu hs U hK h H J A
 obtain⟨Q,T⟩:=aA (jC exp)
 have z:dK 53 2098 9218868437227405311 9218868437227405312 (dU neg dd) (rV (dU neg dd) 53 (val xs) (val ys) (Q+1074))=dK 53 2098 9218868437227405311 9218868437227405312 (dU neg dd) (rV (dU neg dd) 53 (val xs) (val ys) (exp+1074)):=by
  by_cases c9:Q=exp
  ·rw[c9]
  ·refine nR (dU neg dd) (val xs) (val ys) (val xs) (val ys) (Q+1074) (exp+1074) i n i n ?_
   rw[<-f,<-g]
   rw[T]at c9|-
   unfold jC at c9|-
   omega
 rw[<-T]at S aa
 obtain⟨x,P⟩:∃x:Int,x=Q+E:=⟨_,rfl⟩
 have X:=fun j (k:Kp w j)=>xc dd neg H x j (Fq.Tab.grown hQ k) hd1 hd2 A (by omega) (by omega)
 rw[show x+1074=Q+1074+E from by omega,aj,z]at X
 have ab:∀R,pW 9223372036854775808 neg R=gO neg R:=fun R=>rfl
 rw[ab]at X
 obtain⟨Y,hY⟩:=aA (gO neg (dK 53 2098 9218868437227405311 9218868437227405312 (dU neg dd) (rV (dU neg dd) 53 (val xs) (val ys) (exp+1074))))
 rw[<-hY]at X|-
 have g1:wrap64 (Q+E)=x:=by rw[<-P];exact eQ _ (by omega) (by omega)
 have G2:Hid (Q+E=x∧wrap64 x=x):=⟨P.symm,eQ _ (by omega) (by omega)⟩
 clear hQ hd1 hd2 hx hy hwx hwy lx ly hc hd f g G F L m D O n i I aa aj A an U T z ab hY P
 go_enter func196,ntmps196
 go_wp2_with fail
 refine SM (o _ rfl) ?_
 go_wp2_with fail
 refine SM (r _ rfl) ?_
 go_wp2_with fail
 refine SM (y _ rfl) ?_
 go_wp2_with fail
 refine SM (y _ rfl) ?_
 go_wp2_with fail
 refine SM (B _ rfl) ?_
 clear o r B y
 go_wp2_with fail
 refine h6.mono ?_;rintro e j ⟨rfl,k1⟩
 have h8:=S j
 have ad:=X j k1
 clear S h6 X
 go_wp2_with fail
 refine SM h8 ?_;clear h8
 go_wp2_with fail
 try rw[g1]
 try rw[G2.out.1]
 try rw[G2.out.2]
 refine ad.mono ?_;rintro e w2 ⟨rfl,k2⟩
 have au:Kp w w2:=Kp.trans k1 k2
 clear ad k1 k2
 go_wp2
 exact BR ⟨rfl,au⟩
end Go.Proofs.YtmpjcknaelgnoaaGreatDoor
