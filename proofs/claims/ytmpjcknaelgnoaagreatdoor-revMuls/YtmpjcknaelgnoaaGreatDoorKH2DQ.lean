import Derived.Test.YtmpjcknaelgnoaaGreatDoorKQJd
import Derived.Test.YtmpjcknaelgnoaaGreatDoorKXA0
set_option maxHeartbeats 1000000
set_option maxRecDepth 20000
namespace Go.Proofs.YtmpjcknaelgnoaaGreatDoor
set_option linter.all false
open Go.RowKit Tryz
theorem Br (neg:Bool)(w:World):Calls prog 68 #[.int .i64 (if neg=true then -1 else 1)] w (RE (.float .f64 (Fq.wD neg 9218868437227405312)) w):=by
 have a:∀w:World,(callFunc 36 #[.int .u64 18442240474082181120]).run prog w=.ok (.value (.float .f64 18442240474082181120)) w:=fun w=>Fq.DO 18442240474082181120 w
 have b:∀w:World,(callFunc 36 #[.int .u64 9218868437227405312]).run prog w=.ok (.value (.float .f64 9218868437227405312)) w:=fun w=>Fq.DO 9218868437227405312 w
 cases neg
 ·go_enter func68,ntmps68
  go_wp2
  exact BR (v:=.float .f64 9218868437227405312) ⟨rfl,rfl⟩
 ·go_enter func68,ntmps68
  go_wp2
  exact BR (v:=.float .f64 18442240474082181120) ⟨rfl,rfl⟩
theorem mU (w:World):Calls prog 230 #[.bool false] w (RE (.float .f64 (Fq.wD false 9218868437227405312)) w):=by
 have h:=Br false w
 have a:Calls prog 68 #[.int .i64 (1)] w (RE (.float .f64 9218868437227405312) w):=h
 clear h
 go_enter func230,ntmps230
 go_wp2_with fail
 refine SM a ?_;clear a
 go_wp2
 exact BR (v:=.float .f64 9218868437227405312) ⟨rfl,rfl⟩
theorem nO (w:World):Calls prog 230 #[.bool true] w (RE (.float .f64 (Fq.wD true 9218868437227405312)) w):=by
 have h:=Br true w
 have a:Calls prog 68 #[.int .i64 (-1)] w (RE (.float .f64 18442240474082181120) w):=h
 clear h
 go_enter func230,ntmps230
 go_wp2_with fail
 refine SM a ?_;clear a
 go_wp2
 exact BR (v:=.float .f64 18442240474082181120) ⟨rfl,rfl⟩
theorem ya (neg:Bool)(w:World):Calls prog 230 #[.bool neg] w (RE (.float .f64 (Fq.wD neg 9218868437227405312)) w):=by
 cases neg
 ·exact mU w
 ·exact nO w
theorem DF (neg:Bool)(w:World):Calls prog 261 #[.bool neg] w fun e w'=>e=.returned (.float .f64 (Fq.wD neg 9218868437227405311))∧Fq.Grown w w':=by
 have h:=ya neg w
 obtain⟨Z,c⟩:=aA (Fq.wD neg 9218868437227405312)
 obtain⟨Y,b⟩:=aA (Fq.wD neg 9218868437227405311)
 cases neg
 ·have a:=Fq.Is false 9218868437227405312 (by decide) (by decide) w
  rw[show Fq.fD (Fq.gU false 9218868437227405312-1)=Fq.wD false 9218868437227405311 from rfl,<-c,<-b]at a
  rw[<-c]at h
  rw[<-b]
  clear c b
  go_enter func261,ntmps261
  go_wp2_with fail
  refine SM h ?_;clear h
  go_wp2_with fail
  refine a.mono ?_;rintro e f ⟨rfl,d⟩;clear a
  go_wp2
  exact BR ⟨rfl,d⟩
 ·have a:=Fq.H4 true 9218868437227405312 (by decide) (by decide) w
  rw[show Fq.fD (Fq.gU true 9218868437227405312+1)=Fq.wD true 9218868437227405311 from rfl,<-c,<-b]at a
  rw[<-c]at h
  rw[<-b]
  clear c b
  go_enter func261,ntmps261
  go_wp2_with fail
  refine SM h ?_;clear h
  go_wp2_with fail
  refine a.mono ?_;rintro e f ⟨rfl,d⟩;clear a
  go_wp2
  exact BR ⟨rfl,d⟩
theorem FF (w:World):Calls prog 257 #[] w fun e w'=>e=.returned (.tuple #[.int .i64 53,.int .i64 (-1074)])∧Fq.Grown w w':=by
 have g:=Fq.Gs false 4607182418800017408 (by decide)
 have f:=Fq.Gs false 0 (by decide)
 rw[show Fq.wD false 4607182418800017408=4607182418800017408 from rfl,show(false && !(4607182418800017408 == 0))=false from rfl,show(((Fq.uy 4607182418800017408:Nat):Int))=4503599627370496 from by decide +kernel]at g
 rw[show Fq.wD false 0=0 from rfl,show(false && !(0 == 0))=false from rfl,show Fq.vi 0 = -1074 from by decide +kernel]at f
 obtain⟨p,c⟩:=aA (Fq.vi 4607182418800017408)
 obtain⟨j,a⟩:∃j:Int,j=((Fq.uy 0:Nat):Int):=⟨_,rfl⟩
 rw[<-c]at g
 rw[<-a]at f
 have i:=Fq.Dk 4503599627370496 (by decide) (by decide)
 rw[show((Lib.bitLen (4503599627370496:Int).toNat:Nat):Int)=53 from by decide +kernel]at i
 have m:floatOfInt .f64 1=4607182418800017408:=by decide +kernel
 have o:floatOfInt .f64 0=0:=by decide +kernel
 clear c a
 go_enter func257,ntmps257
 go_wp2_with fail
 refine(g _).mono ?_;rintro e n ⟨rfl,k⟩;clear g
 go_wp2_with fail
 refine(f _).mono ?_;rintro e l ⟨rfl,b⟩;clear f
 have h:=Fq.iC k b
 have d:=i l
 clear i k b
 go_wp2_with fail
 refine SM d ?_;clear d
 go_wp2
 exact BR ⟨rfl,h⟩

structure Rs where
 l1:List Int
 l2:List Int
 W:Int
 Z:Int
 B:Bool
 E:Int
structure Out (w:World)(base:Nat)(r:Rs)(p1:Option Addr)(c1:Nat)(p2:Option Addr)(c2:Nat):Prop where
 o1:Own w base (.slice p1 r.l1.length c1) r.l1
 o2:Own w base (.slice p2 r.l2.length c2) r.l2
 ne:∀g,p1=some ⟨g,0,none⟩->p2≠some ⟨g,0,none⟩
theorem Rw.all {w:World}{g n:Nat}{xs:List Int}(h:Rw w g n xs)(hn:xs.length=n):Arr w (some ⟨g,0,none⟩) xs:=by
 refine Or.inr ⟨g,0,rfl,fun j hj=>?_⟩
 rw[bJ]
 exact World.rowIs.cell h (by omega)
theorem Rw.kb {w w':World}{a g n:Nat}{xs:List Int}(h:Rw w g n xs)(k:Kb a w w')(hne:g≠a):Rw w' g n xs:=World.rowIs.of_block h (k.2.2.2.2 g (World.rowIs.lt h) hne)
theorem Own.kb {w w':World}{a base:Nat}{v:Value}{xs:List Int}(h:Own w base v xs)(k:Kb a w w')(hne:∀g,v.ownBlock=some g->g≠a):Own w' base v xs:=by
 refine⟨h.1, ?_⟩
 rcases h.2 with q|⟨g,i,d,j,m,b,n,p,o,l⟩
 ·exact Or.inl q
 ·have f:g<w.heap.size:=by
   by_cases c:g<w.heap.size
   ·exact c
   ·rw[Array.getElem?_eq_none (by simpa using c)]at b;cases b
  exact Or.inr ⟨g,i,d,j,m,by rw[k.2.2.2.2 g f (hne g (by rw[j];rfl))];exact b,n,p,o,l⟩
structure Cs (w:World)(b:Nat)(r:Rs)(p1:Option Addr)(c1:Nat)(p2:Option Addr)(c2:Nat):Prop where
 c0:w.cell? ⟨b,0,none⟩=some (.slice p1 r.l1.length c1)
 c1:w.cell? ⟨b,1,none⟩=some (.slice p2 r.l2.length c2)
 c2:w.cell? ⟨b,2,none⟩=some (.int .u64 r.W)
 c3:w.cell? ⟨b,3,none⟩=some (.int .i64 r.Z)
 c4:w.cell? ⟨b,4,none⟩=some (.bool r.B)
 c5:w.cell? ⟨b,5,none⟩=some (.int .i64 r.E)
def Bd (lo hi:Nat)(p1 p2:Option Addr):Prop:=∀g,p1=some ⟨g,0,none⟩∨p2=some ⟨g,0,none⟩->lo<=g∧g<hi
set_option maxHeartbeats 20000000 in
theorem dD:(∀(p:Option Addr)(c:Nat)(xs:List Int)(w:World)(hx:Arr w p xs)(lx:xs.length<=1099511627776)(hc:xs.length<=c),Calls prog 241 #[.slice p xs.length c] w (RE (.slice p (tl xs) c) w))∧(∀(p:Option Addr)(c:Nat)(xs:List Int)(w:World)(hx:Arr w p xs)(lx:xs.length<=1099511627776),Calls prog 172 #[.slice p xs.length c] w (RE (.int .i64 (tl xs:Int)) w)):=by
 refine⟨?_,?_⟩
 case' refine_1=>intro p c xs w hx lx hc;have g:=trivial
 case' refine_2=>intro p c xs w hx lx;have f:=trivial
 all_goals (
  obtain⟨N,d⟩:=aA xs.length
  first
  |(have a:=g;clear a;rw[<-d]at lx hc|-)
  |(have a:=f;clear a;rw[<-d]at lx|-)
  have n:Hid (Arr w p xs):=hx
  have q:Hid (N=xs.length):=d
  obtain⟨T,m⟩:=aA (tl xs)
  rw[<-m]
  have o:Hid (gK xs N=T):=by rw[m,d];exact rfl
  have x:T<=N:=by rw[m,d];exact dJ xs
  clear d hx m
  first
  |(have a:=g;clear a;go_enter func241,ntmps241)
  |(have a:=f;clear a;go_enter func172,ntmps172)
  go_wp2
  go_loop [3] (fun i=>∃k:Nat,i=.int .i64 k∧k<=N∧gK xs k=T) (fun i=>(intOf i).toNat)
  case atStart=>exact⟨N,rfl,ao _,o.out⟩
  case round =>
   obtain⟨k,rfl,y,j⟩:=hrel
   have d:=q.out
   rcases k with _|k
   ·have r:T=0:=by rw[<-j];rfl
    subst r
    clear d q n o j y
    go_wp2
    first
    |(have a:=g;clear a;exact BR ⟨rfl,rfl⟩)
    |(have a:=f;clear a;exact BR ⟨rfl,rfl⟩)
   ·obtain⟨b,u,rfl,h⟩:=n.out.at (k:=k) (by omega)
    have t:=h k (by omega)
    have z:(((k+1:Nat):Int)-1)=(k:Int):=by omega
    by_cases l:xs.getD k 0=0
    ·rw[jE xs k l]at j
     rw[l]at t
     clear d q n o h
     go_wp2
     exact⟨⟨k,by go_num,by omega,j⟩,by simp[intOf]⟩
    ·rw[mv xs k l]at j
     subst j
     obtain⟨X,s⟩:=aA (xs.getD k 0)
     rw[<-s]at t l
     have A:(X == 0)=false:=by simp[l]
     clear d q n o h s l
     go_wp2
     first
     |(have a:=g;clear a;exact BR ⟨rfl,rfl⟩)
     |(have a:=f;clear a;exact BR ⟨rfl,rfl⟩))
theorem sL (x y c:Int)(hx:0<=x∧x<4294967296)(hy:0<=y∧y<4294967296)(hc:0<=c∧c<4294967296)(w:World) :
  Calls prog 266 #[.int .u32 x,.int .u32 y,.int .u32 c] w (RE (.tuple #[.int .u32 ((x+y+c)%4294967296),.int .u32 ((x+y+c)/4294967296)]) w):=by
 have d:IntKind.u64.wrap x=x:=by rw[IntKind.wrap_u64];omega
 have f:IntKind.u64.wrap y=y:=by rw[IntKind.wrap_u64];omega
 have a:IntKind.u64.wrap c=c:=by rw[IntKind.wrap_u64];omega
 have i:IntKind.u64.wrap (x+y)=x+y:=by rw[IntKind.wrap_u64];omega
 have h:IntKind.u64.wrap (x+y+c)=x+y+c:=by rw[IntKind.wrap_u64];omega
 have b:IntKind.u32.wrap (x+y+c)=(x+y+c)%4294967296:=by rw[IntKind.wrap_u32]
 have g:IntKind.u32.wrap ((x+y+c)/4294967296)=(x+y+c)/4294967296:=by rw[IntKind.wrap_u32];omega
 clear hx hy hc
 go_enter func266,ntmps266
 go_wp2
 exact BR ⟨rfl,rfl⟩
theorem gi (p:Option Addr)(m c:Nat)(w:World):Calls prog 242 #[.slice p m c] w (RE (.bool (decide (16384<m))) w):=by
 go_enter func242,ntmps242
 go_wp2
 have h:decide ((16384:Int)<(m:Int))=decide (16384<m):=by by_cases d:16384<m<;>simp[d]<;>omega
 exact BR ⟨rfl,rfl⟩ (by simp[results,results242,go_sem]<;>omega)
theorem io (p:Option Addr)(m c:Nat)(w:World):Calls prog 244 #[.slice p m c] w (fun e w'=>e=.returned (if 16384<m then .tuple #[.slice none 0 0,.int .i64 2] else .tuple #[.slice p m c,.int .i64 0])∧w'=w):=by
 have h:=gi p m c
 by_cases d:16384<m
 ·rw[af d]at h
  rw[if_pos d]
  clear d
  go_enter func244,ntmps244
  go_wp2_with (first|(go_at_call 242;refine(h _).mono ?_;rintro e w' ⟨rfl,rfl⟩))
  exact BR ⟨rfl,rfl⟩
 ·rw[ae d]at h
  rw[if_neg d]
  clear d
  go_enter func244,ntmps244
  go_wp2_with (first|(go_at_call 242;refine(h _).mono ?_;rintro e w' ⟨rfl,rfl⟩))
  exact BR ⟨rfl,rfl⟩
def Ls (w:World)(v:Value)(L:List Int):Prop:=∃p c,v=.slice p L.length c∧Arr w p L∧L.length<=c
theorem Ls.kp {w w':World}{v:Value}{L:List Int}(h:Ls w v L)(k:Kp w w'):Ls w' v L:=by
 obtain⟨p,c,e,b,a⟩:=h
 exact⟨p,c,e,b.grown k,a⟩
theorem Own.ls {w:World}{base:Nat}{v:Value}{L:List Int}(h:Own w base v L):Ls w v L:=by
 obtain⟨p,c,e,b,a⟩:=h.arr
 exact⟨p,c,e,b,a⟩
theorem dZ (a K:Nat)(h:aq a<=32*K):(az a).length<=K:=by
 have b:=(ay a (32*K)).1 h
 rw[<-nG]at b
 by_cases c:(az a).length<=K
 ·exact c
 ·exfalso
  have:=gZ a K (by unfold aS;omega)
  omega
theorem Kb.kp2 {g:Nat}{w w' w'':World}(h:Kb g w w')(k:Kp w' w''):Kb g w w'' :=
 ⟨k.os.trans h.1,k.tape.trans h.2.1,k.output.trans h.2.2.1,aT h.2.2.2.1 k.size,fun i hi hne=>(Below.block k i (aE hi h.2.2.2.1)).trans (h.2.2.2.2 i hi hne)⟩
theorem vB (g n i c1 d X:Nat)(q:Option Addr)(zs ys:List Int)(w:World)(hr:Rw w g n zs)(hzl:zs.length=n)(hwz:Wd zs)(hy:Arr w q ys)(hwy:Wd ys)(hX:X<4294967296)(hq:0<ys.length->∀b off,q=some ⟨b,off,none⟩->b≠g)(hin:i+ys.length<=n)(hn:n<=1099511627776)(hcc:ys.length<=c1) :
  Calls prog 272 #[.slice (some ⟨g,i,none⟩) ys.length c1,.slice q ys.length d,.int .u32 (X:Int)] w fun e w'=>∃(C:Nat)(us:List Int),e=.returned (.int .u32 (C:Int))∧Rw w' g n us∧us.length=n∧Wd us∧C<4294967296∧val us+C*4294967296^(i+ys.length)=val zs+val ys*X*4294967296^i∧(∀j,i+ys.length<=j->us.getD j 0=zs.getD j 0)∧Kb g w w':=by
 obtain⟨M,o⟩:=aA ys.length
 rw[<-o]at hin hcc|-
 have F:Hid (Arr w q ys∧(0<ys.length->∀b off,q=some ⟨b,off,none⟩->b≠g)):=⟨hy,hq⟩
 have U:Hid (Wd ys∧M=ys.length):=⟨hwy,o⟩
 have B:Hid (Rw w g n zs∧zs.length=n∧Wd zs):=⟨hr,hzl,hwz⟩
 have ad:IntKind.u64.wrap (X:Int)=(X:Int):=by rw[IntKind.wrap_u64];omega
 clear hy hq hwy o hr hzl hwz
 go_enter func272,ntmps272
 go_wp2
 go_loopw [7,11] (fun cc ii wr=>∃(k C:Nat)(us:List Int),cc=.int .u64 (C:Int)∧ii=.int .i64 k∧k<=M∧Rw wr g n us∧us.length=n∧Wd us∧C<4294967296∧val us+C*4294967296^(i+k)=val zs+val (ys.take k)*X*4294967296^i∧(∀j,i+k<=j->us.getD j 0=zs.getD j 0)∧Kb g w wr) (fun _ i _=>M-(intOf i).toNat)
 case atStart=>exact⟨0,0,zs,rfl,rfl,aW _,B.out.1,B.out.2.1,B.out.2.2,by omega,by simp[val],fun j _=>rfl,Kb.refl _ _⟩
 case round =>
  obtain⟨k,C,us,rfl,rfl,hk,a,t,m,W,E,f,h⟩:=hrel
  obtain⟨hwy,o⟩:=U.out
  by_cases ck:k<M
  ·obtain⟨b',p,rfl,A⟩:=F.out.1.at (k:=k) (by omega)
   have L:=F.out.2 (by omega) b' p rfl
   have I:=h.arr L (A k (by omega))
   have N:=World.rowIs.cell a (i:=i+k) (by omega)
   have wy:=hwy k
   have wz:=m (i+k)
   obtain⟨Y,K⟩:∃Y:Nat,(Y:Int)=ys.getD k 0:=⟨(ys.getD k 0).toNat,by omega⟩
   obtain⟨c,s⟩:∃c:Nat,(c:Int)=us.getD (i+k) 0:=⟨(us.getD (i+k) 0).toNat,by omega⟩
   rw[<-K]at I
   rw[<-s]at N
   have z:=kt Y X C c (by omega) hX W (by omega)
   obtain⟨P,D⟩:=aA (Y*X)
   rw[<-D]at z
   obtain⟨S,T⟩:∃S:Nat,S=(c:Int).toNat+((P:Nat):Int).toNat+C:=⟨_,rfl⟩
   have l:=jT us (i+k) C S _ (c:Int) (P:Int) (by omega) s.symm T E
   simp only[av]at T l
   have r:=jl ys X i k
   rw[<-K,av,<-D]at r
   rw[dH (val zs),<-r,dH i k 1]at l
   have f1:IntKind.u64.wrap (Y:Int)=(Y:Int):=by rw[IntKind.wrap_u64];omega
   have f2:IntKind.u64.wrap ((Y:Int)*(X:Int))=(P:Int):=by
    have:(Y:Int)*(X:Int)=(P:Int):=by rw[D];exact(aK Y X).symm
    rw[this,IntKind.wrap_u64];omega
   have f3:IntKind.u64.wrap (c:Int)=(c:Int):=by rw[IntKind.wrap_u64];omega
   have f4:IntKind.u64.wrap ((P:Int)+(c:Int))=(P:Int)+(c:Int):=by rw[IntKind.wrap_u64];omega
   have f5:IntKind.u64.wrap ((C:Int)+((P:Int)+(c:Int)))=(S:Int):=by rw[IntKind.wrap_u64];omega
   obtain⟨Z,hZ⟩:∃Z:Nat,Z=S%4294967296:=⟨_,rfl⟩
   obtain⟨y,x⟩:∃y:Nat,y=S/4294967296:=⟨_,rfl⟩
   have f6:IntKind.u32.wrap (S:Int)=(Z:Int):=by rw[IntKind.wrap_u32];omega
   have f7:(S:Int)/4294967296=(y:Int):=by omega
   rw[<-hZ,<-x]at l
   have Q:y<4294967296:=by omega
   have J:Wd (us.set (i+k) (Z:Int)):=m.set (i+k) Z (by omega)
   have V:(us.set (i+k) (Z:Int)).length=n:=by rw[bg];exact t
   have u:∀j,i+(k+1)<=j->(us.set (i+k) (Z:Int)).getD j 0=zs.getD j 0:=fun j h1=>by
    rw[<-f j (by omega)];simp[List.getD,show ¬i+k=j from by omega]
   have H:i+k<us.length:=by omega
   have i0:(0:Int)<=(k:Int):=by omega
   have i1:(k:Int)<(M:Int):=by omega
   clear A F U B hwy o K s hZ x T E D r wy wz m W f t z
   go_wp2
   refine eF (by kernel_rfl) (by kernel_rfl) (fun ι _ G hG hall=>?_)
   have c0:∀n,(G n).cell? ⟨g,i+k,none⟩=some (.int .u32 (c:Int)):=fun n=>ac (hG n) N
   have c1:∀n,(G n).cell? ⟨b',p+k,none⟩=some (.int .u32 (Y:Int)):=fun n=>ac (hG n) I
   repeat(go_big_quiet_step (fail))
   refine wpQuiet_nil ?_
   rintro _ ⟨nq,rfl⟩
   have O:=hG nq
   replace a:=a.grown O
   have e3:=World.rowIs.cell a (i:=i+k) (by have:=a;omega)
   have e4:=World.rowIs.frozen a (i+k)
   have hR:=a.set (i+k) (Z:Int) H
   have hK:=(h.kp2 O).setCell (i+k) (.int .u32 (Z:Int))
   clear c0 c1 hall hG O N I a h
   go_wp2
   exact⟨⟨k+1,y,us.set (i+k) (Z:Int),rfl,by go_num,by omega,hR,V,J,Q,l,u,hK⟩,by simp[intOf];omega⟩
  ·have R:k=M:=by omega
   subst R
   rw[o,di,<-o]at E
   have i2:¬((k:Int)<(k:Int)):=by omega
   have f6:IntKind.u32.wrap (C:Int)=(C:Int):=by rw[IntKind.wrap_u32];omega
   clear F U B hwy o hk ck
   go_wp2
   exact BR ⟨C,rfl,us,a,t,m,W,E,f,h⟩
end Go.Proofs.YtmpjcknaelgnoaaGreatDoor
