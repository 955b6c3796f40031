import Derived.Test.YtmpjcknaelgnoaaGreatDoorKMR18
set_option maxHeartbeats 1000000
set_option maxRecDepth 20000
namespace Go.Proofs.YtmpjcknaelgnoaaGreatDoor
set_option linter.all false
open Go.RowKit Tryz
theorem Fj (n:Bool)(m X:Nat)(hm:m<9223372036854775808)(hX:X=Fq.wD n m):bits BinOp.andNot IntKind.u64 (X:Int) 9223372036854775808=(m:Int)∧X<18446744073709551616:=by
 have a:X<18446744073709551616:=by rw[hX];unfold Fq.wD;split<;>omega
 have h:=u64_andNot_nat X 9223372036854775808 a (by decide)
 have e:X%9223372036854775808=m:=by rw[hX];unfold Fq.wD;split<;>omega
 rw[show 18446744073709551615-9223372036854775808=2^63-1 from by decide,cG,show(2:Nat)^63=9223372036854775808 from by decide,e]at h
 exact⟨h,a⟩
theorem AQ (n:Bool)(m:Nat)(hm:m<9223372036854775808)(w:World):Calls prog 153 #[.float .f64 (Fq.wD n m)] w (RE (.float .f64 m) w):=by
 obtain⟨X,a⟩:=aA (Fq.wD n m)
 have d:=(Fj n m X hm a).1
 rw[<-a]
 clear a hm
 have b:=Fq.GX X
 have c:=Fq.DO m
 go_enter func153,ntmps153
 go_wp2
 exact BR ⟨rfl,rfl⟩
open Ieee in
theorem vg (m:Nat)(hm:m<9223372036854775808):(FloatKind.f64.format.order m 9218868437227405311 == some Ordering.lt || FloatKind.f64.format.order m 9218868437227405311 == some Ordering.eq)=decide (m<9218868437227405312):=by
 have i:FloatKind.f64.format=double:=rfl
 have hi:double.infRung=9218868437227405312:=by decide +kernel
 have a:double.signWeight=9223372036854775808:=by decide +kernel
 have f:double.binade<=double.infRung:=by decide +kernel
 have b:Fq.rg double m=m:=by unfold Fq.rg;rw[a];exact aX hm
 have g:Fq.rg double 9218868437227405311=9218868437227405311:=by unfold Fq.rg;rw[a]
 have j:Fq.pl double m=(m:Int):=by
  unfold Fq.pl Fq.ng
  rw[b,a,bh hm];rfl
 have h:Fq.pl double 9218868437227405311=9218868437227405311:=by
  unfold Fq.pl Fq.ng
  rw[g,a];rfl
 rw[i]
 by_cases c:m<=9218868437227405312
 ·rw[Fq.uJ double m 9218868437227405311 f (by rw[b,hi];exact c) (by rw[g,hi];decide),j,h]
  by_cases d:m<9218868437227405312
  ·rw[af d]
   by_cases c2:m=9218868437227405311
   ·rw[c2];rfl
   ·rw[show compare (m:Int) 9218868437227405311=Ordering.lt from by rw[Int.compare_eq_lt];omega];rfl
  ·rw[ae d,show compare (m:Int) 9218868437227405311=Ordering.gt from by rw[Int.compare_eq_gt];omega];rfl
 ·rw[Fq.mK double m 9218868437227405311 f (by rw[b,hi];omega),ae (by omega)];rfl
theorem fO (n:Bool)(m:Nat)(hm:m<9223372036854775808)(w:World):Calls prog 177 #[.float .f64 (Fq.wD n m)] w (RE (.bool (decide (m<9218868437227405312))) w):=by
 have h:=AQ n m hm w
 obtain⟨X,a⟩:=aA (Fq.wD n m)
 rw[<-a]at h|-
 clear a
 go_enter func177,ntmps177
 go_wp2_with fail
 refine SM h ?_;clear h
 go_wp2
 exact BR ⟨rfl,rfl⟩ (by rw[<-vg m hm];simp[results,results177,go_sem])
open Ieee in
theorem rz (m:Nat)(hm:m<9223372036854775808):(FloatKind.f64.format.order m 9110782046170513408 == some Ordering.lt || FloatKind.f64.format.order m 9110782046170513408 == some Ordering.eq)=decide (m<=9110782046170513408):=by
 have i:FloatKind.f64.format=double:=rfl
 have hi:double.infRung=9218868437227405312:=by decide +kernel
 have a:double.signWeight=9223372036854775808:=by decide +kernel
 have f:double.binade<=double.infRung:=by decide +kernel
 have b:Fq.rg double m=m:=by unfold Fq.rg;rw[a];exact aX hm
 have g:Fq.rg double 9110782046170513408=9110782046170513408:=by unfold Fq.rg;rw[a]
 have j:Fq.pl double m=(m:Int):=by
  unfold Fq.pl Fq.ng
  rw[b,a,bh hm];rfl
 have h:Fq.pl double 9110782046170513408=9110782046170513408:=by
  unfold Fq.pl Fq.ng
  rw[g,a];rfl
 rw[i]
 by_cases c:m<=9218868437227405312
 ·rw[Fq.uJ double m 9110782046170513408 f (by rw[b,hi];exact c) (by rw[g,hi];decide),j,h]
  by_cases d:m<=9110782046170513408
  ·rw[af d]
   by_cases c2:m=9110782046170513408
   ·rw[c2];rfl
   ·rw[show compare (m:Int) 9110782046170513408=Ordering.lt from by rw[Int.compare_eq_lt];omega];rfl
  ·rw[ae d,show compare (m:Int) 9110782046170513408=Ordering.gt from by rw[Int.compare_eq_gt];omega];rfl
 ·rw[Fq.mK double m 9110782046170513408 f (by rw[b,hi];omega),ae (by omega)];rfl
theorem mw (n:Bool)(m:Nat)(hm:m<9223372036854775808)(w:World):Calls prog 174 #[.float .f64 (Fq.wD n m)] w (RE (.bool (decide (m<=9110782046170513408))) w):=by
 have h:=AQ n m hm w
 obtain⟨X,a⟩:=aA (Fq.wD n m)
 rw[<-a]at h|-
 clear a
 go_enter func174,ntmps174
 go_wp2_with fail
 refine SM h ?_;clear h
 go_wp2
 exact BR ⟨rfl,rfl⟩ (by rw[<-rz m hm];simp[results,results174,go_sem])
theorem dC {W w:World}{b o:Nat}(g:Kp W w)(h:b<W.heap.size):w.frozen? ⟨b,o,none⟩=W.frozen? ⟨b,o,none⟩:=World.frozen?_of_block (w:=W) (Below.block g b h)
theorem IB {W w:World}{b:Nat}{v0 v1:Value}(g:Kp W w)(h:W.cell? ⟨b,0,none⟩=some v0∧W.frozen? ⟨b,0,none⟩=false∧W.cell? ⟨b,1,none⟩=some v1∧W.frozen? ⟨b,1,none⟩=false):w.cell? ⟨b,0,none⟩=some v0∧w.frozen? ⟨b,0,none⟩=false∧w.cell? ⟨b,1,none⟩=some v1∧w.frozen? ⟨b,1,none⟩=false:=by
 obtain⟨c,f,a,d⟩:=h
 exact⟨ac g c,(dC g (be c)).trans f,ac g a,(dC g (be a)).trans d⟩
theorem Es {W w:World}(g:Kp W w)(b:Nat)(v0 v1:Value)(h:W.cell? ⟨b,0,none⟩=some v0∧W.frozen? ⟨b,0,none⟩=false∧W.cell? ⟨b,1,none⟩=some v1∧W.frozen? ⟨b,1,none⟩=false):w.cell? ⟨b,0,none⟩=some v0∧w.frozen? ⟨b,0,none⟩=false∧w.cell? ⟨b,1,none⟩=some v1∧w.frozen? ⟨b,1,none⟩=false:=IB g h
theorem G9 {W w:World}{b:Nat}{v0 v1 v2:Value}(g:Kp W w)(h:W.cell? ⟨b,0,none⟩=some v0∧W.frozen? ⟨b,0,none⟩=false∧W.cell? ⟨b,1,none⟩=some v1∧W.frozen? ⟨b,1,none⟩=false∧W.cell? ⟨b,2,none⟩=some v2∧W.frozen? ⟨b,2,none⟩=false):w.cell? ⟨b,0,none⟩=some v0∧w.frozen? ⟨b,0,none⟩=false∧w.cell? ⟨b,1,none⟩=some v1∧w.frozen? ⟨b,1,none⟩=false∧w.cell? ⟨b,2,none⟩=some v2∧w.frozen? ⟨b,2,none⟩=false:=by
 obtain⟨c,d,a,i,c2,f⟩:=h
 exact⟨ac g c,(dC g (be c)).trans d,ac g a,(dC g (be a)).trans i,ac g c2,(dC g (be c2)).trans f⟩
theorem GA {W w:World}{b:Nat}{v0 v1 v2 v3:Value}(g:Kp W w)(h:W.cell? ⟨b,0,none⟩=some v0∧W.frozen? ⟨b,0,none⟩=false∧W.cell? ⟨b,1,none⟩=some v1∧W.frozen? ⟨b,1,none⟩=false∧W.cell? ⟨b,2,none⟩=some v2∧W.frozen? ⟨b,2,none⟩=false∧W.cell? ⟨b,3,none⟩=some v3∧W.frozen? ⟨b,3,none⟩=false):w.cell? ⟨b,0,none⟩=some v0∧w.frozen? ⟨b,0,none⟩=false∧w.cell? ⟨b,1,none⟩=some v1∧w.frozen? ⟨b,1,none⟩=false∧w.cell? ⟨b,2,none⟩=some v2∧w.frozen? ⟨b,2,none⟩=false∧w.cell? ⟨b,3,none⟩=some v3∧w.frozen? ⟨b,3,none⟩=false:=by
 obtain⟨c,d,a,i,c2,f,c3,j⟩:=h
 exact⟨ac g c,(dC g (be c)).trans d,ac g a,(dC g (be a)).trans i,ac g c2,(dC g (be c2)).trans f,ac g c3,(dC g (be c3)).trans j⟩
theorem rt {W w:World}(g:Kp W w)(b:Nat)(v0 v1 v2 v3:Value)(h:W.cell? ⟨b,0,none⟩=some v0∧W.frozen? ⟨b,0,none⟩=false∧W.cell? ⟨b,1,none⟩=some v1∧W.frozen? ⟨b,1,none⟩=false∧W.cell? ⟨b,2,none⟩=some v2∧W.frozen? ⟨b,2,none⟩=false∧W.cell? ⟨b,3,none⟩=some v3∧W.frozen? ⟨b,3,none⟩=false):w.cell? ⟨b,0,none⟩=some v0∧w.frozen? ⟨b,0,none⟩=false∧w.cell? ⟨b,1,none⟩=some v1∧w.frozen? ⟨b,1,none⟩=false∧w.cell? ⟨b,2,none⟩=some v2∧w.frozen? ⟨b,2,none⟩=false∧w.cell? ⟨b,3,none⟩=some v3∧w.frozen? ⟨b,3,none⟩=false:=GA g h
theorem BQ {W w:World}{b:Nat}{v0 v1 v2 v3 v4 v5 v6 v7 v8:Value}(g:Kp W w)(h:W.cell? ⟨b,0,none⟩=some v0∧W.frozen? ⟨b,0,none⟩=false∧W.cell? ⟨b,1,none⟩=some v1∧W.frozen? ⟨b,1,none⟩=false∧W.cell? ⟨b,2,none⟩=some v2∧W.frozen? ⟨b,2,none⟩=false∧W.cell? ⟨b,3,none⟩=some v3∧W.frozen? ⟨b,3,none⟩=false∧W.cell? ⟨b,4,none⟩=some v4∧W.frozen? ⟨b,4,none⟩=false∧W.cell? ⟨b,5,none⟩=some v5∧W.frozen? ⟨b,5,none⟩=false∧W.cell? ⟨b,6,none⟩=some v6∧W.frozen? ⟨b,6,none⟩=false∧W.cell? ⟨b,7,none⟩=some v7∧W.frozen? ⟨b,7,none⟩=false∧W.cell? ⟨b,8,none⟩=some v8∧W.frozen? ⟨b,8,none⟩=false):w.cell? ⟨b,0,none⟩=some v0∧w.frozen? ⟨b,0,none⟩=false∧w.cell? ⟨b,1,none⟩=some v1∧w.frozen? ⟨b,1,none⟩=false∧w.cell? ⟨b,2,none⟩=some v2∧w.frozen? ⟨b,2,none⟩=false∧w.cell? ⟨b,3,none⟩=some v3∧w.frozen? ⟨b,3,none⟩=false∧w.cell? ⟨b,4,none⟩=some v4∧w.frozen? ⟨b,4,none⟩=false∧w.cell? ⟨b,5,none⟩=some v5∧w.frozen? ⟨b,5,none⟩=false∧w.cell? ⟨b,6,none⟩=some v6∧w.frozen? ⟨b,6,none⟩=false∧w.cell? ⟨b,7,none⟩=some v7∧w.frozen? ⟨b,7,none⟩=false∧w.cell? ⟨b,8,none⟩=some v8∧w.frozen? ⟨b,8,none⟩=false:=by
 obtain⟨i,o,a,k,c2,j,c3,m,c4,n,d,q,c6,r,c,p,f,l⟩:=h
 exact⟨ac g i,(dC g (be i)).trans o,ac g a,(dC g (be a)).trans k,ac g c2,(dC g (be c2)).trans j,ac g c3,(dC g (be c3)).trans m,ac g c4,(dC g (be c4)).trans n,ac g d,(dC g (be d)).trans q,ac g c6,(dC g (be c6)).trans r,ac g c,(dC g (be c)).trans p,ac g f,(dC g (be f)).trans l⟩
theorem Ej {W w:World}(g:Kp W w)(b:Nat)(v0 v1 v2 v3 v4 v5 v6 v7 v8:Value)(h:W.cell? ⟨b,0,none⟩=some v0∧W.frozen? ⟨b,0,none⟩=false∧W.cell? ⟨b,1,none⟩=some v1∧W.frozen? ⟨b,1,none⟩=false∧W.cell? ⟨b,2,none⟩=some v2∧W.frozen? ⟨b,2,none⟩=false∧W.cell? ⟨b,3,none⟩=some v3∧W.frozen? ⟨b,3,none⟩=false∧W.cell? ⟨b,4,none⟩=some v4∧W.frozen? ⟨b,4,none⟩=false∧W.cell? ⟨b,5,none⟩=some v5∧W.frozen? ⟨b,5,none⟩=false∧W.cell? ⟨b,6,none⟩=some v6∧W.frozen? ⟨b,6,none⟩=false∧W.cell? ⟨b,7,none⟩=some v7∧W.frozen? ⟨b,7,none⟩=false∧W.cell? ⟨b,8,none⟩=some v8∧W.frozen? ⟨b,8,none⟩=false):w.cell? ⟨b,0,none⟩=some v0∧w.frozen? ⟨b,0,none⟩=false∧w.cell? ⟨b,1,none⟩=some v1∧w.frozen? ⟨b,1,none⟩=false∧w.cell? ⟨b,2,none⟩=some v2∧w.frozen? ⟨b,2,none⟩=false∧w.cell? ⟨b,3,none⟩=some v3∧w.frozen? ⟨b,3,none⟩=false∧w.cell? ⟨b,4,none⟩=some v4∧w.frozen? ⟨b,4,none⟩=false∧w.cell? ⟨b,5,none⟩=some v5∧w.frozen? ⟨b,5,none⟩=false∧w.cell? ⟨b,6,none⟩=some v6∧w.frozen? ⟨b,6,none⟩=false∧w.cell? ⟨b,7,none⟩=some v7∧w.frozen? ⟨b,7,none⟩=false∧w.cell? ⟨b,8,none⟩=some v8∧w.frozen? ⟨b,8,none⟩=false:=BQ g h
theorem GD (w:World):Calls prog 208 #[.int .u64 0] w (RE (.int .i64 64) w):=by
 go_enter func208,ntmps208
 go_wp2
 exact BR ⟨rfl,rfl⟩
theorem mx (n:Bool)(m:Nat)(hm:m<9218868437227405312) :
  ∃(a:Nat)(ex:Int),a*2^(ex+1074).toNat=Fq.vV Ieee.double m∧-1074<=ex∧ex<=2048∧a<9007199254740992∧∀w:World,Fq.Tab w->Calls prog 178 #[.float .f64 (Fq.wD n m)] w fun e w'=>∃v,e=.returned (.agg #[.bool (n && !(m == 0)),v,.int .i64 ex])∧Ls w' v (az a)∧Kp w w':=by
 obtain⟨K,V,v3,v4,W⟩:=Fq.Hf m hm
 obtain⟨X,R⟩:=aA (Fq.wD n m)
 obtain⟨sg,j⟩:=aA (Fq.uy m)
 obtain⟨s,q⟩:=aA (Fq.vi m)
 obtain⟨M,y⟩:∃M:Bool,M=(n && !(m == 0)):=⟨_,rfl⟩
 rw[<-j,<-q]at K
 rw[<-j]at V v3
 rw[<-q]at v4 W
 obtain⟨a,k,hk,S,G,H,ha⟩:∃a k:Nat,a*2^(s+(k:Int)+1074).toNat=Fq.vV Ieee.double m∧k<=64∧(∀d,Fq.Tab d->Calls prog 208 #[.int .u64 (sg:Int)] d (RE (.int .i64 (k:Int)) d))∧(sg:Int)/2^min k 64=(a:Int)∧a<9007199254740992:=by
  by_cases c:sg=0
  ·refine⟨0,64, ?_,by omega, ?_,by rw[c];simp,by omega⟩
   ·have e:Fq.vV Ieee.double m=Fq.Hg m:=rfl
    rw[e,<-K,c];simp
   ·intro d _
    rw[c];exact GD d
  ·obtain⟨o,o1,o2,o3,o4⟩:=pm sg c
   have bc:aq sg<=53:=by rw[ay,show(2:Nat)^53=9007199254740992 from by decide];exact V
   refine⟨o,jK sg, ?_,by omega, ?_, ?_, ?_⟩
   ·have e:Fq.vV Ieee.double m=Fq.Hg m:=rfl
    rw[e,<-K,show(s+((jK sg:Nat):Int)+1074).toNat=jK sg+(s+1074).toNat from by omega,ag,<-ak,<-o2]
   ·intro d t1
    have h:=Fq.H7 o (jK sg) o1 (by rw[<-o2];omega) d t1
    rw[<-o2]at h
    exact h
   ·rw[cW (by omega)]
    have:((sg/2^jK sg:Nat):Int)=(o:Int):=by rw[o3]
    rw[<-this,eJ,fQ]
   ·have:=cS sg (2^jK sg);omega
 refine⟨a,s+(k:Int),hk,by omega,by omega,ha,fun w hQ=>?_⟩
 obtain⟨f,p⟩:=aA (w.alloc (.cells #[.bool false,.slice none 0 0,.int .i64 0] 149))
 obtain⟨B,Z⟩:=aA w.heap.size
 have x:Kp w f:=by rw[p];exact(Kp.refl w).alloc _
 have A:=Fq.Gs n m hm f
 rw[<-R,<-j,<-q,<-y]at A
 rw[<-R,<-y]
 rw[cW S]at H
 have I:=fun d=>tK a (by omega) d
 have u:=fun d (kk:Kp f d)=>G d (Fq.Tab.grown hQ (x.trans kk))
 have Q:∀d,Kp f d->True:=fun _ _=>trivial
 obtain⟨J,e1,Y,f0,f1,f2⟩:f.cell? ⟨B,0,none⟩=some (.bool false)∧f.cell? ⟨B,1,none⟩=some (.slice none 0 0)∧f.cell? ⟨B,2,none⟩=some (.int .i64 0)∧f.frozen? ⟨B,0,none⟩=false∧f.frozen? ⟨B,1,none⟩=false∧f.frozen? ⟨B,2,none⟩=false:=by rw[p,Z];simp[go_sem]
 have z:=be J
 have aw:-1074<=s:=v4
 have a3:s<=971:=W
 have N:Hid (f=w.alloc (.cells #[.bool false,.slice none 0 0,.int .i64 0] 149)∧B=w.heap.size∧Kp w f):=⟨p,Z,x⟩
 clear Q K V v3 v4 W R j q y p Z x G hQ hk ha hm
 go_enter func178,ntmps178
 go_wp2_with fail
 rw[<-N.out.1,<-N.out.2.1]
 refine A.mono ?_;rintro e d ⟨rfl,k1⟩
 have l:Kp f d:=k1
 have r:=u d l
 clear A u k1
 go_wp2_with fail
 refine SM r ?_;clear r
 have D:=I d
 clear I
 go_wp2_with fail
 try rw[H]
 refine D.mono ?_;rintro e C ⟨v,rfl,t,k2⟩
 have i:=t.ls
 obtain⟨pv,cv,rfl,T,O⟩:=t.arr
 have b:=l.trans k2
 have F:=t.lt
 replace J:=ac b J
 replace e1:=ac b e1
 replace Y:=ac b Y
 replace f0:=(dC b z).trans f0
 replace f1:=(dC b z).trans f1
 replace f2:=(dC b z).trans f2
 have U:=Below.size l
 obtain⟨L,E⟩:=aA ((az a).length)
 rw[<-E]
 have HO:Hid (Own C d.heap.size (.slice pv (az a).length cv) (az a)∧L=(az a).length∧Kp f C∧B<d.heap.size):=⟨t,E,b,by omega⟩
 clear D t i T O l k2 b F E U
 go_wp2
 obtain⟨t,E,b,a8⟩:=HO.out
 have kb:Kb B C (((C.setCell ⟨B,0,none⟩ (.bool M)).setCell ⟨B,1,none⟩ (.slice pv L cv)).setCell ⟨B,2,none⟩ (.int .i64 (s+(k:Int)))):=(((Kb.refl B C).setCell 0 _).setCell 1 _).setCell 2 _
 have aj:=t.kb kb (fun g hg=>by have:=t.lt g hg;omega)
 have i:=aj.ls
 rw[<-E]at i
 have P:Kp w (((C.setCell ⟨B,0,none⟩ (.bool M)).setCell ⟨B,1,none⟩ (.slice pv L cv)).setCell ⟨B,2,none⟩ (.int .i64 (s+(k:Int)))):=kb.kp (N.out.2.2.trans b) (by rw[N.out.2.1];exact ao _)
 exact BR ⟨_,rfl,i,P⟩ (by simp[results,results178,go_sem,J,e1,Y])
set_option maxHeartbeats 20000000 in
theorem tq:(∀(S T9:Int) s p l c q k d s2 p2 l2 c2 q2 k2 d2 (w:World)(hs1:KW w 133 #[.agg #[.bool s,.slice p l c,.slice q k d]] (.int .i64 S))(hs2:KW w 133 #[.agg #[.bool s2,.slice p2 l2 c2,.slice q2 k2 d2]] (.int .i64 T9))(t1:S<T9),Calls prog 77 #[.agg #[.bool s,.slice p l c,.slice q k d],.agg #[.bool s2,.slice p2 l2 c2,.slice q2 k2 d2]] w (RT (.int .i64 (-1)) w))∧(∀(S T9:Int) s p l c q k d s2 p2 l2 c2 q2 k2 d2 (w:World)(hs1:KW w 133 #[.agg #[.bool s,.slice p l c,.slice q k d]] (.int .i64 S))(hs2:KW w 133 #[.agg #[.bool s2,.slice p2 l2 c2,.slice q2 k2 d2]] (.int .i64 T9))(t2:T9<S),Calls prog 77 #[.agg #[.bool s,.slice p l c,.slice q k d],.agg #[.bool s2,.slice p2 l2 c2,.slice q2 k2 d2]] w (RT (.int .i64 1) w)):=by
 refine⟨?_,?_⟩
 case' refine_1=>intro S T9 s p l c q k d s2 p2 l2 c2 q2 k2 d2 w hs1 hs2 t1;have i:=trivial
 case' refine_2=>intro S T9 s p l c q k d s2 p2 l2 c2 q2 k2 d2 w hs1 hs2 t2;have g:=trivial
 all_goals (
  go_enter func77,ntmps77
  go_wp2_with (first|(go_at_call_of 133 (Value.slice p l c);refine(hs1 _ ?q0).mono ?_;(case q0=>exact((Kp.refl w).alloc _).alloc _);rintro e n ⟨rfl,f⟩;have j:Kp w n:=Kp.trans (((Kp.refl w).alloc _).alloc _) f;have x0:=ac f (b:=w.heap.size) (o:=0) (v:=.bool s) (by simp[go_sem]);have m:=ac f (b:=w.heap.size) (o:=1) (v:=.slice p l c) (by simp[go_sem]);have y:=ac f (b:=w.heap.size) (o:=2) (v:=.slice q k d) (by simp[go_sem]);have u:=ac f (b:=w.heap.size+1) (o:=0) (v:=.bool s2) (by simp[go_sem]);have x:=ac f (b:=w.heap.size+1) (o:=1) (v:=.slice p2 l2 c2) (by simp[go_sem]);have t:=ac f (b:=w.heap.size+1) (o:=2) (v:=.slice q2 k2 d2) (by simp[go_sem]))|(go_at_call_of 133 (Value.slice p2 l2 c2);refine(hs2 _ ?q0).mono ?_;(case q0=>exact j);rintro e r ⟨rfl,a⟩;have kb:Kp w r:=Kp.trans j a;have z:=ac a x0;have A:=ac a m;have B:=ac a y;have E:=ac a u;have C:=ac a x;have D:=ac a t))
  first
  |(have h:=i;clear h;exact BR ⟨rfl,kb⟩)
  |(have h:=g;clear h;exact BR ⟨rfl,kb⟩))
theorem CC (S C9:Int)(P1 P2:World->Value->Prop) s p l c q k d s2 p2 l2 c2 q2 k2 d2 (w:World)(hk1:∀(W W':World)(v:Value),Kp W W'->P1 W v->P1 W' v)(hs1:KW w 133 #[.agg #[.bool s,.slice p l c,.slice q k d]] (.int .i64 S))(hs2:KW w 133 #[.agg #[.bool s2,.slice p2 l2 c2,.slice q2 k2 d2]] (.int .i64 S))(hT1:∀W:World,Kp w W->Calls prog 135 #[.slice p l c,.slice q2 k2 d2] W fun e w'=>∃v,e=.returned v∧P1 w' v∧Kp W w')(hT2:∀W:World,Kp w W->Calls prog 135 #[.slice p2 l2 c2,.slice q k d] W fun e w'=>∃v,e=.returned v∧P2 w' v∧Kp W w')(hC:∀(W:World)(u v:Value),Kp w W->P1 W u->P2 W v->Calls prog 134 #[u,v] W (RT (.int .i64 C9) W))(t3:(S == 0)=true):Calls prog 77 #[.agg #[.bool s,.slice p l c,.slice q k d],.agg #[.bool s2,.slice p2 l2 c2,.slice q2 k2 d2]] w (RT (.int .i64 0) w):=by
 cases s
 ·skip
  go_enter func77,ntmps77
  go_wp2_with (first|(go_at_call_of 133 (Value.slice p l c);refine(hs1 _ ?q0).mono ?_;(case q0=>exact((Kp.refl w).alloc _).alloc _);rintro e wa ⟨rfl,i⟩;have K:Kp w wa:=Kp.trans (((Kp.refl w).alloc _).alloc _) i;have x0:=ac i (b:=w.heap.size) (o:=0) (v:=.bool false) (by simp[go_sem]);have Y:=ac i (b:=w.heap.size) (o:=1) (v:=.slice p l c) (by simp[go_sem]);have x2:=ac i (b:=w.heap.size) (o:=2) (v:=.slice q k d) (by simp[go_sem]);have x3:=ac i (b:=w.heap.size+1) (o:=0) (v:=.bool s2) (by simp[go_sem]);have x4:=ac i (b:=w.heap.size+1) (o:=1) (v:=.slice p2 l2 c2) (by simp[go_sem]);have x5:=ac i (b:=w.heap.size+1) (o:=2) (v:=.slice q2 k2 d2) (by simp[go_sem]))|(go_at_call_of 133 (Value.slice p2 l2 c2);refine(hs2 _ ?q0).mono ?_;(case q0=>exact K);rintro e h ⟨rfl,g⟩;have kb:Kp w h:=Kp.trans K g;have I:=ac g x0;have M:=ac g Y;have N:=ac g x2;have V:=ac g x3;have P:=ac g x4;have Q:=ac g x5))
  have Z:True:=trivial
  have z:h.drew.cell? ⟨w.heap.size,0,none⟩=some (.bool false):=I
  have x:h.drew.cell? ⟨w.heap.size,1,none⟩=some (.slice p l c):=M
  have t:h.drew.cell? ⟨w.heap.size,2,none⟩=some (.slice q k d):=N
  have r:h.drew.cell? ⟨w.heap.size+1,0,none⟩=some (.bool s2):=V
  have n:h.drew.cell? ⟨w.heap.size+1,1,none⟩=some (.slice p2 l2 c2):=P
  have m:h.drew.cell? ⟨w.heap.size+1,2,none⟩=some (.slice q2 k2 d2):=Q
  go_region_held3 (fun w'=>w'.cell? ⟨w.heap.size,0,none⟩=some (.bool false)∧w'.cell? ⟨w.heap.size,1,none⟩=some (.slice p l c)∧w'.cell? ⟨w.heap.size,2,none⟩=some (.slice q k d)∧w'.cell? ⟨w.heap.size+1,0,none⟩=some (.bool s2)∧w'.cell? ⟨w.heap.size+1,1,none⟩=some (.slice p2 l2 c2)∧w'.cell? ⟨w.heap.size+1,2,none⟩=some (.slice q2 k2 d2)) (first|(with_reducible exact⟨z,x,t,r,n,m⟩)|(with_reducible exact⟨B,T,R,U,C,J⟩)|(with_reducible exact⟨D,A,L,H,O,F⟩)|(with_reducible exact⟨e0,e1,e2,e3,e4,e5⟩)) (first|(go_at_call_of 135 (Value.slice p l c);refine(hT1 _ ?q0).mono ?_;(case q0=>exact kb.drew);rintro e wc ⟨u9,rfl,hu,j⟩;have E:Kp w wc:=Kp.trans kb.drew j;have B:=ac (Kp.trans (Kp.drew (Kp.refl _)) j) I;have T:=ac (Kp.trans (Kp.drew (Kp.refl _)) j) M;have R:=ac (Kp.trans (Kp.drew (Kp.refl _)) j) N;have U:=ac (Kp.trans (Kp.drew (Kp.refl _)) j) V;have C:=ac (Kp.trans (Kp.drew (Kp.refl _)) j) P;have J:=ac (Kp.trans (Kp.drew (Kp.refl _)) j) Q)|(go_at_call_of 135 (Value.slice p2 l2 c2);refine(hT2 _ ?q0).mono ?_;(case q0=>exact E);rintro e wd ⟨v9,rfl,hv,a⟩;have G:Kp w wd:=Kp.trans E a;have y:=hk1 _ _ _ a hu;have D:=ac a B;have A:=ac a T;have L:=ac a R;have H:=ac a U;have O:=ac a C;have F:=ac a J)|(go_at_call 134;refine(hC _ u9 v9 G y hv).mono ?_;rintro e we ⟨rfl,f⟩;have X:Kp w we:=Kp.trans G f;have e0:=ac f D;have e1:=ac f A;have e2:=ac f L;have e3:=ac f H;have e4:=ac f O;have e5:=ac f F))
  go_wp2
  exact BR ⟨rfl,X⟩
 ·skip
  go_enter func77,ntmps77
  go_wp2_with (first|(go_at_call_of 133 (Value.slice p l c);refine(hs1 _ ?q0).mono ?_;(case q0=>exact((Kp.refl w).alloc _).alloc _);rintro e wa ⟨rfl,i⟩;have K:Kp w wa:=Kp.trans (((Kp.refl w).alloc _).alloc _) i;have x0:=ac i (b:=w.heap.size) (o:=0) (v:=.bool true) (by simp[go_sem]);have Y:=ac i (b:=w.heap.size) (o:=1) (v:=.slice p l c) (by simp[go_sem]);have x2:=ac i (b:=w.heap.size) (o:=2) (v:=.slice q k d) (by simp[go_sem]);have x3:=ac i (b:=w.heap.size+1) (o:=0) (v:=.bool s2) (by simp[go_sem]);have x4:=ac i (b:=w.heap.size+1) (o:=1) (v:=.slice p2 l2 c2) (by simp[go_sem]);have x5:=ac i (b:=w.heap.size+1) (o:=2) (v:=.slice q2 k2 d2) (by simp[go_sem]))|(go_at_call_of 133 (Value.slice p2 l2 c2);refine(hs2 _ ?q0).mono ?_;(case q0=>exact K);rintro e h ⟨rfl,g⟩;have kb:Kp w h:=Kp.trans K g;have I:=ac g x0;have M:=ac g Y;have N:=ac g x2;have V:=ac g x3;have P:=ac g x4;have Q:=ac g x5))
  have Z:True:=trivial
  have z:h.drew.cell? ⟨w.heap.size,0,none⟩=some (.bool true):=I
  have x:h.drew.cell? ⟨w.heap.size,1,none⟩=some (.slice p l c):=M
  have t:h.drew.cell? ⟨w.heap.size,2,none⟩=some (.slice q k d):=N
  have r:h.drew.cell? ⟨w.heap.size+1,0,none⟩=some (.bool s2):=V
  have n:h.drew.cell? ⟨w.heap.size+1,1,none⟩=some (.slice p2 l2 c2):=P
  have m:h.drew.cell? ⟨w.heap.size+1,2,none⟩=some (.slice q2 k2 d2):=Q
  go_region_held3 (fun w'=>w'.cell? ⟨w.heap.size,0,none⟩=some (.bool true)∧w'.cell? ⟨w.heap.size,1,none⟩=some (.slice p l c)∧w'.cell? ⟨w.heap.size,2,none⟩=some (.slice q k d)∧w'.cell? ⟨w.heap.size+1,0,none⟩=some (.bool s2)∧w'.cell? ⟨w.heap.size+1,1,none⟩=some (.slice p2 l2 c2)∧w'.cell? ⟨w.heap.size+1,2,none⟩=some (.slice q2 k2 d2)) (first|(with_reducible exact⟨z,x,t,r,n,m⟩)|(with_reducible exact⟨B,T,R,U,C,J⟩)|(with_reducible exact⟨D,A,L,H,O,F⟩)|(with_reducible exact⟨e0,e1,e2,e3,e4,e5⟩)) (first|(go_at_call_of 135 (Value.slice p l c);refine(hT1 _ ?q0).mono ?_;(case q0=>exact kb.drew);rintro e wc ⟨u9,rfl,hu,j⟩;have E:Kp w wc:=Kp.trans kb.drew j;have B:=ac (Kp.trans (Kp.drew (Kp.refl _)) j) I;have T:=ac (Kp.trans (Kp.drew (Kp.refl _)) j) M;have R:=ac (Kp.trans (Kp.drew (Kp.refl _)) j) N;have U:=ac (Kp.trans (Kp.drew (Kp.refl _)) j) V;have C:=ac (Kp.trans (Kp.drew (Kp.refl _)) j) P;have J:=ac (Kp.trans (Kp.drew (Kp.refl _)) j) Q)|(go_at_call_of 135 (Value.slice p2 l2 c2);refine(hT2 _ ?q0).mono ?_;(case q0=>exact E);rintro e wd ⟨v9,rfl,hv,a⟩;have G:Kp w wd:=Kp.trans E a;have y:=hk1 _ _ _ a hu;have D:=ac a B;have A:=ac a T;have L:=ac a R;have H:=ac a U;have O:=ac a C;have F:=ac a J)|(go_at_call 134;refine(hC _ u9 v9 G y hv).mono ?_;rintro e we ⟨rfl,f⟩;have X:Kp w we:=Kp.trans G f;have e0:=ac f D;have e1:=ac f A;have e2:=ac f L;have e3:=ac f H;have e4:=ac f O;have e5:=ac f F))
  go_wp2
  exact BR ⟨rfl,X⟩
theorem CD (S C9:Int)(P1 P2:World->Value->Prop)(p:Option Addr)(l c:Nat)(q:Option Addr)(k d:Nat) s2 p2 l2 c2 q2 k2 d2 (w:World)(hk1:∀(W W':World)(v:Value),Kp W W'->P1 W v->P1 W' v)(hs1:KW w 133 #[.agg #[.bool false,.slice p l c,.slice q k d]] (.int .i64 S))(hs2:KW w 133 #[.agg #[.bool s2,.slice p2 l2 c2,.slice q2 k2 d2]] (.int .i64 S))(hT1:∀W:World,Kp w W->Calls prog 135 #[.slice p l c,.slice q2 k2 d2] W fun e w'=>∃v,e=.returned v∧P1 w' v∧Kp W w')(hT2:∀W:World,Kp w W->Calls prog 135 #[.slice p2 l2 c2,.slice q k d] W fun e w'=>∃v,e=.returned v∧P2 w' v∧Kp W w')(hC:∀(W:World)(u v:Value),Kp w W->P1 W u->P2 W v->Calls prog 134 #[u,v] W (RT (.int .i64 C9) W))(t3:(S == 0)=false):Calls prog 77 #[.agg #[.bool false,.slice p l c,.slice q k d],.agg #[.bool s2,.slice p2 l2 c2,.slice q2 k2 d2]] w (RT (.int .i64 C9) w):=by
 go_enter func77,ntmps77
 go_wp2_with (first|(go_at_call_of 133 (Value.slice p l c);refine(hs1 _ ?q0).mono ?_;(case q0=>exact((Kp.refl w).alloc _).alloc _);rintro e wa ⟨rfl,i⟩;have J:Kp w wa:=Kp.trans (((Kp.refl w).alloc _).alloc _) i;have x0:=ac i (b:=w.heap.size) (o:=0) (v:=.bool false) (by simp[go_sem]);have X:=ac i (b:=w.heap.size) (o:=1) (v:=.slice p l c) (by simp[go_sem]);have x2:=ac i (b:=w.heap.size) (o:=2) (v:=.slice q k d) (by simp[go_sem]);have x3:=ac i (b:=w.heap.size+1) (o:=0) (v:=.bool s2) (by simp[go_sem]);have x4:=ac i (b:=w.heap.size+1) (o:=1) (v:=.slice p2 l2 c2) (by simp[go_sem]);have x5:=ac i (b:=w.heap.size+1) (o:=2) (v:=.slice q2 k2 d2) (by simp[go_sem]))|(go_at_call_of 133 (Value.slice p2 l2 c2);refine(hs2 _ ?q0).mono ?_;(case q0=>exact J);rintro e h ⟨rfl,g⟩;have kb:Kp w h:=Kp.trans J g;have H:=ac g x0;have L:=ac g X;have M:=ac g x2;have U:=ac g x3;have O:=ac g x4;have P:=ac g x5))
 have Y:True:=trivial
 have y:h.drew.cell? ⟨w.heap.size,0,none⟩=some (.bool false):=H
 have t:h.drew.cell? ⟨w.heap.size,1,none⟩=some (.slice p l c):=L
 have s:h.drew.cell? ⟨w.heap.size,2,none⟩=some (.slice q k d):=M
 have r:h.drew.cell? ⟨w.heap.size+1,0,none⟩=some (.bool s2):=U
 have n:h.drew.cell? ⟨w.heap.size+1,1,none⟩=some (.slice p2 l2 c2):=O
 have m:h.drew.cell? ⟨w.heap.size+1,2,none⟩=some (.slice q2 k2 d2):=P
 go_region_held3 (fun w'=>w'.cell? ⟨w.heap.size,0,none⟩=some (.bool false)∧w'.cell? ⟨w.heap.size,1,none⟩=some (.slice p l c)∧w'.cell? ⟨w.heap.size,2,none⟩=some (.slice q k d)∧w'.cell? ⟨w.heap.size+1,0,none⟩=some (.bool s2)∧w'.cell? ⟨w.heap.size+1,1,none⟩=some (.slice p2 l2 c2)∧w'.cell? ⟨w.heap.size+1,2,none⟩=some (.slice q2 k2 d2)) (first|(with_reducible exact⟨y,t,s,r,n,m⟩)|(with_reducible exact⟨A,R,Q,T,B,I⟩)|(with_reducible exact⟨C,z,K,G,N,E⟩)|(with_reducible exact⟨e0,e1,Z,e3,e4,e5⟩)) (first|(go_at_call_of 135 (Value.slice p l c);refine(hT1 _ ?q0).mono ?_;(case q0=>exact kb.drew);rintro e wc ⟨u9,rfl,hu,j⟩;have D:Kp w wc:=Kp.trans kb.drew j;have A:=ac (Kp.trans (Kp.drew (Kp.refl _)) j) H;have R:=ac (Kp.trans (Kp.drew (Kp.refl _)) j) L;have Q:=ac (Kp.trans (Kp.drew (Kp.refl _)) j) M;have T:=ac (Kp.trans (Kp.drew (Kp.refl _)) j) U;have B:=ac (Kp.trans (Kp.drew (Kp.refl _)) j) O;have I:=ac (Kp.trans (Kp.drew (Kp.refl _)) j) P)|(go_at_call_of 135 (Value.slice p2 l2 c2);refine(hT2 _ ?q0).mono ?_;(case q0=>exact D);rintro e wd ⟨v9,rfl,hv,a⟩;have F:Kp w wd:=Kp.trans D a;have x:=hk1 _ _ _ a hu;have C:=ac a A;have z:=ac a R;have K:=ac a Q;have G:=ac a T;have N:=ac a B;have E:=ac a I)|(go_at_call 134;refine(hC _ u9 v9 F x hv).mono ?_;rintro e we ⟨rfl,f⟩;have V:Kp w we:=Kp.trans F f;have e0:=ac f C;have e1:=ac f z;have Z:=ac f K;have e3:=ac f G;have e4:=ac f N;have e5:=ac f E))
 go_wp2
 exact BR ⟨rfl,V⟩
theorem CE (S C9:Int)(P1 P2:World->Value->Prop)(p:Option Addr)(l c:Nat)(q:Option Addr)(k d:Nat) s2 p2 l2 c2 q2 k2 d2 (w:World)(hk1:∀(W W':World)(v:Value),Kp W W'->P1 W v->P1 W' v)(hs1:KW w 133 #[.agg #[.bool true,.slice p l c,.slice q k d]] (.int .i64 S))(hs2:KW w 133 #[.agg #[.bool s2,.slice p2 l2 c2,.slice q2 k2 d2]] (.int .i64 S))(hT1:∀W:World,Kp w W->Calls prog 135 #[.slice p l c,.slice q2 k2 d2] W fun e w'=>∃v,e=.returned v∧P1 w' v∧Kp W w')(hT2:∀W:World,Kp w W->Calls prog 135 #[.slice p2 l2 c2,.slice q k d] W fun e w'=>∃v,e=.returned v∧P2 w' v∧Kp W w')(hC:∀(W:World)(u v:Value),Kp w W->P1 W u->P2 W v->Calls prog 134 #[u,v] W (RT (.int .i64 C9) W))(t3:(S == 0)=false)(t4:IntKind.i64.wrap (-C9) = -C9):Calls prog 77 #[.agg #[.bool true,.slice p l c,.slice q k d],.agg #[.bool s2,.slice p2 l2 c2,.slice q2 k2 d2]] w (RT (.int .i64 (-C9)) w):=by
 go_enter func77,ntmps77
 go_wp2_with (first|(go_at_call_of 133 (Value.slice p l c);refine(hs1 _ ?q0).mono ?_;(case q0=>exact((Kp.refl w).alloc _).alloc _);rintro e wa ⟨rfl,i⟩;have J:Kp w wa:=Kp.trans (((Kp.refl w).alloc _).alloc _) i;have x0:=ac i (b:=w.heap.size) (o:=0) (v:=.bool true) (by simp[go_sem]);have X:=ac i (b:=w.heap.size) (o:=1) (v:=.slice p l c) (by simp[go_sem]);have x2:=ac i (b:=w.heap.size) (o:=2) (v:=.slice q k d) (by simp[go_sem]);have x3:=ac i (b:=w.heap.size+1) (o:=0) (v:=.bool s2) (by simp[go_sem]);have x4:=ac i (b:=w.heap.size+1) (o:=1) (v:=.slice p2 l2 c2) (by simp[go_sem]);have x5:=ac i (b:=w.heap.size+1) (o:=2) (v:=.slice q2 k2 d2) (by simp[go_sem]))|(go_at_call_of 133 (Value.slice p2 l2 c2);refine(hs2 _ ?q0).mono ?_;(case q0=>exact J);rintro e h ⟨rfl,g⟩;have kb:Kp w h:=Kp.trans J g;have H:=ac g x0;have L:=ac g X;have M:=ac g x2;have U:=ac g x3;have O:=ac g x4;have P:=ac g x5))
 have Y:True:=trivial
 have y:h.drew.cell? ⟨w.heap.size,0,none⟩=some (.bool true):=H
 have t:h.drew.cell? ⟨w.heap.size,1,none⟩=some (.slice p l c):=L
 have s:h.drew.cell? ⟨w.heap.size,2,none⟩=some (.slice q k d):=M
 have r:h.drew.cell? ⟨w.heap.size+1,0,none⟩=some (.bool s2):=U
 have n:h.drew.cell? ⟨w.heap.size+1,1,none⟩=some (.slice p2 l2 c2):=O
 have m:h.drew.cell? ⟨w.heap.size+1,2,none⟩=some (.slice q2 k2 d2):=P
 go_region_held3 (fun w'=>w'.cell? ⟨w.heap.size,0,none⟩=some (.bool true)∧w'.cell? ⟨w.heap.size,1,none⟩=some (.slice p l c)∧w'.cell? ⟨w.heap.size,2,none⟩=some (.slice q k d)∧w'.cell? ⟨w.heap.size+1,0,none⟩=some (.bool s2)∧w'.cell? ⟨w.heap.size+1,1,none⟩=some (.slice p2 l2 c2)∧w'.cell? ⟨w.heap.size+1,2,none⟩=some (.slice q2 k2 d2)) (first|(with_reducible exact⟨y,t,s,r,n,m⟩)|(with_reducible exact⟨A,R,Q,T,B,I⟩)|(with_reducible exact⟨C,z,K,G,N,E⟩)|(with_reducible exact⟨e0,e1,Z,e3,e4,e5⟩)) (first|(go_at_call_of 135 (Value.slice p l c);refine(hT1 _ ?q0).mono ?_;(case q0=>exact kb.drew);rintro e wc ⟨u9,rfl,hu,j⟩;have D:Kp w wc:=Kp.trans kb.drew j;have A:=ac (Kp.trans (Kp.drew (Kp.refl _)) j) H;have R:=ac (Kp.trans (Kp.drew (Kp.refl _)) j) L;have Q:=ac (Kp.trans (Kp.drew (Kp.refl _)) j) M;have T:=ac (Kp.trans (Kp.drew (Kp.refl _)) j) U;have B:=ac (Kp.trans (Kp.drew (Kp.refl _)) j) O;have I:=ac (Kp.trans (Kp.drew (Kp.refl _)) j) P)|(go_at_call_of 135 (Value.slice p2 l2 c2);refine(hT2 _ ?q0).mono ?_;(case q0=>exact D);rintro e wd ⟨v9,rfl,hv,a⟩;have F:Kp w wd:=Kp.trans D a;have x:=hk1 _ _ _ a hu;have C:=ac a A;have z:=ac a R;have K:=ac a Q;have G:=ac a T;have N:=ac a B;have E:=ac a I)|(go_at_call 134;refine(hC _ u9 v9 F x hv).mono ?_;rintro e we ⟨rfl,f⟩;have V:Kp w we:=Kp.trans F f;have e0:=ac f C;have e1:=ac f z;have Z:=ac f K;have e3:=ac f G;have e4:=ac f N;have e5:=ac f E))
 go_wp2
 exact BR ⟨rfl,V⟩
theorem oI (p q:Option Addr)(c d:Nat)(xs ys:List Int)(w:World)(hx:Arr w p xs)(hy:Arr w q ys)(hwx:Wd xs)(hwy:Wd ys)(lx:xs.length<=16777216)(ly:ys.length<=16777216) :
  Calls prog 135 #[.slice p xs.length c,.slice q ys.length d] w fun e w'=>∃v,e=.returned v∧Own w' w.heap.size v (az (val xs*val ys))∧Kp w w':=by
 have h1:=dD.2 p c xs w hx (by omega)
 have h2:=dD.2 q d ys w hy (by omega)
 have lS:=dJ xs
 have lT:=dJ ys
 have t:=el xs
 have x:=el ys
 obtain⟨N,I⟩:=aA xs.length
 obtain⟨M,H⟩:=aA ys.length
 obtain⟨S,hS⟩:=aA (tl xs)
 obtain⟨T,hT⟩:=aA (tl ys)
 rw[<-hS]at h1 lS t
 rw[<-hT]at h2 lT x
 have bL:∀w:World,(Instr.makeSlice 55 (.int .i64 ((S:Int)+(T:Int))) (.int .i64 ((S:Int)+(T:Int)))).run prog w=.ok (.slice (some ⟨w.heap.size,0,none⟩) (S+T) (S+T)) (w.alloc (.cells (madeCells #[.int .u32 0] (S+T)) 120)):=by
  have:=mN (S+T) (by omega)
  simpa using this
 have a6:Kp w (w.alloc (.cells (madeCells #[.int .u32 0] (S+T)) 120)):=(Kp.refl w).alloc _
 have K:Rw (w.alloc (.cells (madeCells #[.int .u32 0] (S+T)) 120)) w.heap.size (S+T) (List.replicate (S+T) 0):=World.rowIs.congr (World.rowIs_made w (.int .u32 0) (S+T) 120) (fun j _=>by rw[cJ])
 obtain⟨z,y⟩:=aA (List.replicate (S+T) (0:Int))
 have W:z.length=S+T:=by rw[y];simp
 have R:Wd z:=by rw[y];exact pB _
 have D:∀j,z.getD j 0=0:=fun j=>by rw[y];exact cJ _ _
 have U:=fG z D
 rw[<-y]at K
 have HX:Hid (Arr w p xs∧Wd xs∧val (xs.take S)=val xs):=⟨hx,hwx,t⟩
 have HY:Hid (Arr w q ys∧Wd ys∧val (ys.take T)=val ys):=⟨hy,hwy,x⟩
 have HN:Hid (N=xs.length∧M=ys.length):=⟨I,H⟩
 obtain⟨g,hg⟩:=aA w.heap.size
 rw[<-hg]at K
 have HG:Hid (g=w.heap.size):=hg
 rw[<-I]at lx h1 lS|-
 rw[<-H]at ly h2 lT|-
 clear hx hy hwx hwy I H y hS hT t x
 go_enter func135,ntmps135
 go_wp2_with fail
 refine SM h1 ?_
 go_wp2_with fail
 refine SM h2 ?_
 go_wp2
 rw[<-hg]
 clear bL hg h1 h2
 go_loopw [8] (fun i wr=>∃(k:Nat)(o:List Int),i=.int .i64 k∧k<=T∧Rw wr g (S+T) o∧o.length=S+T∧Wd o∧val o=val (ys.take k)*val xs∧(∀j,k+S<=j->o.getD j 0=0)∧Kp w wr) (fun i _=>T-(intOf i).toNat)
 case atStart=>exact⟨0,z,rfl,aW _,K,W,R,by rw[U];simp[val],fun j _=>D j,a6⟩
 case round =>
  clear K W R D U a6
  obtain⟨k,o,rfl,hk,a,r,E,u,L,f⟩:=hrel
  obtain⟨I,H⟩:=HN.out
  by_cases ck:k<T
  ·obtain⟨b,cU,rfl,hc⟩:=HY.out.1.at (k:=k) (by omega)
   have e0:=hc k (by omega)
   have V:=ac f e0
   have wy:=HY.out.2.1 k
   have s:=qd ys k (val xs)
   obtain⟨Y,hY⟩:∃Y:Nat,(Y:Int)=ys.getD k 0:=⟨(ys.getD k 0).toNat,by omega⟩
   rw[<-hY]at V wy s
   rw[av]at s
   have i0:(0:Int)<=(k:Int):=by omega
   have i1:(k:Int)<(T:Int):=by omega
   have c5:(k:Int)<(M:Int):=by omega
   by_cases cY:Y=0
   ·subst cY
    have cb:val o=val (ys.take (k+1))*val xs:=by rw[<-s,u];simp
    have t1:(((0:Nat):Int) == 0)=true:=by simp
    clear hc e0 HX HY HN HG I H hY wy s u
    go_wp2
    exact⟨⟨k+1,o,by go_num,by omega,a,r,E,cb,fun j hj=>L j (by omega),f⟩,by simp[intOf];omega⟩
   ·have t1:((Y:Int) == 0)=false:=by simp;omega
    have fY:IntKind.u64.wrap (Y:Int)=(Y:Int):=by rw[IntKind.wrap_u64];omega
    have a8:Y<4294967296:=by omega
    have HV:Hid (val o+val xs*Y*4294967296^k=val (ys.take (k+1))*val xs∧(∀j,k+S<=j->o.getD j 0=0)):=⟨by rw[u];exact s,L⟩
    clear hc e0 HY I H hY wy s u L
    go_wp2
    clear t1 fY
    go_loopw [10,11] (fun cc ii wq=>∃(m C:Nat)(h:List Int),cc=.int .u64 (C:Int)∧ii=.int .i64 m∧m<=S∧Rw wq g (S+T) h∧h.length=S+T∧Wd h∧C<4294967296∧val h+C*4294967296^(k+m)=val o+val (xs.take m)*Y*4294967296^k∧(∀j,k+m<=j->h.getD j 0=o.getD j 0)∧Kp w wq) (fun _ i _=>S-(intOf i).toNat)
    case atStart=>exact⟨0,0,o,rfl,rfl,aW _,a,r,E,by omega,by simp[val],fun j _=>rfl,f⟩
    case round =>
     clear a E f V
     obtain⟨m,C,h,rfl,rfl,hm,a,J,F,hC,u,l,f⟩:=hrel
     obtain⟨I,H⟩:=HN.out
     by_cases cm:m<S
     ·obtain⟨b',a3,rfl,a7⟩:=HX.out.1.at (k:=m) (by omega)
      have e2:=ac f (a7 m (by omega))
      have V:=World.rowIs.cell a (i:=m+k) (by omega)
      have wx:=HX.out.2.1 m
      have wz:=F (m+k)
      obtain⟨X,hX⟩:∃X:Nat,(X:Int)=xs.getD m 0:=⟨(xs.getD m 0).toNat,by omega⟩
      obtain⟨B,O⟩:∃B:Nat,(B:Int)=h.getD (m+k) 0:=⟨(h.getD (m+k) 0).toNat,by omega⟩
      rw[<-hX]at e2
      rw[<-O]at V
      have a2:=kt X Y C B (by omega) a8 hC (by omega)
      obtain⟨P,hP⟩:=aA (X*Y)
      rw[<-hP]at a2
      obtain⟨Q,hQ⟩:∃Q:Nat,Q=(B:Int).toNat+((P:Nat):Int).toNat+C:=⟨_,rfl⟩
      rw[dz m k]at O
      have A:=jT h (k+m) C Q _ (B:Int) (P:Int) (by omega) O.symm hQ u
      simp only[av]at hQ A
      have an:=jl xs Y k m
      rw[<-hX,av,<-hP]at an
      rw[dH (val o),<-an,dH k m 1]at A
      have f1:IntKind.u64.wrap (X:Int)=(X:Int):=by rw[IntKind.wrap_u64];omega
      have f2:IntKind.u64.wrap ((X:Int)*(Y:Int))=(P:Int):=by
       have:(X:Int)*(Y:Int)=(P:Int):=by rw[hP];exact(aK X Y).symm
       rw[this,IntKind.wrap_u64];omega
      have f3:IntKind.u64.wrap (B:Int)=(B:Int):=by rw[IntKind.wrap_u64];omega
      have f4:IntKind.u64.wrap ((C:Int)+(B:Int))=(C:Int)+(B:Int):=by rw[IntKind.wrap_u64];omega
      have f5:IntKind.u64.wrap ((C:Int)+(B:Int)+(P:Int))=(Q:Int):=by rw[IntKind.wrap_u64];omega
      have f8:=kK Q (by omega)
      obtain⟨Z,hZ⟩:∃Z:Nat,Z=Q%4294967296:=⟨_,rfl⟩
      obtain⟨C',a5⟩:∃C':Nat,C'=Q/4294967296:=⟨_,rfl⟩
      rw[<-hZ]at f8
      have f6:IntKind.u32.wrap (Z:Int)=(Z:Int):=by rw[IntKind.wrap_u32];omega
      have f7:(Q:Int)/4294967296=(C':Int):=by omega
      rw[<-hZ,<-a5]at A
      have b3:C'<4294967296:=by omega
      have bq:Wd (h.set (m+k) (Z:Int)):=F.set (m+k) Z (by omega)
      have ch:(h.set (m+k) (Z:Int)).length=S+T:=by rw[bg];exact J
      have aj:∀j,k+(m+1)<=j->(h.set (m+k) (Z:Int)).getD j 0=o.getD j 0:=fun j h1=>by
       rw[<-l j (by omega)];simp[List.getD,show ¬m+k=j from by omega]
      have bb:k+m=m+k:=dz k m
      rw[bb]at A
      clear bb
      have bp:m+k<h.length:=by omega
      have a4:m+k<S+T:=by omega
      have j0:(0:Int)<=(m:Int):=by omega
      have j1:(m:Int)<(S:Int):=by omega
      have j2:(m:Int)<(N:Int):=by omega
      have j3:(0:Int)<=(m:Int)+(k:Int):=by omega
      have j4:(m:Int)+(k:Int)<(S:Int)+(T:Int):=by omega
      have au:w.heap.size<=g:=by rw[HG.out];exact ao _
      clear a7 HX HN HG I H hX O hZ a5 hQ u hP an wx wz F hC l J a2 HV r
      go_wp2
      refine eF (by kernel_rfl) (by kernel_rfl) (fun ι _ G hG hall=>?_)
      have c0:∀n,(G n).cell? ⟨g,m+k,none⟩=some (.int .u32 (B:Int)):=fun n=>ac (hG n) V
      have c1:∀n,(G n).cell? ⟨b',a3+m,none⟩=some (.int .u32 (X:Int)):=fun n=>ac (hG n) e2
      repeat(go_big_quiet_step (fail))
      refine wpQuiet_nil ?_
      rintro _ ⟨nq,rfl⟩
      have gq:=hG nq
      replace a:=a.grown gq
      have e3:=World.rowIs.cell a (i:=m+k) a4
      have e4:=World.rowIs.frozen a (m+k)
      have hR:=a.set (m+k) (Z:Int) bp
      have hK:=(f.trans gq).setCell (p:=⟨g,m+k,none⟩) au (.int .u32 (Z:Int))
      clear c0 c1 hall hG gq V e2 a f
      go_wp2
      exact⟨⟨m+1,C',h.set (m+k) (Z:Int),by go_num,by go_num,by omega,hR,ch,bq,b3,A,aj,hK⟩,by simp[intOf];omega⟩
     ·have ca:m=S:=by omega
      subst ca
      have t:=HX.out.2.2
      rw[t]at u
      obtain⟨a9,ad⟩:=HV.out
      have bf:h.getD (k+m) 0=0:=by rw[l _ (ao _)];exact ad _ (ao _)
      have ab:=fK h (k+m) (C:Int) (by omega)
      rw[bf,av,u,a9]at ab
      have bB:val (h.set (k+m) (C:Int))=val (ys.take (k+1))*val xs:=by simpa using ab
      have au:w.heap.size<=g:=by rw[HG.out];exact ao _
      have hR:=a.set (k+m) (C:Int) (by omega)
      have hK:Kp w (wr.setCell ⟨g,k+m,none⟩ (.int .u32 (C:Int))):=f.setCell au _
      have b4:Wd (h.set (k+m) (C:Int)):=F.set _ _ (by omega)
      have bR:(h.set (k+m) (C:Int)).length=m+T:=by rw[bg];exact J
      have b5:∀j,k+1+m<=j->(h.set (k+m) (C:Int)).getD j 0=0:=fun j hj=>by
       have V:(h.set (k+m) (C:Int)).getD j 0=h.getD j 0:=by simp[List.getD,show ¬k+m=j from by omega]
       rw[V,l j (by omega)]
       exact ad j (by omega)
      have e3:=World.rowIs.cell a (i:=k+m) (by omega)
      have e4:=World.rowIs.frozen a (k+m)
      have f6:IntKind.u32.wrap (C:Int)=(C:Int):=by rw[IntKind.wrap_u32];omega
      have i2:¬((m:Int)<(m:Int)):=by omega
      have j3:(0:Int)<=(k:Int)+(m:Int):=by omega
      have j4:(k:Int)+(m:Int)<(m:Int)+(T:Int):=by omega
      clear HX HN HG I H u ab l f a HV a9 ad t F J bf hC cm hm r
      go_wp2
      exact⟨⟨k+1,h.set (k+m) (C:Int),by go_num,by omega,hR,bR,b4,bB,b5,hK⟩,by simp[intOf];omega⟩
  ·have b1:k=T:=by omega
   subst b1
   have x:=HY.out.2.2
   rw[x]at u
   have hA:=a.arr (S+k) (ao _) (by omega)
   rw[aY (by omega)]at hA
   have aa:=iy (some ⟨g,0,none⟩) (S+k) o wr hA (by omega)
   rw[eZ o E,u,r,ap]at aa
   have ce:=f.size
   have i2:¬((k:Int)<(k:Int)):=by omega
   clear hA a r E u HX HY HN HG I H L x hk ck
   go_wp2_with fail
   refine aa.mono ?_
   rintro e w2 ⟨v2,rfl,bE,cg⟩
   clear aa
   go_wp2
   exact BR ⟨v2,rfl,bE.mono ce,f.trans cg⟩
theorem oz (v1 v2:Value)(a b:Nat)(w:World)(h1:Ls w v1 (az a))(h2:Ls w v2 (az b))(l1:aS a<=16384)(l2:aS b<=16384) :
  Calls prog 135 #[v1,v2] w fun e w'=>∃p c,e=.returned (.slice p (az (a*b)).length c)∧Arr w' p (az (a*b))∧(az (a*b)).length<=c∧Kp w w':=by
 obtain⟨p,c,rfl,j,l⟩:=h1
 obtain⟨q,d,rfl,i,m⟩:=h2
 have h:=oI p q c d (az a) (az b) w j i (bC a) (bC b) (by change aS a<=_;omega) (by change aS b<=_;omega)
 rw[aV,aV]at h
 refine h.mono ?_
 rintro e w' ⟨v,h1,h2,g⟩
 obtain⟨p,c,rfl,f,k⟩:=h2.arr
 exact⟨p,c,h1,f,k,g⟩

def fC (s:Bool)(a:Nat):Int:=if s then -(a:Int) else a
def eh (x y:Int):Int:=if x<y then -1 else if y<x then 1 else 0
theorem wK s p l c q k d s2 p2 l2 c2 q2 k2 d2 (a b x y:Nat)(B1 B2:Nat)(w:World)(h1:Own w B1 (.slice p l c) (az a))(h2:Own w B1 (.slice q k d) (az b))(h3:Own w B2 (.slice p2 l2 c2) (az x))(h4:Own w B2 (.slice q2 k2 d2) (az y))(zb:b≠0)(zy:y≠0)(la:aq a<=200000)(lb:aq b<=200000)(lx:aq x<=200000)(ly:aq y<=200000):Calls prog 77 #[.agg #[.bool s,.slice p l c,.slice q k d],.agg #[.bool s2,.slice p2 l2 c2,.slice q2 k2 d2]] w (RT (.int .i64 (eh (fC s a*y) (fC s2 x*b))) w):=by
 have m:∀W:World,Kp w W->Calls prog 133 #[.agg #[.bool s,.slice p l c,.slice q k d]] W (fun e w'=>e=.returned (.int .i64 (if a=0 then 0 else if s then -1 else 1))∧Kp W w'):=fun W g=>mB s _ _ a W (h1.kp g).ls (by omega)
 have j:∀W:World,Kp w W->Calls prog 133 #[.agg #[.bool s2,.slice p2 l2 c2,.slice q2 k2 d2]] W (fun e w'=>e=.returned (.int .i64 (if x=0 then 0 else if s2 then -1 else 1))∧Kp W w'):=fun W g=>mB s2 _ _ x W (h3.kp g).ls (by omega)
 have len:∀z:Nat,aq z<=200000->aS z<=16384:=fun z hz=>dZ z 16384 (by omega)
 have r:∀W:World,Kp w W->Calls prog 135 #[.slice p l c,.slice q2 k2 d2] W fun e w'=>∃v,e=.returned v∧Ls w' v (az (a*y))∧Kp W w':=fun W g=>(oz _ _ a y W (h1.kp g).ls (h4.kp g).ls (len a la) (len y ly)).mono (fun e w' ⟨pp,cc,F,ar,ll,g2⟩=>⟨_,F,⟨pp,cc,rfl,ar,ll⟩,g2⟩)
 have A:∀W:World,Kp w W->Calls prog 135 #[.slice p2 l2 c2,.slice q k d] W fun e w'=>∃v,e=.returned v∧Ls w' v (az (x*b))∧Kp W w':=fun W g=>(oz _ _ x b W (h3.kp g).ls (h2.kp g).ls (len x lx) (len b lb)).mono (fun e w' ⟨pp,cc,F,ar,ll,g2⟩=>⟨_,F,⟨pp,cc,rfl,ar,ll⟩,g2⟩)
 have N:∀u v:Nat,aq u<=200000->aq v<=200000->aq (u*v)<=33554432:=fun u v h1 h2=>by
  obtain⟨D,T⟩:∃D:Nat,D=200000:=⟨_,rfl⟩
  have g:aq (u*v)<=D+D:=by
   rw[ay,ag]
   exact Nat.mul_lt_mul'' ((ay u D).1 (by omega)) ((ay v D).1 (by omega))
  omega
 have H:∀(W:World)(u v:Value),Kp w W->Ls W u (az (a*y))->Ls W v (az (x*b))->Calls prog 134 #[u,v] W (RT (.int .i64 (dW (a*y) (x*b))) W):=fun W u v _ g1 g2=>AG u v (a*y) (x*b) W g1 g2 (N a y la ly) (N x b lx lb)
 have I:∀(W W':World)(v:Value),Kp W W'->Ls W v (az (a*y))->Ls W' v (az (a*y)):=fun W W' v g h=>h.kp g
 have Y:0<y:=by omega
 have X:0<b:=by omega
 have R:∀u v:Nat,0<v->0<u->0<u*v:=fun u v h1 h2=>aQ h2 h1
 obtain⟨i,t⟩:=aA (a*y)
 obtain⟨f,o⟩:=aA (x*b)
 have O:fC s a*(y:Int)=fC s i:=by unfold fC;rw[t];cases s<;>simp[bF]
 have L:fC s2 x*(b:Int)=fC s2 f:=by unfold fC;rw[o];cases s2<;>simp[bF]
 have M:a=0 ↔ i=0:=by rw[t];constructor<;>intro h;rw[h];simp;rcases Nat.mul_eq_zero.1 h with h|h;exact h;omega
 have K:x=0 ↔ f=0:=by rw[o];constructor<;>intro h;rw[h];simp;rcases Nat.mul_eq_zero.1 h with h|h;exact h;omega
 rw[O,L]
 rw[<-t]at r H I
 rw[<-o]at A H
 simp only[M]at m
 simp only[K]at j
 obtain⟨S,B⟩:∃S:Int,S=if i=0 then 0 else if s then -1 else 1:=⟨_,rfl⟩
 obtain⟨U,G⟩:∃U:Int,U=if f=0 then 0 else if s2 then -1 else 1:=⟨_,rfl⟩
 rw[<-B]at m
 rw[<-G]at j
 have C:dW i f=eh (i:Int) f:=by
  unfold dW eh
  by_cases n:i<f
  ·rw[if_pos n,if_pos (show(i:Int)<f by omega)]
  ·rw[if_neg n,if_neg (show ¬(i:Int)<f by omega)]
   by_cases c2:f<i
   ·rw[if_pos c2,if_pos (show(f:Int)<i by omega)]
   ·rw[if_neg c2,if_neg (show ¬(f:Int)<i by omega)]
 clear O L M K t o h1 h2 h3 h4
 have F:S<U->eh (fC s i) (fC s2 f) = -1:=fun g=>by
  rw[B,G]at g
  unfold eh fC
  rw[if_pos]
  by_cases n:i=0<;>by_cases c2:f=0<;>cases s<;>cases s2<;>simp[n,c2]at g|-<;>omega
 have Q:U<S->eh (fC s i) (fC s2 f)=1:=fun g=>by
  rw[B,G]at g
  have:fC s2 f<fC s i:=by
   unfold fC
   by_cases n:i=0<;>by_cases c2:f=0<;>cases s<;>cases s2<;>simp[n,c2]at g|-<;>omega
  unfold eh
  rw[if_neg (by omega),if_pos this]
 rcases bw S U with g|g|g
 ·rw[F g]
  exact tq.1 S U s p l c q k d s2 p2 l2 c2 q2 k2 d2 w m j g
 ·rw[<-g]at j
  by_cases z:i=0
  ·have P:f=0:=by
    rw[B,G,if_pos z]at g
    by_cases c2:f=0
    ·exact c2
    ·rw[if_neg c2]at g;cases s2<;>simp at g
   have E:eh (fC s i) (fC s2 f)=0:=by rw[z,P];cases s<;>cases s2<;>rfl
   rw[E]
   exact CC S _ _ _ s p l c q k d s2 p2 l2 c2 q2 k2 d2 w I m j r A H (by rw[B,if_pos z];rfl)
  ·have J:(S == 0)=false:=by rw[B,if_neg z];cases s<;>rfl
   have V:s=s2:=by
    rw[B,G,if_neg z]at g
    by_cases c2:f=0
    ·rw[if_pos c2]at g;cases s<;>simp at g
    ·rw[if_neg c2]at g;cases s<;>cases s2<;>simp at g|-
   subst V
   cases s
   ·have E:eh (fC false i) (fC false f)=dW i f:=C.symm
    rw[E]
    exact CD S _ _ _ p l c q k d false p2 l2 c2 q2 k2 d2 w I m j r A H J
   ·have E:eh (fC true i) (fC true f) = - dW i f:=by
     rw[C];unfold eh fC
     by_cases n:i<f
     ·rw[if_neg (by simp;omega),if_pos (by simp;omega),if_pos (by omega)];rfl
     ·by_cases c2:f<i
      ·rw[if_pos (by simp;omega),if_neg (by omega),if_pos (by omega)]
      ·rw[if_neg (by simp;omega),if_neg (by simp;omega),if_neg (by omega),if_neg (by omega)];rfl
    have wr:IntKind.i64.wrap (-(dW i f)) = -(dW i f):=by
     rw[C];unfold eh
     by_cases n:(i:Int)<f
     ·rw[if_pos n];decide +kernel
     ·rw[if_neg n]
      by_cases c2:(f:Int)<i
      ·rw[if_pos c2];decide +kernel
      ·rw[if_neg c2];decide +kernel
    rw[E]
    exact CE S _ _ _ p l c q k d true p2 l2 c2 q2 k2 d2 w I m j r A H J wr
 ·rw[Q g]
  exact tq.2 S U s p l c q k d s2 p2 l2 c2 q2 k2 d2 w m j g
theorem Cj (i:Int) s p l c q k d (t1:(i != 0)=true)(w:World):Calls prog 90 #[.agg #[.int .i64 i,.bool s,.slice p l c,.slice q k d]] w (RT (.int .i64 i) w):=by
 go_enter func90,ntmps90
 go_wp2
 exact BR (v:=.int .i64 i) ⟨rfl,(by repeat(with_reducible(first|exact Kp.refl _|apply Kp.alloc)))⟩
theorem Ci (X:Int) s p l c q k d (w:World)(hs:KW w 133 #[.agg #[.bool s,.slice p l c,.slice q k d]] (.int .i64 X)):Calls prog 90 #[.agg #[.int .i64 0,.bool s,.slice p l c,.slice q k d]] w (RT (.int .i64 X) w):=by
 go_enter func90,ntmps90
 go_wp2_with (first|(go_at_call 133;refine(hs _ ?q0).mono ?_;(case q0=>exact(Kp.refl w).alloc _);rintro e a ⟨rfl,f⟩;have b:Kp w a:=Kp.trans ((Kp.refl w).alloc _) f))
 exact BR ⟨rfl,b⟩
theorem nS (i j:Int) s p l c q k d s2 p2 l2 c2 q2 k2 d2 (t1:(i != j)=true)(t2:i<j)(w:World):Calls prog 73 #[.agg #[.int .i64 i,.bool s,.slice p l c,.slice q k d],.agg #[.int .i64 j,.bool s2,.slice p2 l2 c2,.slice q2 k2 d2]] w (RT (.int .i64 (-1)) w):=by
 go_enter func73,ntmps73
 go_wp2
 exact BR (v:=.int .i64 (-1)) ⟨rfl,(by repeat(with_reducible(first|exact Kp.refl _|apply Kp.alloc)))⟩
theorem mV (i j:Int) s p l c q k d s2 p2 l2 c2 q2 k2 d2 (t1:(i != j)=true)(t2:¬(i<j))(w:World):Calls prog 73 #[.agg #[.int .i64 i,.bool s,.slice p l c,.slice q k d],.agg #[.int .i64 j,.bool s2,.slice p2 l2 c2,.slice q2 k2 d2]] w (RT (.int .i64 1) w):=by
 go_enter func73,ntmps73
 go_wp2
 exact BR (v:=.int .i64 1) ⟨rfl,(by repeat(with_reducible(first|exact Kp.refl _|apply Kp.alloc)))⟩
theorem t7 (i:Int) s p l c q k d s2 p2 l2 c2 q2 k2 d2 (t1:(i != 0)=true)(w:World):Calls prog 73 #[.agg #[.int .i64 i,.bool s,.slice p l c,.slice q k d],.agg #[.int .i64 i,.bool s2,.slice p2 l2 c2,.slice q2 k2 d2]] w (RT (.int .i64 0) w):=by
 go_enter func73,ntmps73
 go_wp2
 exact BR (v:=.int .i64 0) ⟨rfl,(by repeat(with_reducible(first|exact Kp.refl _|apply Kp.alloc)))⟩
theorem yt (X:Int) s p l c q k d s2 p2 l2 c2 q2 k2 d2 (w:World)(hs:KW w 77 #[.agg #[.bool s,.slice p l c,.slice q k d],.agg #[.bool s2,.slice p2 l2 c2,.slice q2 k2 d2]] (.int .i64 X)):Calls prog 73 #[.agg #[.int .i64 0,.bool s,.slice p l c,.slice q k d],.agg #[.int .i64 0,.bool s2,.slice p2 l2 c2,.slice q2 k2 d2]] w (RT (.int .i64 X) w):=by
 go_enter func73,ntmps73
 go_wp2_with (first|(go_at_call 77;refine(hs _ ?q0).mono ?_;(case q0=>exact((Kp.refl w).alloc _).alloc _);rintro e a ⟨rfl,f⟩;have b:Kp w a:=Kp.trans (((Kp.refl w).alloc _).alloc _) f))
 exact BR ⟨rfl,b⟩
theorem qJ (i j X:Int) s p l c q k d s2 p2 l2 c2 q2 k2 d2 (t1:X<0)(w:World)(hs:KW w 73 #[.agg #[.int .i64 j,.bool s2,.slice p2 l2 c2,.slice q2 k2 d2],.agg #[.int .i64 i,.bool s,.slice p l c,.slice q k d]] (.int .i64 X)):Calls prog 122 #[.agg #[.int .i64 i,.bool s,.slice p l c,.slice q k d],.agg #[.int .i64 j,.bool s2,.slice p2 l2 c2,.slice q2 k2 d2]] w (RT (.agg #[.int .i64 j,.bool s2,.slice p2 l2 c2,.slice q2 k2 d2]) w):=by
 go_enter func122,ntmps122
 go_wp2_with (first|(go_at_call 73;refine(hs _ ?q0).mono ?_;(case q0=>exact(((Kp.refl w).alloc _).alloc _).alloc _);rintro e m ⟨rfl,a⟩;have g:Kp w m:=Kp.trans ((((Kp.refl w).alloc _).alloc _).alloc _) a;obtain⟨x0,o,F,A,L,E,I,x⟩:=rt a (w.heap.size) (.int .i64 i) (.bool s) (.slice p l c) (.slice q k d) (by simp[go_sem]);obtain⟨K,D,H,y,G,b,J,z⟩:=rt a (w.heap.size+1) (.int .i64 j) (.bool s2) (.slice p2 l2 c2) (.slice q2 k2 d2) (by simp[go_sem]);obtain⟨u,r,h,f,n,C,t,B⟩:=rt a (w.heap.size+2) (.int .i64 0) (.bool false) (.slice none 0 0) (.slice none 0 0) (by simp[go_sem])))
 exact BR (v:=.agg #[.int .i64 j,.bool s2,.slice p2 l2 c2,.slice q2 k2 d2]) ⟨rfl,yK (g) (by omega)⟩ (by simp[results,results122,go_sem,u,h,n,t])
theorem qK (i j X:Int) s p l c q k d s2 p2 l2 c2 q2 k2 d2 (t1:¬(X<0))(w:World)(hs:KW w 73 #[.agg #[.int .i64 j,.bool s2,.slice p2 l2 c2,.slice q2 k2 d2],.agg #[.int .i64 i,.bool s,.slice p l c,.slice q k d]] (.int .i64 X)):Calls prog 122 #[.agg #[.int .i64 i,.bool s,.slice p l c,.slice q k d],.agg #[.int .i64 j,.bool s2,.slice p2 l2 c2,.slice q2 k2 d2]] w (RT (.agg #[.int .i64 i,.bool s,.slice p l c,.slice q k d]) w):=by
 go_enter func122,ntmps122
 go_wp2_with (first|(go_at_call 73;refine(hs _ ?q0).mono ?_;(case q0=>exact(((Kp.refl w).alloc _).alloc _).alloc _);rintro e m ⟨rfl,a⟩;have g:Kp w m:=Kp.trans ((((Kp.refl w).alloc _).alloc _).alloc _) a;obtain⟨x0,o,F,A,L,E,I,x⟩:=rt a (w.heap.size) (.int .i64 i) (.bool s) (.slice p l c) (.slice q k d) (by simp[go_sem]);obtain⟨K,D,H,y,G,b,J,z⟩:=rt a (w.heap.size+1) (.int .i64 j) (.bool s2) (.slice p2 l2 c2) (.slice q2 k2 d2) (by simp[go_sem]);obtain⟨u,r,h,f,n,C,t,B⟩:=rt a (w.heap.size+2) (.int .i64 0) (.bool false) (.slice none 0 0) (.slice none 0 0) (by simp[go_sem])))
 exact BR (v:=.agg #[.int .i64 i,.bool s,.slice p l c,.slice q k d]) ⟨rfl,yK (g) (by omega)⟩ (by simp[results,results122,go_sem,u,h,n,t])
theorem kZ (i j X:Int) s p l c q k d s2 p2 l2 c2 q2 k2 d2 (t1:0<X)(w:World)(hs:KW w 73 #[.agg #[.int .i64 j,.bool s2,.slice p2 l2 c2,.slice q2 k2 d2],.agg #[.int .i64 i,.bool s,.slice p l c,.slice q k d]] (.int .i64 X)):Calls prog 123 #[.agg #[.int .i64 i,.bool s,.slice p l c,.slice q k d],.agg #[.int .i64 j,.bool s2,.slice p2 l2 c2,.slice q2 k2 d2]] w (RT (.agg #[.int .i64 j,.bool s2,.slice p2 l2 c2,.slice q2 k2 d2]) w):=by
 go_enter func123,ntmps123
 go_wp2_with (first|(go_at_call 73;refine(hs _ ?q0).mono ?_;(case q0=>exact(((Kp.refl w).alloc _).alloc _).alloc _);rintro e m ⟨rfl,a⟩;have g:Kp w m:=Kp.trans ((((Kp.refl w).alloc _).alloc _).alloc _) a;obtain⟨x0,o,F,A,L,E,I,x⟩:=rt a (w.heap.size) (.int .i64 i) (.bool s) (.slice p l c) (.slice q k d) (by simp[go_sem]);obtain⟨K,D,H,y,G,b,J,z⟩:=rt a (w.heap.size+1) (.int .i64 j) (.bool s2) (.slice p2 l2 c2) (.slice q2 k2 d2) (by simp[go_sem]);obtain⟨u,r,h,f,n,C,t,B⟩:=rt a (w.heap.size+2) (.int .i64 0) (.bool false) (.slice none 0 0) (.slice none 0 0) (by simp[go_sem])))
 exact BR (v:=.agg #[.int .i64 j,.bool s2,.slice p2 l2 c2,.slice q2 k2 d2]) ⟨rfl,yK (g) (by omega)⟩ (by simp[results,results123,go_sem,u,h,n,t])
theorem k9 (i j X:Int) s p l c q k d s2 p2 l2 c2 q2 k2 d2 (t1:¬(0<X))(w:World)(hs:KW w 73 #[.agg #[.int .i64 j,.bool s2,.slice p2 l2 c2,.slice q2 k2 d2],.agg #[.int .i64 i,.bool s,.slice p l c,.slice q k d]] (.int .i64 X)):Calls prog 123 #[.agg #[.int .i64 i,.bool s,.slice p l c,.slice q k d],.agg #[.int .i64 j,.bool s2,.slice p2 l2 c2,.slice q2 k2 d2]] w (RT (.agg #[.int .i64 i,.bool s,.slice p l c,.slice q k d]) w):=by
 go_enter func123,ntmps123
 go_wp2_with (first|(go_at_call 73;refine(hs _ ?q0).mono ?_;(case q0=>exact(((Kp.refl w).alloc _).alloc _).alloc _);rintro e m ⟨rfl,a⟩;have g:Kp w m:=Kp.trans ((((Kp.refl w).alloc _).alloc _).alloc _) a;obtain⟨x0,o,F,A,L,E,I,x⟩:=rt a (w.heap.size) (.int .i64 i) (.bool s) (.slice p l c) (.slice q k d) (by simp[go_sem]);obtain⟨K,D,H,y,G,b,J,z⟩:=rt a (w.heap.size+1) (.int .i64 j) (.bool s2) (.slice p2 l2 c2) (.slice q2 k2 d2) (by simp[go_sem]);obtain⟨u,r,h,f,n,C,t,B⟩:=rt a (w.heap.size+2) (.int .i64 0) (.bool false) (.slice none 0 0) (.slice none 0 0) (by simp[go_sem])))
 exact BR (v:=.agg #[.int .i64 i,.bool s,.slice p l c,.slice q k d]) ⟨rfl,yK (g) (by omega)⟩ (by simp[results,results123,go_sem,u,h,n,t])
end Go.Proofs.YtmpjcknaelgnoaaGreatDoor
