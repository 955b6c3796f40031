import Derived.Test.YtmpjcknaelgnoaaGreatDoorKET
import Derived.Deep.CutRange
set_option maxHeartbeats 4000000
set_option maxRecDepth 20000
namespace Go.Proofs.YtmpjcknaelgnoaaGreatDoor
set_option linter.all false
open Go.RowKit Tryz
theorem qW (w:World):Calls prog 74 #[.int .i64 0] w fun e w'=>∃s p l c q k d,e=.returned (.agg #[.int .i64 0,.bool s,.slice p l c,.slice q k d])∧RP w.heap.size w' s p l c q k d false 0∧Kp w w':=by
 go_enter func74,ntmps74
 go_wp2_with (first|(go_at_call 118;refine(mS _).mono ?_;rintro e r ⟨s,p,l,c,q,k,d,rfl,o,a⟩;obtain⟨j,h,f,b,g,n,i,m⟩:=rt a (w.heap.size) (.int .i64 0) (.bool false) (.slice none 0 0) (.slice none 0 0) (by simp[go_sem])))
 exact BR (v:=.agg #[.int .i64 0,.bool s,.slice p l c,.slice q k d]) ⟨s,p,l,c,q,k,d,rfl,RP.mono (((((o).set (x:=⟨w.heap.size,0,none⟩) (by simp) (.int .i64 0)).set (x:=⟨w.heap.size,1,none⟩) (by simp) (.bool s)).set (x:=⟨w.heap.size,2,none⟩) (by simp) (.slice p l c)).set (x:=⟨w.heap.size,3,none⟩) (by simp) (.slice q k d)) (by simp),yK ((Kp.trans ((Kp.refl w).alloc _) a)) (ao _)⟩ (by simp[results,results74,go_sem,j,f,g,i])
set_option maxHeartbeats 20000000 in
theorem Bk:(∀(X Y:Int)(hr:KC 98 #[.agg #[.int .u64 X,.int .u64 Y]] (.agg #[.int .u64 9218868437227405312,.int .u64 18442240474082181120]))(w:World),Calls prog 47 #[.agg #[.int .u64 X,.int .u64 Y]] w fun e w'=>∃(s:Bool)(p:Option Addr)(l c:Nat)(q:Option Addr)(k d:Nat)(s2:Bool)(p2:Option Addr)(l2 c2:Nat)(q2:Option Addr)(k2 d2:Nat),e=.returned (.agg #[.bool true,.int .i64 0,.bool s,.slice p l c,.slice q k d,.int .i64 0,.bool s2,.slice p2 l2 c2,.slice q2 k2 d2])∧RP w.heap.size w' s p l c q k d false 0∧RP w.heap.size w' s2 p2 l2 c2 q2 k2 d2 false 0∧Kp w w')∧(∀(X Y LO HI i j:Int)(N1 N2:Bool)(M1 M2:Nat)(hr:KC 98 #[.agg #[.int .u64 X,.int .u64 Y]] (.agg #[.int .u64 LO,.int .u64 HI]))(hb1:∀w:World,Calls prog 105 #[.int .u64 LO] w fun e w'=>∃s p l c q k d,e=.returned (.agg #[.int .i64 i,.bool s,.slice p l c,.slice q k d])∧RP w.heap.size w' s p l c q k d N1 M1∧Kp w w')(hb2:∀w:World,Calls prog 105 #[.int .u64 HI] w fun e w'=>∃s p l c q k d,e=.returned (.agg #[.int .i64 j,.bool s,.slice p l c,.slice q k d])∧RP w.heap.size w' s p l c q k d N2 M2∧Kp w w')(t1:(LO == 9218868437227405312)=false)(w:World),Calls prog 47 #[.agg #[.int .u64 X,.int .u64 Y]] w fun e w'=>∃(s:Bool)(p:Option Addr)(l c:Nat)(q:Option Addr)(k d:Nat)(s2:Bool)(p2:Option Addr)(l2 c2:Nat)(q2:Option Addr)(k2 d2:Nat),e=.returned (.agg #[.bool false,.int .i64 i,.bool s,.slice p l c,.slice q k d,.int .i64 j,.bool s2,.slice p2 l2 c2,.slice q2 k2 d2])∧RP w.heap.size w' s p l c q k d N1 M1∧RP w.heap.size w' s2 p2 l2 c2 q2 k2 d2 N2 M2∧Kp w w'):=by
 refine⟨?_,?_⟩
 case' refine_1=>intro X Y hr w;have n:=trivial
 case' refine_2=>intro X Y LO HI i j N1 N2 M1 M2 hr hb1 hb2 t1 w;have m:=trivial
 all_goals (
  go_enter func47,ntmps47
  go_wp2_with (first|(go_at_call 98;refine(hr _).mono ?_;rintro e g ⟨rfl,g1⟩;obtain⟨M,B,P,z,V,C,Q,y,S,u,U,o,R,t,T,A,Z,D⟩:=Ej g1 (w.heap.size+1) (.bool false) (.int .i64 0) (.bool false) (.slice none 0 0) (.slice none 0 0) (.int .i64 0) (.bool false) (.slice none 0 0) (.slice none 0 0) (by simp[go_sem])))
  first
  |(
    have h:=n;clear h
    go_region_held3 (fun w'=>w'.cell? ⟨g.heap.size,0,none⟩=some (.int .u64 9218868437227405312)∧w'.cell? ⟨g.heap.size,1,none⟩=some (.int .u64 18442240474082181120)) (simp[go_sem]) (first|(go_at_call 72;refine(Fq.zk _).mono ?_;rintro e w' ⟨rfl,rfl⟩))
    have b:Kp g (((g.alloc (.cells #[.int .u64 9218868437227405312,.int .u64 18442240474082181120] 24)).alloc (.cells #[.int .u64 9218868437227405312,.int .u64 18442240474082181120] 24)).drew):=(((Kp.refl g).alloc _).alloc _).drew)
  |(
    have h:=m;clear h
    go_region_held3 (fun w'=>w'.cell? ⟨g.heap.size,0,none⟩=some (.int .u64 LO)∧w'.cell? ⟨g.heap.size,1,none⟩=some (.int .u64 HI)) (simp[go_sem]) (first|(go_at_call 72;refine(Fq.zk _).mono ?_;rintro e w' ⟨rfl,rfl⟩))
    have N:(((g.alloc (.cells #[.int .u64 LO,.int .u64 HI] 24)).alloc (.cells #[.int .u64 9218868437227405312,.int .u64 18442240474082181120] 24)).drew).cell? ⟨g.heap.size,0,none⟩=some (.int .u64 LO):=by simp[go_sem]
    have L:(((g.alloc (.cells #[.int .u64 LO,.int .u64 HI] 24)).alloc (.cells #[.int .u64 9218868437227405312,.int .u64 18442240474082181120] 24)).drew).cell? ⟨g.heap.size,1,none⟩=some (.int .u64 HI):=by simp[go_sem]
    have b:Kp g (((g.alloc (.cells #[.int .u64 LO,.int .u64 HI] 24)).alloc (.cells #[.int .u64 9218868437227405312,.int .u64 18442240474082181120] 24)).drew):=(((Kp.refl g).alloc _).alloc _).drew)
  have kw:Kp w g:=Kp.trans (((Kp.refl w).alloc _).alloc _) g1
  have f:w.heap.size+1<g.heap.size:=be M
  first
  |(have h:=n;clear h;generalize (((g.alloc (.cells #[.int .u64 9218868437227405312,.int .u64 18442240474082181120] 24)).alloc (.cells #[.int .u64 9218868437227405312,.int .u64 18442240474082181120] 24)).drew)=W at b|-)
  |(
    have h:=m;clear h
    have J:w.heap.size+1≠g.heap.size:=Nat.ne_of_lt f
    go_wp2
    generalize (((g.alloc (.cells #[.int .u64 LO,.int .u64 HI] 24)).alloc (.cells #[.int .u64 9218868437227405312,.int .u64 18442240474082181120] 24)).drew)=W at N L b|-
    generalize hby:g.heap.size=by9 at N L J|-)
  have a:w.heap.size+1<W.heap.size:=aE f (Below.size b)
  first
  |(have h:=n;clear h)
  |(
    have h:=m;clear h
    have y2:W.drew.cell? ⟨by9,0,none⟩=some (.int .u64 LO):=N
    have y3:W.drew.cell? ⟨by9,1,none⟩=some (.int .u64 HI):=L)
  replace M:=ac b M
  replace B:=(dC b f).trans B
  replace P:=ac b P
  replace z:=(dC b f).trans z
  replace V:=ac b V
  replace C:=(dC b f).trans C
  replace Q:=ac b Q
  replace y:=(dC b f).trans y
  replace S:=ac b S
  replace u:=(dC b f).trans u
  replace U:=ac b U
  replace o:=(dC b f).trans o
  replace R:=ac b R
  replace t:=(dC b f).trans t
  replace T:=ac b T
  replace A:=(dC b f).trans A
  replace Z:=ac b Z
  replace D:=(dC b f).trans D
  first
  |(
    have h:=n;clear h
    go_wp2_with (first|(go_at_call 74;refine(qW _).mono ?_;rintro e K ⟨s2,p2,l2,c2,q2,k2,d2,rfl,G,O⟩;have H:=Kp.trans E O;obtain⟨R0,aw,R1,aA,R2,aj,R3,a2,R4,a8,R5,aa,R6,a7,R7,ar,R8,a5⟩:=BQ H ⟨M,B,P,z,V,C,Q,y,S,u,U,o,R,t,T,A,Z,D⟩)|(go_at_call 74;refine(qW _).mono ?_;rintro e wl ⟨s,p,l,c,q,k,d,rfl,hp,E⟩))
    have I:RP W.heap.size K s p l c q k d false 0:=hp.kp O
    have F:RP W.heap.size K s2 p2 l2 c2 q2 k2 d2 false 0:=RP.mono G (Below.size E))
  |(
    have h:=m;clear h
    go_region_held3 (fun w'=>w'.cell? ⟨by9,0,none⟩=some (.int .u64 LO)∧w'.cell? ⟨by9,1,none⟩=some (.int .u64 HI)) (first|(with_reducible exact⟨y2,y3⟩)|(with_reducible exact⟨a0,a1⟩)|(with_reducible exact⟨b0,b1⟩)|(exact⟨(jB J b0),(jB J b1)⟩)) (first|(go_at_call_of 105 (Value.int .u64 LO);refine(hb1 _).mono ?_;rintro e wl ⟨s,p,l,c,q,k,d,rfl,hp,gl⟩;have E:Kp W wl:=Kp.trans (Kp.drew (Kp.refl _)) gl;have a0:=ac E N;have a1:=ac E L)|(go_at_call_of 105 (Value.int .u64 HI);refine(hb2 _).mono ?_;rintro e K ⟨s2,p2,l2,c2,q2,k2,d2,rfl,G,O⟩;have H:=Kp.trans E O;have b0:=ac H N;have b1:=ac H L;obtain⟨R0,aw,R1,aA,R2,aj,R3,a2,R4,a8,R5,aa,R6,a7,R7,ar,R8,a5⟩:=BQ H ⟨M,B,P,z,V,C,Q,y,S,u,U,o,R,t,T,A,Z,D⟩))
    go_wp2
    have I:RP W.heap.size K s p l c q k d N1 M1:=(RP.mono hp (ao _)).kp O
    have F:RP W.heap.size K s2 p2 l2 c2 q2 k2 d2 N2 M2:=RP.mono G (Below.size E))
  have r:w.heap.size<=W.heap.size:=bO (Nat.lt_trans (Nat.lt_succ_self _) a)
  first
  |(have h:=n;clear h;exact BR ⟨s,p,l,c,q,k,d,s2,p2,l2,c2,q2,k2,d2,rfl,RP.mono ((((((((((I).set (x:=⟨w.heap.size+1,0,none⟩) a (.bool true)).set (x:=⟨w.heap.size+1,1,none⟩) a (.int .i64 0)).set (x:=⟨w.heap.size+1,2,none⟩) a (.bool s)).set (x:=⟨w.heap.size+1,3,none⟩) a (.slice p l c)).set (x:=⟨w.heap.size+1,4,none⟩) a (.slice q k d)).set (x:=⟨w.heap.size+1,5,none⟩) a (.int .i64 0)).set (x:=⟨w.heap.size+1,6,none⟩) a (.bool s2)).set (x:=⟨w.heap.size+1,7,none⟩) a (.slice p2 l2 c2)).set (x:=⟨w.heap.size+1,8,none⟩) a (.slice q2 k2 d2)) r,RP.mono ((((((((((F).set (x:=⟨w.heap.size+1,0,none⟩) a (.bool true)).set (x:=⟨w.heap.size+1,1,none⟩) a (.int .i64 0)).set (x:=⟨w.heap.size+1,2,none⟩) a (.bool s)).set (x:=⟨w.heap.size+1,3,none⟩) a (.slice p l c)).set (x:=⟨w.heap.size+1,4,none⟩) a (.slice q k d)).set (x:=⟨w.heap.size+1,5,none⟩) a (.int .i64 0)).set (x:=⟨w.heap.size+1,6,none⟩) a (.bool s2)).set (x:=⟨w.heap.size+1,7,none⟩) a (.slice p2 l2 c2)).set (x:=⟨w.heap.size+1,8,none⟩) a (.slice q2 k2 d2)) r,yR ((Kp.trans (Kp.trans kw b) H)) (Nat.le_succ _)⟩ (by simp[results,results47,go_sem,R0,R1,R2,R3,R4,R5,R6,R7,R8]))
  |(have h:=m;clear h;exact BR ⟨s,p,l,c,q,k,d,s2,p2,l2,c2,q2,k2,d2,rfl,RP.mono ((((((((((I).set (x:=⟨w.heap.size+1,0,none⟩) a (.bool false)).set (x:=⟨w.heap.size+1,1,none⟩) a (.int .i64 i)).set (x:=⟨w.heap.size+1,2,none⟩) a (.bool s)).set (x:=⟨w.heap.size+1,3,none⟩) a (.slice p l c)).set (x:=⟨w.heap.size+1,4,none⟩) a (.slice q k d)).set (x:=⟨w.heap.size+1,5,none⟩) a (.int .i64 j)).set (x:=⟨w.heap.size+1,6,none⟩) a (.bool s2)).set (x:=⟨w.heap.size+1,7,none⟩) a (.slice p2 l2 c2)).set (x:=⟨w.heap.size+1,8,none⟩) a (.slice q2 k2 d2)) r,RP.mono ((((((((((F).set (x:=⟨w.heap.size+1,0,none⟩) a (.bool false)).set (x:=⟨w.heap.size+1,1,none⟩) a (.int .i64 i)).set (x:=⟨w.heap.size+1,2,none⟩) a (.bool s)).set (x:=⟨w.heap.size+1,3,none⟩) a (.slice p l c)).set (x:=⟨w.heap.size+1,4,none⟩) a (.slice q k d)).set (x:=⟨w.heap.size+1,5,none⟩) a (.int .i64 j)).set (x:=⟨w.heap.size+1,6,none⟩) a (.bool s2)).set (x:=⟨w.heap.size+1,7,none⟩) a (.slice p2 l2 c2)).set (x:=⟨w.heap.size+1,8,none⟩) a (.slice q2 k2 d2)) r,yR ((Kp.trans (Kp.trans kw b) H)) (Nat.le_succ _)⟩ (by simp[results,results47,go_sem,R0,R1,R2,R3,R4,R5,R6,R7,R8])))
theorem Af (i j:Int) s p l c q k d s2 p2 l2 c2 q2 k2 d2 (w:World):Calls prog 99 #[.agg #[.bool true,.int .i64 i,.bool s,.slice p l c,.slice q k d,.int .i64 j,.bool s2,.slice p2 l2 c2,.slice q2 k2 d2]] w (RT (.agg #[.int .u64 9218868437227405312,.int .u64 18442240474082181120]) w):=by
 go_enter func99,ntmps99
 go_wp2_with (first|(go_at_call 72;refine(Fq.zk _).mono ?_;rintro e a ⟨rfl,rfl⟩))
 exact BR (v:=.agg #[.int .u64 9218868437227405312,.int .u64 18442240474082181120]) ⟨rfl,(by repeat(with_reducible(first|exact Kp.refl _|apply Kp.alloc)))⟩
theorem xK (i:Int)(t1:(i == 0)=false)(j:Int)(t2:(j == 0)=false) s p l c q k d s2 p2 l2 c2 q2 k2 d2 (w:World):Calls prog 99 #[.agg #[.bool false,.int .i64 i,.bool s,.slice p l c,.slice q k d,.int .i64 j,.bool s2,.slice p2 l2 c2,.slice q2 k2 d2]] w (RT (.agg #[.int .u64 18442240474082181120,.int .u64 9218868437227405312]) w):=by
 go_enter func99,ntmps99
 go_wp2_with (first|(go_at_call 93;refine(Fq.EQ _).mono ?_;rintro e a ⟨rfl,rfl⟩))
 exact BR (v:=.agg #[.int .u64 18442240474082181120,.int .u64 9218868437227405312]) ⟨rfl,(by repeat(with_reducible(first|exact Kp.refl _|apply Kp.alloc)))⟩
theorem xN (ZA:Int)(j:Int)(t2:(j == 0)=false) s p l c q k d s2 p2 l2 c2 q2 k2 d2 (w:World)(hb1:KW w 150 #[.int .i64 (-1),.agg #[.bool s,.slice p l c,.slice q k d]] (.int .u64 ZA)):Calls prog 99 #[.agg #[.bool false,.int .i64 0,.bool s,.slice p l c,.slice q k d,.int .i64 j,.bool s2,.slice p2 l2 c2,.slice q2 k2 d2]] w (RT (.agg #[.int .u64 ZA,.int .u64 9218868437227405312]) w):=by
 go_enter func99,ntmps99
 go_wp2_with (first|(go_at_call 93;refine(Fq.EQ _).mono ?_;rintro e I ⟨rfl,rfl⟩)|(go_at_call_of 150 (Value.slice p l c);refine(hb1 _ ?q0).mono ?_;(case q0=>exact((((Kp.refl w).alloc _).alloc _).alloc _).alloc _);rintro e o ⟨rfl,a⟩;have C:Kp w o:=Kp.trans (((((Kp.refl w).alloc _).alloc _).alloc _).alloc _) a;obtain⟨x0,i,D,y,N,B,K,x,L,r,M,f,H,h,J,g,G,u⟩:=Ej a (w.heap.size) (.bool false) (.int .i64 0) (.bool s) (.slice p l c) (.slice q k d) (.int .i64 j) (.bool s2) (.slice p2 l2 c2) (.slice q2 k2 d2) (by simp[go_sem]);obtain⟨F,z,E,A⟩:=Es a (w.heap.size+3) (.int .u64 18442240474082181120) (.int .u64 9218868437227405312) (by simp[go_sem]);obtain⟨t,n,m,b⟩:=Es a (w.heap.size+1) (.int .u64 0) (.int .u64 0) (by simp[go_sem])))
 exact BR (v:=.agg #[.int .u64 ZA,.int .u64 9218868437227405312]) ⟨rfl,(by repeat(with_reducible(first|assumption|(refine Kp.setCell ?_ (by (simp<;>omega)) _))))⟩ (by simp[results,results99,go_sem,t,m])
theorem xM (i:Int)(t1:(i == 0)=false)(ZB:Int) s p l c q k d s2 p2 l2 c2 q2 k2 d2 (w:World)(hb2:KW w 150 #[.int .i64 1,.agg #[.bool s2,.slice p2 l2 c2,.slice q2 k2 d2]] (.int .u64 ZB)):Calls prog 99 #[.agg #[.bool false,.int .i64 i,.bool s,.slice p l c,.slice q k d,.int .i64 0,.bool s2,.slice p2 l2 c2,.slice q2 k2 d2]] w (RT (.agg #[.int .u64 18442240474082181120,.int .u64 ZB]) w):=by
 go_enter func99,ntmps99
 go_wp2_with (first|(go_at_call 93;refine(Fq.EQ _).mono ?_;rintro e t ⟨rfl,rfl⟩)|(go_at_call_of 150 (Value.slice p2 l2 c2);refine(hb2 _ ?q0).mono ?_;(case q0=>exact((((Kp.refl w).alloc _).alloc _).alloc _).alloc _);rintro e f ⟨rfl,a⟩;have kb:Kp w f:=Kp.trans (((((Kp.refl w).alloc _).alloc _).alloc _).alloc _) a;obtain⟨o,g,r,j⟩:=Es a (w.heap.size+3) (.int .u64 18442240474082181120) (.int .u64 9218868437227405312) (by simp[go_sem]);obtain⟨n,h,m,b⟩:=Es a (w.heap.size+1) (.int .u64 0) (.int .u64 0) (by simp[go_sem])))
 exact BR (v:=.agg #[.int .u64 18442240474082181120,.int .u64 ZB]) ⟨rfl,(by repeat(with_reducible(first|assumption|(refine Kp.setCell ?_ (by (simp<;>omega)) _))))⟩ (by simp[results,results99,go_sem,n,m])
theorem xO (ZA:Int)(ZB:Int) s p l c q k d s2 p2 l2 c2 q2 k2 d2 (w:World)(hb1:KW w 150 #[.int .i64 (-1),.agg #[.bool s,.slice p l c,.slice q k d]] (.int .u64 ZA))(hb2:KW w 150 #[.int .i64 1,.agg #[.bool s2,.slice p2 l2 c2,.slice q2 k2 d2]] (.int .u64 ZB)):Calls prog 99 #[.agg #[.bool false,.int .i64 0,.bool s,.slice p l c,.slice q k d,.int .i64 0,.bool s2,.slice p2 l2 c2,.slice q2 k2 d2]] w (RT (.agg #[.int .u64 ZA,.int .u64 ZB]) w):=by
 go_enter func99,ntmps99
 go_wp2_with (first|(go_at_call 93;refine(Fq.EQ _).mono ?_;rintro e V ⟨rfl,rfl⟩)|(go_at_call_of 150 (Value.slice p l c);refine(hb1 _ ?q0).mono ?_;(case q0=>exact((((Kp.refl w).alloc _).alloc _).alloc _).alloc _);rintro e y ⟨rfl,g⟩;have t:Kp w y:=Kp.trans (((((Kp.refl w).alloc _).alloc _).alloc _).alloc _) g;obtain⟨x0,H,O,z,Y,N,W,L,X,J,T,u,P,F,Q,E,U,K⟩:=Ej g (w.heap.size) (.bool false) (.int .i64 0) (.bool s) (.slice p l c) (.slice q k d) (.int .i64 0) (.bool s2) (.slice p2 l2 c2) (.slice q2 k2 d2) (by simp[go_sem]);obtain⟨r,m,G,n⟩:=Es g (w.heap.size+3) (.int .u64 18442240474082181120) (.int .u64 9218868437227405312) (by simp[go_sem]);obtain⟨j,i,D,h⟩:=Es g (w.heap.size+1) (.int .u64 0) (.int .u64 0) (by simp[go_sem]))|(go_at_call_of 150 (Value.slice p2 l2 c2);refine(hb2 _ ?q0).mono ?_;(case q0=>exact t.setCell (by simp<;>omega) _);rintro e f ⟨rfl,a⟩;have kb:Kp w f:=Kp.trans (t.setCell (by simp<;>omega) _) a;have R:=ac a (b:=w.heap.size+3) (o:=0) (v:=.int .u64 ZA) (by simp[go_sem,r]);have S:=ac a (b:=w.heap.size+3) (o:=1) (v:=.int .u64 9218868437227405312) (by simp[go_sem,G]);have C:f.frozen? ⟨w.heap.size+3,0,none⟩=false:=(dC a (by have:=be r;simpa using this)).trans (by simp[go_sem,m]);have x:f.frozen? ⟨w.heap.size+3,1,none⟩=false:=(dC a (by have:=be r;simpa using this)).trans (by simp[go_sem,n]);have B:=ac a (b:=w.heap.size+1) (o:=0) (v:=.int .u64 0) (by simp[go_sem,j]);have I:=ac a (b:=w.heap.size+1) (o:=1) (v:=.int .u64 0) (by simp[go_sem,D]);have A:f.frozen? ⟨w.heap.size+1,0,none⟩=false:=(dC a (by have:=be j;simpa using this)).trans (by simp[go_sem,i]);have M:f.frozen? ⟨w.heap.size+1,1,none⟩=false:=(dC a (by have:=be j;simpa using this)).trans (by simp[go_sem,h])))
 exact BR (v:=.agg #[.int .u64 ZA,.int .u64 ZB]) ⟨rfl,(by repeat(with_reducible(first|assumption|(refine Kp.setCell ?_ (by (simp<;>omega)) _))))⟩ (by simp[results,results99,go_sem,B,I])

def rk (N:Bool)(v:Value):Prop:=∃(i j:Int)(s:Bool)(p:Option Addr)(l c:Nat)(q:Option Addr)(k d:Nat)(s2:Bool)(p2:Option Addr)(l2 c2:Nat)(q2:Option Addr)(k2 d2:Nat),v=.agg #[.bool N,.int .i64 i,.bool s,.slice p l c,.slice q k d,.int .i64 j,.bool s2,.slice p2 l2 c2,.slice q2 k2 d2]
def SV1 (n:Bool)(m:Nat)(n':Bool)(m':Nat)(W:World)(v:Value):Prop:=∃(s:Bool)(p:Option Addr)(l c:Nat)(q:Option Addr)(k d:Nat)(s2:Bool)(p2:Option Addr)(l2 c2:Nat)(q2:Option Addr)(k2 d2:Nat),v=.agg #[.bool false,.int .i64 (dT n m),.bool s,.slice p l c,.slice q k d,.int .i64 (dT n' m'),.bool s2,.slice p2 l2 c2,.slice q2 k2 d2]∧RP 0 W s p l c q k d (fN n m) (fM m)∧RP 0 W s2 p2 l2 c2 q2 k2 d2 (fN n' m') (fM m')
theorem SV1.sv0 {n:Bool}{m:Nat}{n':Bool}{m':Nat}{W:World}{v:Value}(h:SV1 n m n' m' W v):rk false v:=by
 obtain⟨s,p,l,c,q,k,d,b,f,g,c2,a,i,j,e,-,-⟩:=h
 exact⟨_,_,s,p,l,c,q,k,d,b,f,g,c2,a,i,j,e⟩
theorem SV1.kp {n:Bool}{m:Nat}{n':Bool}{m':Nat}{W W':World}{v:Value}(g:Kp W W')(h:SV1 n m n' m' W v):SV1 n m n' m' W' v:=by
 obtain⟨s,p,l,c,q,k,d,r,b,f,c2,o,i,j,e,t,a⟩:=h
 exact⟨s,p,l,c,q,k,d,r,b,f,c2,o,i,j,e,t.kp g,a.kp g⟩
theorem xh (x:Nat):Fq.kL x≠9223372036854775808:=by unfold Fq.kL;split<;>omega
theorem Cy (a b:Nat):Fq.th a b≠9223372036854775808:=by
 unfold Fq.th
 split
 ·exact xh a
 ·decide
theorem Cz (a b:Nat):Fq.tj a b≠9223372036854775808:=by
 unfold Fq.tj
 split
 ·exact xh b
 ·decide
theorem xq (a b:Nat)(ha:a<18446744073709551616)(hb:b<18446744073709551616)(hs:Fq.rH a b=false)(w:World):Calls prog 47 #[.agg #[.int .u64 ((a:Nat):Int),.int .u64 ((b:Nat):Int)]] w fun e w'=>∃v,e=.returned v∧rk true v∧Kp w w':=by
 have u:∀w:World,Calls prog 98 #[.agg #[.int .u64 ((a:Nat):Int),.int .u64 ((b:Nat):Int)]] w (RT (.agg #[.int .u64 9218868437227405312,.int .u64 18442240474082181120]) w):=by
  obtain⟨n,m,y,rfl⟩:=Fq.GY a ha
  obtain⟨f,j,i,rfl⟩:=Fq.GY b hb
  intro w
  have h:=Fq.GG n f m j y i w
  rw[show Fq.th (Fq.wD n m) (Fq.wD f j)=9218868437227405312 from by simp[Fq.th,hs],show Fq.tj (Fq.wD n m) (Fq.wD f j)=18442240474082181120 from by simp[Fq.tj,hs]]at h
  exact h
 refine(Bk.1 _ _ u w).mono ?_
 rintro e w' ⟨s,p,l,c,q,k,d,A,o,r,c2,z,t,x,rfl,-,-,g⟩
 exact⟨_,rfl,⟨0,0,s,p,l,c,q,k,d,A,o,r,c2,z,t,x,rfl⟩,g⟩
theorem xo (a b:Nat)(ha:a<18446744073709551616)(hb:b<18446744073709551616)(hs:Fq.rH a b=true)(n n':Bool)(m m':Nat)(hm:m<=9218868437227405312)(hm':m'<=9218868437227405312)(e1:Fq.th a b=Fq.wD n m)(e2:Fq.tj a b=Fq.wD n' m')(w:World):Calls prog 47 #[.agg #[.int .u64 ((a:Nat):Int),.int .u64 ((b:Nat):Int)]] w fun e w'=>∃v,e=.returned v∧SV1 n m n' m' w' v∧Kp w w':=by
 have j:∀w:World,Calls prog 98 #[.agg #[.int .u64 ((a:Nat):Int),.int .u64 ((b:Nat):Int)]] w (RT (.agg #[.int .u64 ((Fq.wD n m:Nat):Int),.int .u64 ((Fq.wD n' m':Nat):Int)]) w):=by
  rw[<-e1,<-e2]
  obtain⟨n,m,hm,rfl⟩:=Fq.GY a ha
  obtain⟨n',m',hm',rfl⟩:=Fq.GY b hb
  exact fun w=>Fq.GG n n' m m' hm hm' w
 have z:(((Fq.wD n m:Nat):Int) == 9218868437227405312)=false:=by
  have f:Fq.th a b≠9218868437227405312:=by
   have i:a≠9218868437227405312:=by intro h;rw[h]at hs;simp[Fq.rH]at hs
   simp only[Fq.th,hs,if_true,Fq.kL];split<;>omega
  rw[e1]at f
  simp;omega
 refine(Bk.2 _ _ _ _ _ _ _ _ _ _ j (sH n m hm (e1 ▸ Cy a b)) (sH n' m' hm' (e2 ▸ Cz a b)) z w).mono ?_
 rintro e w' ⟨s,p,l,c,q,k,d,o,t,r,c2,y,u,x,rfl,f,i,g⟩
 exact⟨_,rfl,⟨s,p,l,c,q,k,d,o,t,r,c2,y,u,x,rfl,f.mono (aW _),i.mono (aW _)⟩,g⟩
theorem Ad (i j:Int)(ZA ZB:Int->Nat) s p l c q k d s2 p2 l2 c2 q2 k2 d2 (B1 B2:Nat)(w:World)(h1:i=0->QP B1 w s p l c q k d ZA)(h2:j=0->QP B2 w s2 p2 l2 c2 q2 k2 d2 ZB):Calls prog 99 #[.agg #[.bool false,.int .i64 i,.bool s,.slice p l c,.slice q k d,.int .i64 j,.bool s2,.slice p2 l2 c2,.slice q2 k2 d2]] w (fun e w'=>e=.returned (.agg #[.int .u64 ((if i=0 then ZA (-1) else 18442240474082181120:Nat):Int),.int .u64 ((if j=0 then ZB 1 else 9218868437227405312:Nat):Int)])∧Kp w w'):=by
 by_cases b:i=0
 ·have h:=h1 b
  rw[if_pos b]
  by_cases a:j=0
  ·have f:=h2 a
   rw[if_pos a]
   subst b a
   exact xO _ _ s p l c q k d s2 p2 l2 c2 q2 k2 d2 w (fun W g=>mI s p l c q k d ZA (-1) B1 W (h.kp g)) (fun W g=>mI s2 p2 l2 c2 q2 k2 d2 ZB 1 B2 W (f.kp g))
  ·rw[if_neg a]
   subst b
   exact xN _ j (by simpa using a) s p l c q k d s2 p2 l2 c2 q2 k2 d2 w (fun W g=>mI s p l c q k d ZA (-1) B1 W (h.kp g))
 ·rw[if_neg b]
  by_cases a:j=0
  ·have f:=h2 a
   rw[if_pos a]
   subst a
   exact xM i (by simpa using b) _ s p l c q k d s2 p2 l2 c2 q2 k2 d2 w (fun W g=>mI s2 p2 l2 c2 q2 k2 d2 ZB 1 B2 W (f.kp g))
  ·rw[if_neg a]
   exact xK i (by simpa using b) j (by simpa using a) s p l c q k d s2 p2 l2 c2 q2 k2 d2 w
theorem jy (n:Bool)(m:Nat):dT n m=0 ↔ m≠9218868437227405312:=by
 unfold dT
 by_cases c:m=9218868437227405312
 ·rw[if_pos c];cases n<;>simp[c]
 ·rw[if_neg c];simp[c]
theorem Ae (W:World)(v:Value)(h:rk true v):Calls prog 99 #[v] W (RT (.agg #[.int .u64 9218868437227405312,.int .u64 18442240474082181120]) W):=by
 obtain⟨i,j,s,p,l,c,q,k,d,n,a,b,c2,m,f,g,rfl⟩:=h
 exact Af i j s p l c q k d n a b c2 m f g W
theorem zO (n g:Bool)(m r:Nat)(W:World)(v:Value)(h:SV1 n m g r W v):Calls prog 48 #[v] W fun e w'=>∃v',e=.returned v'∧SV1 (!g) r (!n) m w' v'∧Kp W w':=by
 obtain⟨s,p,l,c,q,k,d,o,a,b,c2,j,f,i,rfl,J,I⟩:=h
 refine(zQ (dT n m) (dT g r) (dT (!n) m) (dT (!g) r) (fN (!n) m) (fN (!g) r) (fM m) (fM r) s p l c q k d o a b c2 j f i W (fun W' y=>sT n m s p l c q k d 0 W' (J.kp y)) (fun W' y=>sT g r o a b c2 j f i 0 W' (I.kp y))).mono ?_
 rintro e w' ⟨t,G,K,C,L,E,u,D,z,A,c6,H,x,F,rfl,B,M,y⟩
 exact⟨_,rfl,⟨t,G,K,C,L,E,u,D,z,A,c6,H,x,F,rfl,B.mono (aW _),M.mono (aW _)⟩,y⟩
theorem zN (W:World)(v:Value)(h:rk true v):Calls prog 48 #[v] W fun e w'=>∃v',e=.returned v'∧rk true v'∧Kp W w':=by
 obtain⟨i,j,s,p,l,c,q,k,d,n,a,b,c2,m,f,g,rfl⟩:=h
 refine(zR i j s p l c q k d n a b c2 m f g W).mono ?_
 rintro e w' ⟨rfl,y⟩
 exact⟨_,rfl,⟨i,j,s,p,l,c,q,k,d,n,a,b,c2,m,f,g,rfl⟩,y⟩
theorem Ac (n g:Bool)(m r:Nat)(hm:m<=9218868437227405312)(hr:r<=9218868437227405312)(i1:m=9218868437227405312->n=true)(i2:r=9218868437227405312->g=false)(W:World)(v:Value)(h:SV1 n m g r W v):Calls prog 99 #[v] W (RT (.agg #[.int .u64 ((Fq.kL (Fq.wD n m):Nat):Int),.int .u64 ((Fq.kL (Fq.wD g r):Nat):Int)]) W):=by
 obtain⟨s,p,l,c,q,k,d,x,f,i,c2,u,j,t,rfl,b,y⟩:=h
 have h:=Ad (dT n m) (dT g r) _ _ s p l c q k d x f i c2 u j t 0 0 W (fun _=>b.qp) (fun _=>y.qp)
 have z:(if dT n m=0 then fg (-1) (Iv (fN n m) (fM m)) else 18442240474082181120)=Fq.kL (Fq.wD n m):=by
  by_cases a:m=9218868437227405312
  ·rw[if_neg (by rw[jy];simp[a]),i1 a,a];decide +kernel
  ·rw[if_pos (by rw[jy];exact a)]
   unfold fN fM
   rw[if_neg a,if_neg a]
   exact jF (-1) n m (by omega)
 have o:(if dT g r=0 then fg 1 (Iv (fN g r) (fM r)) else 9218868437227405312)=Fq.kL (Fq.wD g r):=by
  by_cases a:r=9218868437227405312
  ·rw[if_neg (by rw[jy];simp[a]),i2 a,a];decide +kernel
  ·rw[if_pos (by rw[jy];exact a)]
   unfold fN fM
   rw[if_neg a,if_neg a]
   exact jF 1 g r (by omega)
 rw[z,o]at h
 exact h
namespace Fq
theorem BM (a c:Nat)(w:World):(Op.equalIn 9999 27 (.float .f64 a) (.float .f64 c)).run prog w=.ok (FloatKind.f64.format.order a c == some Ordering.eq) w:=by kernel_rfl
theorem GB (a b:Nat)(ha:a<18446744073709551616)(hb:b<18446744073709551616)(w:World):Calls prog 144 #[.agg #[.float .f64 a,.float .f64 b]] w fun e w'=>e=.returned (.bool (decide (a=9218868437227405312∧b=18442240474082181120)))∧Grown w w':=by
 have d:=FM a ha
 have c:=FK b hb
 have f:(decide (a=9218868437227405312∧b=18442240474082181120))=((FloatKind.f64.format.order a 9218868437227405312 == some Ordering.eq) && (FloatKind.f64.format.order b 18442240474082181120 == some Ordering.eq)):=by
  rw[d,c];by_cases g:a=9218868437227405312<;>by_cases c2:b=18442240474082181120<;>simp[g,c2]
 rw[f]
 clear f d c ha hb
 have h:=BM a 9218868437227405312
 have i:=BM b 18442240474082181120
 generalize g1:(FloatKind.f64.format.order a 9218868437227405312 == some Ordering.eq)=B1 at h|-
 generalize g2:(FloatKind.f64.format.order b 18442240474082181120 == some Ordering.eq)=B2 at i|-
 cases B1<;>cases B2
 ·go_enter func144,ntmps144
  go_wp2
  go_region_held3 (fun w'=>w'.cell? ⟨w.heap.size,0,none⟩=some (.float .f64 a)∧w'.cell? ⟨w.heap.size,1,none⟩=some (.float .f64 b)) (simp[go_sem,World.cell?_alloc_past]) (first|(go_at_call 89;refine(iN _).mono ?_;rintro e w' ⟨rfl,rfl⟩))
  go_wp2
  exact BR (v:=.bool false) ⟨rfl,(by repeat(with_reducible(first|exact Grown.refl _|apply Grown.drew|apply Grown.alloc)))⟩
 ·go_enter func144,ntmps144
  go_wp2
  go_region_held3 (fun w'=>w'.cell? ⟨w.heap.size,0,none⟩=some (.float .f64 a)∧w'.cell? ⟨w.heap.size,1,none⟩=some (.float .f64 b)) (simp[go_sem,World.cell?_alloc_past]) (first|(go_at_call 89;refine(iN _).mono ?_;rintro e w' ⟨rfl,rfl⟩))
  go_wp2
  exact BR (v:=.bool false) ⟨rfl,(by repeat(with_reducible(first|exact Grown.refl _|apply Grown.drew|apply Grown.alloc)))⟩
 ·go_enter func144,ntmps144
  go_wp2
  go_region_held3 (fun w'=>w'.cell? ⟨w.heap.size,0,none⟩=some (.float .f64 a)∧w'.cell? ⟨w.heap.size,1,none⟩=some (.float .f64 b)) (simp[go_sem,World.cell?_alloc_past]) (first|(go_at_call 89;refine(iN _).mono ?_;rintro e w' ⟨rfl,rfl⟩))
  go_wp2
  exact BR (v:=.bool false) ⟨rfl,(by repeat(with_reducible(first|exact Grown.refl _|apply Grown.drew|apply Grown.alloc)))⟩
 ·go_enter func144,ntmps144
  go_wp2
  go_region_held3 (fun w'=>w'.cell? ⟨w.heap.size,0,none⟩=some (.float .f64 a)∧w'.cell? ⟨w.heap.size,1,none⟩=some (.float .f64 b)) (simp[go_sem,World.cell?_alloc_past]) (first|(go_at_call 89;refine(iN _).mono ?_;rintro e w' ⟨rfl,rfl⟩))
  go_wp2
  exact BR (v:=.bool true) ⟨rfl,(by repeat(with_reducible(first|exact Grown.refl _|apply Grown.drew|apply Grown.alloc)))⟩
end Fq

def pw (z:Int):Nat:=Fq.wD (decide (z<0)) z.natAbs
def dl (z:Int):Prop:=-9218868437227405312<=z∧z<=9218868437227405312
theorem dY (z:Int):Fq.gU (decide (z<0)) z.natAbs=z:=by
 unfold Fq.gU
 by_cases c:z<0<;>simp[c]<;>omega
theorem dv (z:Int)(h:dl z):z.natAbs<=9218868437227405312:=by unfold dl at h;omega
theorem nF (z:Int)(h:dl z):pw z<18446744073709551616:=by
 have:=dv z h
 unfold pw Fq.wD;split<;>omega
theorem nE (z:Int)(h:dl z):pw z≠9223372036854775808:=by
 have a:=dv z h
 unfold pw Fq.wD
 by_cases c:z<0<;>simp[c]<;>omega
theorem oR (z:Int)(h:dl z):Fq.kL (pw z)=pw z:=by unfold Fq.kL;rw[if_neg (nE z h)]
theorem nl:pw 9218868437227405312=9218868437227405312:=by decide
theorem lJ:pw (-9218868437227405312)=18442240474082181120:=by decide
theorem rQ (x y:Int)(hx:dl x)(hy:dl y):FloatKind.f64.format.order (pw x) (pw y)=some (compare x y):=by
 have h:=Fq.CY (decide (x<0)) (decide (y<0)) x.natAbs y.natAbs (dv x hx) (dv y hy)
 rw[dY,dY]at h
 exact h
theorem E8 (x y:Int)(hx:dl x)(hy:dl y):(FloatKind.f64.format.order (pw x) (pw y) == some Ordering.lt)=decide (x<y):=by
 rw[rQ x y hx hy]
 rcases bw x y with g|g|g
 ·rw[Fq.lk g,af g];rfl
 ·rw[Fq.mX g,ae (by omega)];rfl
 ·rw[Fq.lp g,ae (by omega)];rfl
theorem CS (x y:Int)(hx:dl x)(hy:dl y):(FloatKind.f64.format.order (pw x) (pw y) == some Ordering.gt)=decide (y<x):=by
 rw[rQ x y hx hy]
 rcases bw x y with g|g|g
 ·rw[Fq.lk g,ae (by omega)];rfl
 ·rw[Fq.mX g,ae (by omega)];rfl
 ·rw[Fq.lp g,af g];rfl
theorem xi (x y:Int)(hx:dl x)(hy:dl y):(FloatKind.f64.format.order (pw x) (pw y) == some Ordering.eq)=decide (x=y):=by
 rw[rQ x y hx hy]
 rcases bw x y with g|g|g
 ·rw[Fq.lk g,ae (by omega)];rfl
 ·rw[Fq.mX g,af g];rfl
 ·rw[Fq.lp g,ae (by omega)];rfl
theorem zw (x y:Int)(hx:dl x)(hy:dl y):(FloatKind.f64.format.order (pw x) (pw y) == some Ordering.lt || FloatKind.f64.format.order (pw x) (pw y) == some Ordering.eq)=decide (x<=y):=by
 rw[E8 x y hx hy,xi x y hx hy]
 by_cases c:x<y<;>by_cases c2:x=y<;>simp[c,c2]<;>omega
theorem GL (x y:Int)(hx:dl x)(hy:dl y):(FloatKind.f64.format.order (pw x) (pw y) == some Ordering.gt || FloatKind.f64.format.order (pw x) (pw y) == some Ordering.eq)=decide (y<=x):=by
 rw[CS x y hx hy,xi x y hx hy]
 by_cases c:y<x<;>by_cases c2:x=y<;>simp[c,c2]<;>omega
theorem kU (x y:Int)(hx:dl x)(hy:dl y):pw x=pw y ↔ x=y:=by
 constructor
 ·intro h
  have e:=xi x y hx hy
  have a:=xi y y hy hy
  rw[h,a]at e
  by_cases c:x=y
  ·exact c
  ·simp[c]at e
 ·intro h;rw[h]
def VdZ (L H:Int):Prop:=(L=9218868437227405312∧H = -9218868437227405312)∨(-9218868437227405312<=L∧L<9218868437227405312∧-9218868437227405312<H∧H<=9218868437227405312∧L<=H)
theorem VdZ.lo {L H:Int}(h:VdZ L H):dl L:=by unfold VdZ at h;unfold dl;omega
theorem VdZ.hi {L H:Int}(h:VdZ L H):dl H:=by unfold VdZ at h;unfold dl;omega
theorem CL (n:Bool)(m:Nat)(h:Fq.wD n m≠9223372036854775808)(hm:m<=9218868437227405312):pw (Fq.gU n m)=Fq.wD n m∧dl (Fq.gU n m):=by
 cases n
 ·have e:Fq.gU false m=(m:Int):=by simp[Fq.gU]
  rw[e]
  refine⟨?_,by unfold dl;omega⟩
  unfold pw
  rw[show decide ((m:Int)<0)=false from ae (by omega),show((m:Int)).natAbs=m from by omega]
 ·have e:Fq.gU true m = -(m:Int):=by simp[Fq.gU]
  have z:m≠0:=by intro z;apply h;rw[z];rfl
  rw[e]
  refine⟨?_,by unfold dl;omega⟩
  unfold pw
  rw[show decide (-(m:Int)<0)=true from af (by omega),show(-(m:Int)).natAbs=m from by omega]
theorem wk (L H:Int)(hL:dl L)(hH:dl H):Fq.rH (pw L) (pw H)=decide (L<=H∧L≠9218868437227405312∧H≠-9218868437227405312):=by
 unfold Fq.rH
 rw[zw L H hL hH]
 have c:(pw L=9218868437227405312) ↔ L=9218868437227405312:=by
  have h:=kU L 9218868437227405312 hL (by unfold dl;omega)
  rw[nl]at h;exact h
 have b:(pw H=18442240474082181120) ↔ H = -9218868437227405312:=by
  have h:=kU H (-9218868437227405312) hH (by unfold dl;omega)
  rw[lJ]at h;exact h
 simp only[c,b]
 by_cases a:L<=H<;>by_cases c2:L=9218868437227405312<;>by_cases c3:H = -9218868437227405312<;>simp[a,c2,c3]
theorem wE (L H:Int)(hL:dl L)(hH:dl H):Fq.th (pw L) (pw H)=pw (if L<=H∧L≠9218868437227405312∧H≠-9218868437227405312 then L else 9218868437227405312):=by
 unfold Fq.th
 rw[wk L H hL hH,oR L hL]
 by_cases c:L<=H∧L≠9218868437227405312∧H≠-9218868437227405312
 ·rw[if_pos c,if_pos (af c)]
 ·rw[if_neg c,if_neg (by simpa using c),nl]
theorem wH (L H:Int)(hL:dl L)(hH:dl H):Fq.tj (pw L) (pw H)=pw (if L<=H∧L≠9218868437227405312∧H≠-9218868437227405312 then H else -9218868437227405312):=by
 unfold Fq.tj
 rw[wk L H hL hH,oR H hH]
 by_cases c:L<=H∧L≠9218868437227405312∧H≠-9218868437227405312
 ·rw[if_pos c,if_pos (af c)]
 ·rw[if_neg c,if_neg (by simpa using c),lJ]
theorem zo (a b:Nat)(ha:a<18446744073709551616)(hb:b<18446744073709551616):∃L H,VdZ L H∧Fq.th a b=pw L∧Fq.tj a b=pw H:=by
 by_cases c:Fq.rH a b=true
 ·obtain⟨n,m,u,rfl⟩:=Fq.GY a ha
  obtain⟨f,j,k,rfl⟩:=Fq.GY b hb
  have d:=Fq.Bb n f m j u k
  rw[c]at d
  have d:=cM d.symm
  have i:∀(g:Bool)(r:Nat),r<=9218868437227405312->pw (Fq.gU g r)=Fq.kL (Fq.wD g r)∧dl (Fq.gU g r):=by
   intro g r t
   by_cases c2:Fq.wD g r=9223372036854775808
   ·have p:g=true∧r=0:=by
     unfold Fq.wD at c2
     cases g
     ·simp at c2;omega
     ·simp at c2;exact⟨rfl,c2⟩
    rw[c2,p.1,p.2]
    exact⟨by decide,by unfold dl Fq.gU;simp⟩
   ·have h:=CL g r c2 t
    rw[show Fq.kL (Fq.wD g r)=Fq.wD g r from by simp[Fq.kL,c2]]
    exact h
  have l:=i n m d.1
  have o:=i f j d.2.1
  refine⟨Fq.gU n m,Fq.gU f j,Or.inr ?_, ?_, ?_⟩
  ·have q:=l.2
   have s:=o.2
   unfold dl at q s
   have y:Fq.gU n m≠9218868437227405312:=by
    intro h
    apply d.2.2.2.1
    unfold Fq.gU at h
    cases n
    ·simp at h;exact⟨rfl,by omega⟩
    ·simp at h;omega
   have x:Fq.gU f j≠-9218868437227405312:=by
    intro h
    apply d.2.2.2.2
    unfold Fq.gU at h
    cases f
    ·simp at h<;>omega
    ·simp at h;exact⟨rfl,by omega⟩
   have:=d.2.2.1
   omega
  ·rw[l.1];simp[Fq.th,c]
  ·rw[o.1];simp[Fq.tj,c]
 ·refine⟨9218868437227405312,-9218868437227405312,Or.inl ⟨rfl,rfl⟩, ?_, ?_⟩
  ·rw[nl];unfold Fq.th;rw[if_neg c]
  ·rw[lJ];unfold Fq.tj;rw[if_neg c]
theorem tp (L H:Int)(h:VdZ L H):Fq.th (pw L) (pw H)=pw L∧Fq.tj (pw L) (pw H)=pw H:=by
 rw[wE L H h.lo h.hi,wH L H h.lo h.hi]
 rcases h with⟨rfl,rfl⟩|h
 ·exact⟨by rw[if_neg (by omega)],by rw[if_neg (by omega)]⟩
 ·exact⟨by rw[if_pos (by omega)],by rw[if_pos (by omega)]⟩
def iL (L1 H1 L2 H2:Int):Int:=if max L1 L2<=min H1 H2 then max L1 L2 else 9218868437227405312
def iH (L1 H1 L2 H2:Int):Int:=if max L1 L2<=min H1 H2 then min H1 H2 else -9218868437227405312
theorem sJ (x y:Int)(hx:dl x)(hy:dl y):dl (max x y):=by unfold dl at *;omega
theorem sI (x y:Int)(hx:dl x)(hy:dl y):dl (min x y):=by unfold dl at *;omega
theorem oi (L1 H1 L2 H2:Int)(h1:VdZ L1 H1)(h2:VdZ L2 H2):VdZ (iL L1 H1 L2 H2) (iH L1 H1 L2 H2):=by
 unfold iL iH VdZ at *
 split<;>omega
theorem sQ (L1 H1 L2 H2:Int)(h1:VdZ L1 H1)(h2:VdZ L2 H2):VdZ (min L1 L2) (max H1 H2):=by
 unfold VdZ at *
 omega
theorem uE (L1 H1 L2 H2:Int)(h1:VdZ L1 H1)(h2:VdZ L2 H2):Fq.th (pw (max L1 L2)) (pw (min H1 H2))=pw (iL L1 H1 L2 H2)∧Fq.tj (pw (max L1 L2)) (pw (min H1 H2))=pw (iH L1 H1 L2 H2):=by
 rw[wE _ _ (sJ _ _ h1.lo h2.lo) (sI _ _ h1.hi h2.hi),wH _ _ (sJ _ _ h1.lo h2.lo) (sI _ _ h1.hi h2.hi)]
 unfold iL iH
 have e:(max L1 L2<=min H1 H2∧max L1 L2≠9218868437227405312∧min H1 H2≠-9218868437227405312) ↔ max L1 L2<=min H1 H2:=by
  unfold VdZ at h1 h2
  omega
 simp only[e]
 exact⟨trivial,trivial⟩
theorem Fr (n n':Bool)(m m':Nat)(hm:m<=9218868437227405312)(hm':m'<=9218868437227405312)(h1:Fq.wD n m≠9223372036854775808)(h2:Fq.wD n' m'≠9223372036854775808)(ts:Array TypeId)(t:TypeId)(w:World):(Builtin.min_ ts t #[.float .f64 (Fq.wD n m),.float .f64 (Fq.wD n' m')]).run prog w=.ok (.float .f64 (if Fq.gU n' m'<Fq.gU n m then Fq.wD n' m' else Fq.wD n m)) w:=by
 have a:=Fq.CY n n' m m' hm hm'
 rcases bw (Fq.gU n m) (Fq.gU n' m')with g|g|g
 ·rw[Fq.lk g]at a
  rw[if_neg (by omega)]
  generalize Fq.wD n m=X at a|-
  generalize Fq.wD n' m'=Y at a|-
  simp[Builtin.min_,Builtin.min2,a]
 ·rw[Fq.mX g]at a
  have e:Fq.wD n m=Fq.wD n' m':=by
   have c:n=true->m≠0:=fun h z=>h1 (by rw[h,z];rfl)
   have b:n'=true->m'≠0:=fun h z=>h2 (by rw[h,z];rfl)
   unfold Fq.wD
   unfold Fq.gU at g
   cases n<;>cases n'<;>simp at c b g|-<;>omega
  rw[if_neg (by omega)]
  rw[<-e]at a|-
  generalize Fq.wD n m=X at a|-
  simp[Builtin.min_,Builtin.min2,a]
 ·rw[Fq.lp g]at a
  rw[if_pos (by omega)]
  generalize Fq.wD n m=X at a|-
  generalize Fq.wD n' m'=Y at a|-
  simp[Builtin.min_,Builtin.min2,a]
theorem Ft (n n':Bool)(m m':Nat)(hm:m<=9218868437227405312)(hm':m'<=9218868437227405312)(h1:Fq.wD n m≠9223372036854775808)(h2:Fq.wD n' m'≠9223372036854775808)(ts:Array TypeId)(t:TypeId)(w:World):(Builtin.max_ ts t #[.float .f64 (Fq.wD n m),.float .f64 (Fq.wD n' m')]).run prog w=.ok (.float .f64 (if Fq.gU n' m'>Fq.gU n m then Fq.wD n' m' else Fq.wD n m)) w:=by
 have a:=Fq.CY n n' m m' hm hm'
 rcases bw (Fq.gU n m) (Fq.gU n' m')with g|g|g
 ·rw[Fq.lk g]at a
  rw[if_pos (by omega)]
  generalize Fq.wD n m=X at a|-
  generalize Fq.wD n' m'=Y at a|-
  simp[Builtin.max_,Builtin.max2,a]
 ·rw[Fq.mX g]at a
  have e:Fq.wD n m=Fq.wD n' m':=by
   have c:n=true->m≠0:=fun h z=>h1 (by rw[h,z];rfl)
   have b:n'=true->m'≠0:=fun h z=>h2 (by rw[h,z];rfl)
   unfold Fq.wD
   unfold Fq.gU at g
   cases n<;>cases n'<;>simp at c b g|-<;>omega
  rw[if_neg (by omega)]
  rw[<-e]at a|-
  generalize Fq.wD n m=X at a|-
  simp[Builtin.max_,Builtin.max2,a]
 ·rw[Fq.lp g]at a
  rw[if_neg (by omega)]
  generalize Fq.wD n m=X at a|-
  generalize Fq.wD n' m'=Y at a|-
  simp[Builtin.max_,Builtin.max2,a]

def Rd (a b:Nat)(L H:Int):Prop:=a<18446744073709551616∧b<18446744073709551616∧VdZ L H∧Fq.th a b=pw L∧Fq.tj a b=pw H
theorem Rd.ex (a b:Nat)(ha:a<18446744073709551616)(hb:b<18446744073709551616):∃L H,Rd a b L H:=by
 obtain⟨L,H,c,d,f⟩:=zo a b ha hb
 exact⟨L,H,ha,hb,c,d,f⟩
theorem Rd.of {L H:Int}(h:VdZ L H):Rd (pw L) (pw H) L H:=⟨nF L h.lo,nF H h.hi,h,(tp L H h).1,(tp L H h).2⟩
theorem Rd.vd {a b:Nat}{L H:Int}(h:Rd a b L H):VdZ L H:=h.2.2.1
theorem Rd.call {a b:Nat}{L H:Int}(h:Rd a b L H)(w:World):Calls prog 38 #[.agg #[.float .f64 a,.float .f64 b]] w (RT (.agg #[.float .f64 (pw L),.float .f64 (pw H)]) w):=by
 have g:=Fq.Hi a b h.1 h.2.1 w
 rw[h.2.2.2.1,h.2.2.2.2]at g
 exact g
theorem G0 (L H:Int)(h:VdZ L H):decide (pw L=9218868437227405312∧pw H=18442240474082181120)=decide (L=9218868437227405312):=by
 congr 1;apply propext
 have a:=kU L 9218868437227405312 h.lo (by unfold dl;omega)
 have b:=kU H (-9218868437227405312) h.hi (by unfold dl;omega)
 rw[nl]at a
 rw[lJ]at b
 rw[a,b]
 unfold VdZ at h
 omega
theorem vP (L H:Int)(h:VdZ L H)(w:World):Calls prog 144 #[.agg #[.float .f64 (pw L),.float .f64 (pw H)]] w (RT (.bool (decide (L=9218868437227405312))) w):=by
 have g:=Fq.GB (pw L) (pw H) (nF L h.lo) (nF H h.hi) w
 rw[G0 L H h]at g
 exact g
theorem xz (x y:Int)(hx:dl x)(hy:dl y)(ts:Array TypeId)(t:TypeId)(w:World):(Builtin.min_ ts t #[.float .f64 (pw x),.float .f64 (pw y)]).run prog w=.ok (.float .f64 (pw (min x y))) w:=by
 have h:=Fr (decide (x<0)) (decide (y<0)) x.natAbs y.natAbs (dv x hx) (dv y hy) (nE x hx) (nE y hy) ts t w
 rw[dY,dY]at h
 have e:(if y<x then pw y else pw x)=pw (min x y):=by
  by_cases c:y<x
  ·rw[if_pos c,show min x y=y from by omega]
  ·rw[if_neg c,show min x y=x from by omega]
 exact e ▸ h
theorem xC (x y:Int)(hx:dl x)(hy:dl y)(ts:Array TypeId)(t:TypeId)(w:World):(Builtin.max_ ts t #[.float .f64 (pw x),.float .f64 (pw y)]).run prog w=.ok (.float .f64 (pw (max x y))) w:=by
 have h:=Ft (decide (x<0)) (decide (y<0)) x.natAbs y.natAbs (dv x hx) (dv y hy) (nE x hx) (nE y hy) ts t w
 rw[dY,dY]at h
 have e:(if y>x then pw y else pw x)=pw (max x y):=by
  by_cases c:y>x
  ·rw[if_pos c,show max x y=y from by omega]
  ·rw[if_neg c,show max x y=x from by omega]
 exact e ▸ h

def pI (x:Int):Int:=((pw x:Nat):Int)
theorem CX (x y:Int)(hx:dl x)(hy:dl y):pI x=pI y ↔ x=y:=by
 unfold pI
 rw[<-kU x y hx hy]
 omega
theorem Ai (n:Bool)(m:Nat)(hm:m<9223372036854775808)(w:World):Calls prog 183 #[.int .u64 ((Fq.wD n m:Nat):Int)] w (RE (.bool (decide (m=9218868437227405312))) w):=by
 obtain⟨X,a⟩:=aA (Fq.wD n m)
 have d:=(Fq.Db n m X hm a).1
 rw[<-a]
 clear a hm
 by_cases c:m=9218868437227405312
 ·have b:((m:Int) == 9218868437227405312)=true:=by rw[c];rfl
  rw[af c]
  clear c
  go_enter func183,ntmps183
  go_wp2
  exact BR ⟨rfl,rfl⟩ (by simp[results,results183,go_sem]<;>simpa using b)
 ·have b:((m:Int) == 9218868437227405312)=false:=by simp;omega
  rw[ae c]
  clear c
  go_enter func183,ntmps183
  go_wp2
  exact BR ⟨rfl,rfl⟩ (by simp[results,results183,go_sem]<;>simpa using b)
theorem mi (x:Int)(h:dl x)(w:World):Calls prog 183 #[.int .u64 (pI x)] w (RE (.bool (decide (x=9218868437227405312∨x = -9218868437227405312))) w):=by
 have g:=Ai (decide (x<0)) x.natAbs (by have:=dv x h;omega) w
 rw[show decide (x.natAbs=9218868437227405312)=decide (x=9218868437227405312∨x = -9218868437227405312)from by congr 1;apply propext;omega]at g
 exact g
theorem oJ (a b:Nat)(L H:Int)(h:Rd a b L H)(w:World):Calls prog 98 #[.agg #[.int .u64 ((a:Nat):Int),.int .u64 ((b:Nat):Int)]] w (RT (.agg #[.int .u64 (pI L),.int .u64 (pI H)]) w):=by
 have j:=h.2.2.2.1
 have g:=h.2.2.2.2
 unfold pI
 rw[<-j,<-g]
 obtain⟨n,m,d,rfl⟩:=Fq.GY a h.1
 obtain⟨f,i,c,rfl⟩:=Fq.GY b h.2.1
 exact Fq.GG n f m i d c w
theorem iW (w:World):Calls prog 72 #[] w (RT (.agg #[.int .u64 9218868437227405312,.int .u64 18442240474082181120]) w):=by
 refine(Fq.zk w).mono ?_
 rintro e a ⟨rfl,rfl⟩
 exact⟨rfl,(Kp.refl w).alloc _⟩

def IG (w:World)(B:Nat)(a b c d:Value):Prop:=Fq.H2 w B a b∧Fq.H2 w (B+1) c d

def H6 (w:World)(B:Nat)(a b c d e f:Value):Prop:=Fq.H2 w B a b∧Fq.H2 w (B+1) c d∧Fq.H2 w (B+2) e f
theorem H6.keep {W w:World}{B:Nat}{a b c d e f:Value}(h:H6 W B a b c d e f)(g:Kp W w):H6 w B a b c d e f:=⟨Fq.H2.keep h.1 g,Fq.H2.keep h.2.1 g,Fq.H2.keep h.2.2 g⟩
theorem H6.new (w:World)(a b c d e f:Value)(s t u:TypeId):H6 (((w.alloc (.cells #[a,b] s)).alloc (.cells #[c,d] t)).alloc (.cells #[e,f] u)) w.heap.size a b c d e f:=by
 refine⟨?_, ?_, ?_⟩<;>(unfold Fq.H2;simp[go_sem])
theorem H6.put {w:World}{B:Nat}{a b c d e f:Value}(h:H6 w B a b c d e f)(a' b' c' d':Value):H6 ((((w.setCell ⟨B,0,none⟩ a').setCell ⟨B,1,none⟩ b').setCell ⟨B+1,0,none⟩ c').setCell ⟨B+1,1,none⟩ d') B a' b' c' d' e f:=by
 refine⟨?_, ?_, ?_⟩
 ·exact Fq.H2.far (Fq.H2.put h.1 a' b') (by omega) c' d'
 ·exact Fq.H2.put (Fq.H2.far h.2.1 (by omega) a' b') c' d'
 ·exact Fq.H2.far (Fq.H2.far h.2.2 (by omega) a' b') (by omega) c' d'
theorem Df (a b c d L1 H1 L2 H2 NL NH:Nat)(hx:KC 38 #[.agg #[.float .f64 a,.float .f64 b]] (.agg #[.float .f64 L1,.float .f64 H1]))(hy:KC 38 #[.agg #[.float .f64 c,.float .f64 d]] (.agg #[.float .f64 L2,.float .f64 H2]))(ZL ZH:Nat)(hm1:∀(ts:Array TypeId)(t:TypeId)(w:World),(Builtin.max_ ts t #[.float .f64 L1,.float .f64 L2]).run prog w=.ok (.float .f64 NL) w)(hm2:∀(ts:Array TypeId)(t:TypeId)(w:World),(Builtin.min_ ts t #[.float .f64 H1,.float .f64 H2]).run prog w=.ok (.float .f64 NH) w)(hz:KC 38 #[.agg #[.float .f64 NL,.float .f64 NH]] (.agg #[.float .f64 ZL,.float .f64 ZH]))(w:World):Calls prog 70 #[.agg #[.float .f64 a,.float .f64 b],.agg #[.float .f64 c,.float .f64 d]] w (RT (.agg #[.float .f64 ZL,.float .f64 ZH]) w):=by
  go_enter func70,ntmps70
  go_upto_region 1 with fail
  go_cut [] (fun wx=>H6 wx w.heap.size (.float .f64 L1) (.float .f64 H1) (.float .f64 L2) (.float .f64 H2) (.float .f64 0) (.float .f64 0)∧Kp w wx)
  case first =>
   go_region_with (first|(go_at_call_of 38 (Value.agg #[.float .f64 a,.float .f64 b]);refine(hx _).mono ?_;rintro e wx ⟨rfl,i⟩;(have B:Kp w wx:=Kp.trans ((((Kp.refl w).alloc _).alloc _).alloc _).drew i;have k:=H6.keep (H6.new w (.float .f64 a) (.float .f64 b) (.float .f64 c) (.float .f64 d) (.float .f64 0) (.float .f64 0) 29 29 29) (Kp.trans (Kp.drew (Kp.refl _)) i);obtain⟨⟨r,u,q,n⟩,⟨y,x,g,p⟩,⟨o,h,l,m⟩⟩:=id k))|(go_at_call_of 38 (Value.agg #[.float .f64 c,.float .f64 d]);refine(hy _).mono ?_;rintro e F ⟨rfl,f⟩;(have D:=Kp.trans B f;have j:=H6.keep k f;obtain⟨⟨r,u,q,n⟩,⟨y,x,g,p⟩,⟨o,h,l,m⟩⟩:=id j)))
   all_goals (
    go_wp2_with fail
    go_meet
    (exact⟨H6.put (id j:H6 F w.heap.size (.float .f64 a) (.float .f64 b) (.float .f64 c) (.float .f64 d) (.float .f64 0) (.float .f64 0)) (.float .f64 L1) (.float .f64 H1) (.float .f64 L2) (.float .f64 H2),(((D.setCell (ao _) _).setCell (ao _) _).setCell (Nat.le_succ _) _).setCell (Nat.le_succ _) _⟩))
  case rest =>
  obtain⟨s,C⟩:=hcut
  obtain⟨⟨r,u,q,n⟩,⟨y,x,g,p⟩,⟨o,h,l,m⟩⟩:=id s
  go_wp2_with (first|(go_at_call_of 38 (Value.agg #[.float .f64 NL,.float .f64 NH]);refine(hz _).mono ?_;rintro e N ⟨rfl,z⟩;have A:=Kp.trans C z;have H:=H6.keep s z;obtain⟨⟨J,K,M,R⟩,⟨I,O,S,Q⟩,⟨E,G,L,P⟩⟩:=id H))
  exact BR (v:=.agg #[.float .f64 ZL,.float .f64 ZH]) ⟨rfl,(A.setCell (by simp<;>omega) _).setCell (by simp<;>omega) _⟩ (by simp[results,results70,go_sem,E,G])
theorem rY (a b c d:Nat)(L1 H1 L2 H2:Int)(hx:Rd a b L1 H1)(hy:Rd c d L2 H2)(w:World):Calls prog 70 #[.agg #[.float .f64 a,.float .f64 b],.agg #[.float .f64 c,.float .f64 d]] w (RT (.agg #[.float .f64 (pw (iL L1 H1 L2 H2)),.float .f64 (pw (iH L1 H1 L2 H2))]) w):=by
 have e:=uE L1 H1 L2 H2 hx.vd hy.vd
 have f:∀w:World,Calls prog 38 #[.agg #[.float .f64 (pw (max L1 L2)),.float .f64 (pw (min H1 H2))]] w (RT (.agg #[.float .f64 (pw (iL L1 H1 L2 H2)),.float .f64 (pw (iH L1 H1 L2 H2))]) w):=by
  intro w
  have g:=Fq.Hi (pw (max L1 L2)) (pw (min H1 H2)) (nF _ (sJ _ _ hx.vd.lo hy.vd.lo)) (nF _ (sI _ _ hx.vd.hi hy.vd.hi)) w
  rw[e.1,e.2]at g
  exact g
 exact Df a b c d _ _ _ _ _ _ hx.call hy.call _ _ (xC L1 L2 hx.vd.lo hy.vd.lo) (xz H1 H2 hx.vd.hi hy.vd.hi) f w
theorem DA (a b c d L1 H1 L2 H2 NL NH:Nat)(hx:KC 38 #[.agg #[.float .f64 a,.float .f64 b]] (.agg #[.float .f64 L1,.float .f64 H1]))(hy:KC 38 #[.agg #[.float .f64 c,.float .f64 d]] (.agg #[.float .f64 L2,.float .f64 H2]))(hm1:∀(ts:Array TypeId)(t:TypeId)(w:World),(Builtin.min_ ts t #[.float .f64 L1,.float .f64 L2]).run prog w=.ok (.float .f64 NL) w)(hm2:∀(ts:Array TypeId)(t:TypeId)(w:World),(Builtin.max_ ts t #[.float .f64 H1,.float .f64 H2]).run prog w=.ok (.float .f64 NH) w)(w:World):Calls prog 88 #[.agg #[.float .f64 a,.float .f64 b],.agg #[.float .f64 c,.float .f64 d]] w (RT (.agg #[.float .f64 NL,.float .f64 NH]) w):=by
  go_enter func88,ntmps88
  go_upto_region 1 with fail
  go_cut [] (fun wx=>H6 wx w.heap.size (.float .f64 L1) (.float .f64 H1) (.float .f64 L2) (.float .f64 H2) (.float .f64 0) (.float .f64 0)∧Kp w wx)
  case first =>
   go_region_with (first|(go_at_call_of 38 (Value.agg #[.float .f64 a,.float .f64 b]);refine(hx _).mono ?_;rintro e wx ⟨rfl,l⟩;(have z:Kp w wx:=Kp.trans ((((Kp.refl w).alloc _).alloc _).alloc _).drew l;have p:=H6.keep (H6.new w (.float .f64 a) (.float .f64 b) (.float .f64 c) (.float .f64 d) (.float .f64 0) (.float .f64 0) 29 29 29) (Kp.trans (Kp.drew (Kp.refl _)) l);obtain⟨⟨m,o,k,x⟩,⟨r,q,j,i⟩,⟨g,f,s,u⟩⟩:=id p))|(go_at_call_of 38 (Value.agg #[.float .f64 c,.float .f64 d]);refine(hy _).mono ?_;rintro e C ⟨rfl,h⟩;(have B:=Kp.trans z h;have n:=H6.keep p h;obtain⟨⟨m,o,k,x⟩,⟨r,q,j,i⟩,⟨g,f,s,u⟩⟩:=id n)))
   all_goals (
    go_wp2_with fail
    go_meet
    (exact⟨H6.put (id n:H6 C w.heap.size (.float .f64 a) (.float .f64 b) (.float .f64 c) (.float .f64 d) (.float .f64 0) (.float .f64 0)) (.float .f64 L1) (.float .f64 H1) (.float .f64 L2) (.float .f64 H2),(((B.setCell (ao _) _).setCell (ao _) _).setCell (Nat.le_succ _) _).setCell (Nat.le_succ _) _⟩))
  case rest =>
  obtain⟨A,y⟩:=hcut
  obtain⟨⟨m,o,k,x⟩,⟨r,q,j,i⟩,⟨g,f,s,u⟩⟩:=id A
  go_wp2
  exact BR (v:=.agg #[.float .f64 NL,.float .f64 NH]) ⟨rfl,(y.setCell (by simp<;>omega) _).setCell (by simp<;>omega) _⟩ (by simp[results,results88,go_sem,g,f])
theorem DB (a b c d:Nat)(L1 H1 L2 H2:Int)(hx:Rd a b L1 H1)(hy:Rd c d L2 H2)(w:World):Calls prog 88 #[.agg #[.float .f64 a,.float .f64 b],.agg #[.float .f64 c,.float .f64 d]] w (RT (.agg #[.float .f64 (pw (min L1 L2)),.float .f64 (pw (max H1 H2))]) w) :=
 DA a b c d _ _ _ _ _ _ hx.call hy.call (xz L1 L2 hx.vd.lo hy.vd.lo) (xC H1 H2 hx.vd.hi hy.vd.hi) w
theorem DW (a b c d ZL ZH:Nat)(V:Bool)(hi:KC 70 #[.agg #[.float .f64 a,.float .f64 b],.agg #[.float .f64 c,.float .f64 d]] (.agg #[.float .f64 ZL,.float .f64 ZH]))(hv:KC 144 #[.agg #[.float .f64 ZL,.float .f64 ZH]] (.bool V))(w:World):Calls prog 115 #[.agg #[.float .f64 a,.float .f64 b],.agg #[.float .f64 c,.float .f64 d]] w (RT (.bool V) w):=by
 go_enter func115,ntmps115
 go_wp2_with (first|(go_at_call 70;refine(hi _).mono ?_;rintro e j ⟨rfl,g⟩;have f:Kp w j:=Kp.trans (((Kp.refl w).alloc _).alloc _) g)|(go_at_call 144;refine(hv _).mono ?_;rintro e h ⟨rfl,k⟩;have i:Kp w h:=Kp.trans f k))
 exact BR ⟨rfl,i⟩
theorem DY (a b c d:Nat)(L1 H1 L2 H2:Int)(hx:Rd a b L1 H1)(hy:Rd c d L2 H2)(w:World):Calls prog 115 #[.agg #[.float .f64 a,.float .f64 b],.agg #[.float .f64 c,.float .f64 d]] w (RT (.bool (decide (¬max L1 L2<=min H1 H2))) w):=by
 have h:=DW a b c d _ _ _ (rY a b c d L1 H1 L2 H2 hx hy) (vP _ _ (oi L1 H1 L2 H2 hx.vd hy.vd)) w
 rw[show decide (iL L1 H1 L2 H2=9218868437227405312)=decide (¬max L1 L2<=min H1 H2)from by
  congr 1;apply propext
  have f:=hx.vd
  have g:=hy.vd
  unfold VdZ at f g
  unfold iL
  split<;>omega]at h
 exact h
theorem Aj (a b ZL ZH:Nat)(V:Bool)(hx:KC 38 #[.agg #[.float .f64 a,.float .f64 b]] (.agg #[.float .f64 ZL,.float .f64 ZH]))(hv:KC 144 #[.agg #[.float .f64 ZL,.float .f64 ZH]] (.bool V))(w:World):Calls prog 87 #[.agg #[.float .f64 a,.float .f64 b]] w (RT (.bool V) w):=by
 go_enter func87,ntmps87
 go_wp2_with (first|(go_at_call 38;refine(hx _).mono ?_;rintro e h ⟨rfl,d⟩;have c:Kp w h:=Kp.trans ((Kp.refl w).alloc _) d)|(go_at_call 144;refine(hv _).mono ?_;rintro e f ⟨rfl,i⟩;have g:Kp w f:=Kp.trans c i))
 exact BR ⟨rfl,g⟩
theorem mj (a b:Nat)(L H:Int)(hx:Rd a b L H)(w:World):Calls prog 87 #[.agg #[.float .f64 a,.float .f64 b]] w (RT (.bool (decide (L=9218868437227405312))) w) :=
 Aj a b _ _ _ hx.call (vP L H hx.vd) w
end Go.Proofs.YtmpjcknaelgnoaaGreatDoor
