import Derived.Test.YtmpjcknaelgnoaaGreatDoorKZC
set_option maxHeartbeats 4000000
set_option maxRecDepth 20000
namespace Go.Proofs.YtmpjcknaelgnoaaGreatDoor
open Go.RowKit Tryz
set_option linter.all false
set_option maxHeartbeats 20000000 in
theorem mf:(∀(X f0 E0 f D La Lb A9 B9:Nat)(E1 e1 e la lb lc:Int)(p:Option Addr)(c:Nat)(q:Option Addr)(d:Nat)(f1:bits BinOp.and IntKind.u64 (X:Int) 4503599627370495=(f0:Int))(f2:(X:Int)/4503599627370496=(E0:Int))(f6:IntKind.i64.wrap (E0:Int)=(E0:Int))(t:(0:Int)<(E0:Int))(f3:IntKind.u64.wrap ((f0:Int)+4503599627370496)=(f:Int))(f4:wrap64 ((E0:Int)-1)=E1)(f5:wrap64 (E1-1074)=e1)(f7:wrap64 (e1*1)=e)(f8:wrap64 e1=e)(f9:wrap64 ((La:Int)+e)=la)(fa:wrap64 ((Lb:Int)+1)=lb)(fb:wrap64 ((Lb:Int)-1)=lc)(t1:lb<la)(hsm:∀W:World,Calls prog 158 #[.int .u64 (f:Int)] W fun e w'=>∃v,e=.returned v∧Own w' W.heap.size v (az (f))∧Kp W w')(hpw:∀(W:World)(p:Option Addr)(c:Nat),Arr W p (az f)->(az f).length<=c->Calls prog 216 #[.slice p (az f).length c,.int .i64 1] W fun e w'=>∃v,e=.returned v∧Own w' W.heap.size v (az (f))∧Kp W w')(w:World)(htm:∀(W:World)(p1:Option Addr)(c1:Nat),Kp w W->Arr W p1 (az f)->(az f).length<=c1->Calls prog 135 #[.slice p1 (az f).length c1,.slice q B9 d] W fun e w'=>∃v,e=.returned v∧Own w' W.heap.size v (az (D))∧Kp W w')(hla:∀(W:World)(p3:Option Addr)(c3:Nat),Arr W p3 (az D)->(az D).length<=c3->Calls prog 202 #[.slice p3 (az D).length c3] W (RE (.int .i64 (La:Int)) W))(hlb:∀W:World,Kp w W->Calls prog 202 #[.slice p A9 c] W (RE (.int .i64 (Lb:Int)) W)),Calls prog 184 #[.int .u64 (X:Int),.int .i64 1,.agg #[.bool false,.slice p A9 c,.slice q B9 d]] w (RT (.int .i64 1) w))∧(∀(X f0 E0 f D La Lb A9 B9:Nat)(E1 e1 e la lb lc:Int)(p:Option Addr)(c:Nat)(q:Option Addr)(d:Nat)(f1:bits BinOp.and IntKind.u64 (X:Int) 4503599627370495=(f0:Int))(f2:(X:Int)/4503599627370496=(E0:Int))(f6:IntKind.i64.wrap (E0:Int)=(E0:Int))(t:(0:Int)<(E0:Int))(f3:IntKind.u64.wrap ((f0:Int)+4503599627370496)=(f:Int))(f4:wrap64 ((E0:Int)-1)=E1)(f5:wrap64 (E1-1074)=e1)(f7:wrap64 (e1*1)=e)(f8:wrap64 e1=e)(f9:wrap64 ((La:Int)+e)=la)(fa:wrap64 ((Lb:Int)+1)=lb)(fb:wrap64 ((Lb:Int)-1)=lc)(t1:¬lb<la)(t2:la<lc)(hsm:∀W:World,Calls prog 158 #[.int .u64 (f:Int)] W fun e w'=>∃v,e=.returned v∧Own w' W.heap.size v (az (f))∧Kp W w')(hpw:∀(W:World)(p:Option Addr)(c:Nat),Arr W p (az f)->(az f).length<=c->Calls prog 216 #[.slice p (az f).length c,.int .i64 1] W fun e w'=>∃v,e=.returned v∧Own w' W.heap.size v (az (f))∧Kp W w')(w:World)(htm:∀(W:World)(p1:Option Addr)(c1:Nat),Kp w W->Arr W p1 (az f)->(az f).length<=c1->Calls prog 135 #[.slice p1 (az f).length c1,.slice q B9 d] W fun e w'=>∃v,e=.returned v∧Own w' W.heap.size v (az (D))∧Kp W w')(hla:∀(W:World)(p3:Option Addr)(c3:Nat),Arr W p3 (az D)->(az D).length<=c3->Calls prog 202 #[.slice p3 (az D).length c3] W (RE (.int .i64 (La:Int)) W))(hlb:∀W:World,Kp w W->Calls prog 202 #[.slice p A9 c] W (RE (.int .i64 (Lb:Int)) W)),Calls prog 184 #[.int .u64 (X:Int),.int .i64 1,.agg #[.bool false,.slice p A9 c,.slice q B9 d]] w (RT (.int .i64 (-1)) w))∧(∀(X f D La Lb A9 B9:Nat)(la lb lc:Int)(p:Option Addr)(c:Nat)(q:Option Addr)(d:Nat)(f1:bits BinOp.and IntKind.u64 (X:Int) 4503599627370495=(f:Int))(f2:(X:Int)/4503599627370496=0)  (f9:wrap64 ((La:Int) + -1074)=la)(f9':wrap64 ((La:Int)-1074)=la)(fa:wrap64 ((Lb:Int)+1)=lb)(fb:wrap64 ((Lb:Int)-1)=lc)(t1:lb<la)(hsm:∀W:World,Calls prog 158 #[.int .u64 (f:Int)] W fun e w'=>∃v,e=.returned v∧Own w' W.heap.size v (az (f))∧Kp W w')(hpw:∀(W:World)(p:Option Addr)(c:Nat),Arr W p (az f)->(az f).length<=c->Calls prog 216 #[.slice p (az f).length c,.int .i64 1] W fun e w'=>∃v,e=.returned v∧Own w' W.heap.size v (az (f))∧Kp W w')(w:World)(htm:∀(W:World)(p1:Option Addr)(c1:Nat),Kp w W->Arr W p1 (az f)->(az f).length<=c1->Calls prog 135 #[.slice p1 (az f).length c1,.slice q B9 d] W fun e w'=>∃v,e=.returned v∧Own w' W.heap.size v (az (D))∧Kp W w')(hla:∀(W:World)(p3:Option Addr)(c3:Nat),Arr W p3 (az D)->(az D).length<=c3->Calls prog 202 #[.slice p3 (az D).length c3] W (RE (.int .i64 (La:Int)) W))(hlb:∀W:World,Kp w W->Calls prog 202 #[.slice p A9 c] W (RE (.int .i64 (Lb:Int)) W)),Calls prog 184 #[.int .u64 (X:Int),.int .i64 1,.agg #[.bool false,.slice p A9 c,.slice q B9 d]] w (RT (.int .i64 1) w))∧(∀(X f D La Lb A9 B9:Nat)(la lb lc:Int)(p:Option Addr)(c:Nat)(q:Option Addr)(d:Nat)(f1:bits BinOp.and IntKind.u64 (X:Int) 4503599627370495=(f:Int))(f2:(X:Int)/4503599627370496=0)  (f9:wrap64 ((La:Int) + -1074)=la)(f9':wrap64 ((La:Int)-1074)=la)(fa:wrap64 ((Lb:Int)+1)=lb)(fb:wrap64 ((Lb:Int)-1)=lc)(t1:¬lb<la)(t2:la<lc)(hsm:∀W:World,Calls prog 158 #[.int .u64 (f:Int)] W fun e w'=>∃v,e=.returned v∧Own w' W.heap.size v (az (f))∧Kp W w')(hpw:∀(W:World)(p:Option Addr)(c:Nat),Arr W p (az f)->(az f).length<=c->Calls prog 216 #[.slice p (az f).length c,.int .i64 1] W fun e w'=>∃v,e=.returned v∧Own w' W.heap.size v (az (f))∧Kp W w')(w:World)(htm:∀(W:World)(p1:Option Addr)(c1:Nat),Kp w W->Arr W p1 (az f)->(az f).length<=c1->Calls prog 135 #[.slice p1 (az f).length c1,.slice q B9 d] W fun e w'=>∃v,e=.returned v∧Own w' W.heap.size v (az (D))∧Kp W w')(hla:∀(W:World)(p3:Option Addr)(c3:Nat),Arr W p3 (az D)->(az D).length<=c3->Calls prog 202 #[.slice p3 (az D).length c3] W (RE (.int .i64 (La:Int)) W))(hlb:∀W:World,Kp w W->Calls prog 202 #[.slice p A9 c] W (RE (.int .i64 (Lb:Int)) W)),Calls prog 184 #[.int .u64 (X:Int),.int .i64 1,.agg #[.bool false,.slice p A9 c,.slice q B9 d]] w (RT (.int .i64 (-1)) w)):=by
 refine⟨?_,?_,?_,?_⟩
 case' refine_1=>intro X f0 E0 f D La Lb A9 B9 E1 e1 e la lb lc p c q d f1 f2 f6 t f3 f4 f5 f7 f8 f9 fa fb t1 hsm hpw w htm hla hlb;have s:=trivial
 case' refine_2=>intro X f0 E0 f D La Lb A9 B9 E1 e1 e la lb lc p c q d f1 f2 f6 t f3 f4 f5 f7 f8 f9 fa fb t1 t2 hsm hpw w htm hla hlb;have o:=trivial
 case' refine_3=>intro X f D La Lb A9 B9 la lb lc p c q d f1 f2 f9 f9' fa fb t1 hsm hpw w htm hla hlb;have u:=trivial
 case' refine_4=>intro X f D La Lb A9 B9 la lb lc p c q d f1 f2 f9 f9' fa fb t1 t2 hsm hpw w htm hla hlb;have n:=trivial
 all_goals (
  go_enter func184,ntmps184
  go_wp2
  obtain⟨W,a⟩:=aA (w.alloc (.cells #[.bool false,.slice p A9 c,.slice q B9 d] 57))
  have x0:W.cell? ⟨w.heap.size,0,none⟩=some (.bool false):=by subst a;simp[go_sem]
  have j:W.cell? ⟨w.heap.size,1,none⟩=some (.slice p A9 c):=by subst a;simp[go_sem]
  have m:W.cell? ⟨w.heap.size,2,none⟩=some (.slice q B9 d):=by subst a;simp[go_sem]
  have k:Kp w W:=by subst a;exact(Kp.refl w).alloc _
  rw[<-a];clear a
  have J:W.drew.cell? ⟨w.heap.size,0,none⟩=some (.bool false):=x0
  have x:W.drew.cell? ⟨w.heap.size,1,none⟩=some (.slice p A9 c):=j
  have S:W.drew.cell? ⟨w.heap.size,2,none⟩=some (.slice q B9 d):=m
  go_region_held3 (fun w'=>w'.cell? ⟨w.heap.size,0,none⟩=some (.bool false)∧w'.cell? ⟨w.heap.size,1,none⟩=some (.slice p A9 c)∧w'.cell? ⟨w.heap.size,2,none⟩=some (.slice q B9 d)) (first|(with_reducible exact⟨J,x,S⟩)|(with_reducible exact⟨i0,E,y⟩)|(with_reducible exact⟨O,I,L⟩)|(with_reducible exact⟨P,K,z⟩)) (first|(go_at_call 158;refine(hsm _).mono ?_;rintro e H ⟨r,rfl,A,F⟩;obtain⟨p1,c1,rfl,V,Z⟩:=A.arr;have l:Kp W H:=Kp.trans (Kp.drew (Kp.refl _)) F;have i0:=ac l x0;have E:=ac l j;have y:=ac l m)|(go_at_call 216;refine(hpw _ _ _ V Z).mono ?_;rintro e G ⟨r,rfl,o2,N⟩;obtain⟨p2,c2,rfl,U,Q⟩:=o2.arr;have i:Kp W G:=Kp.trans l N;have O:=ac i x0;have I:=ac i j;have L:=ac i m)|(go_at_call 135;refine(htm _ _ _ (Kp.trans k i) U Q).mono ?_;rintro e T ⟨r,rfl,R,B⟩;obtain⟨p3,c3,rfl,Y,M⟩:=R.arr;have h:Kp W T:=Kp.trans i B;have P:=ac h x0;have K:=ac h j;have z:=ac h m))
  go_wp2_with (first|(go_at_call_of 202 (Value.slice p3 (az D).length c3);refine(hla _ _ _ Y M).mono ?_;rintro e C ⟨rfl,b⟩;obtain rfl:=b.symm;clear b)|(go_at_call_of 202 (Value.slice p A9 c);refine(hlb _ (Kp.trans k h)).mono ?_;rintro e C ⟨rfl,b⟩;obtain rfl:=b.symm;clear b))
  first
  |((first|(have g:=s;clear g)|(have g:=u;clear g));exact BR ⟨rfl,(Kp.trans k h)⟩)
  |((first|(have g:=o;clear g)|(have g:=n;clear g));exact BR ⟨rfl,(Kp.trans k h)⟩))
set_option maxHeartbeats 20000000 in
theorem oQ:(∀(X f0 E0 f D La Lb A9 B9:Nat)(E1 e1 e la lb lc:Int)(p:Option Addr)(c:Nat)(q:Option Addr)(d:Nat)(f1:bits BinOp.and IntKind.u64 (X:Int) 4503599627370495=(f0:Int))(f2:(X:Int)/4503599627370496=(E0:Int))(f6:IntKind.i64.wrap (E0:Int)=(E0:Int))(t:(0:Int)<(E0:Int))(f3:IntKind.u64.wrap ((f0:Int)+4503599627370496)=(f:Int))(f4:wrap64 ((E0:Int)-1)=E1)(f5:wrap64 (E1-1074)=e1)(f7:wrap64 (e1*1)=e)(f8:wrap64 e1=e)(f9:wrap64 ((La:Int)+e)=la)(fa:wrap64 ((Lb:Int)+1)=lb)(fb:wrap64 ((Lb:Int)-1)=lc)(t1:¬lb<la)(t2:¬la<lc)(t3:(0:Int)<=e)(hsm:∀W:World,Calls prog 158 #[.int .u64 (f:Int)] W fun e w'=>∃v,e=.returned v∧Own w' W.heap.size v (az (f))∧Kp W w')(hpw:∀(W:World)(p:Option Addr)(c:Nat),Arr W p (az f)->(az f).length<=c->Calls prog 216 #[.slice p (az f).length c,.int .i64 1] W fun e w'=>∃v,e=.returned v∧Own w' W.heap.size v (az (f))∧Kp W w')(w:World)(htm:∀(W:World)(p1:Option Addr)(c1:Nat),Kp w W->Arr W p1 (az f)->(az f).length<=c1->Calls prog 135 #[.slice p1 (az f).length c1,.slice q B9 d] W fun e w'=>∃v,e=.returned v∧Own w' W.heap.size v (az (D))∧Kp W w')(hla:∀(W:World)(p3:Option Addr)(c3:Nat),Arr W p3 (az D)->(az D).length<=c3->Calls prog 202 #[.slice p3 (az D).length c3] W (RE (.int .i64 (La:Int)) W))(hlb:∀W:World,Kp w W->Calls prog 202 #[.slice p A9 c] W (RE (.int .i64 (Lb:Int)) W))(N R:Int)(M:Nat)(hlf:∀(W:World)(p3:Option Addr)(c3:Nat),Arr W p3 (az D)->(az D).length<=c3->Calls prog 171 #[.slice p3 (az D).length c3,.int .i64 e] W fun e w'=>∃v,e=.returned v∧Own w' W.heap.size v (az (M))∧Kp W w')(hcm:∀(W:World)(p4:Option Addr)(c4:Nat),Kp w W->Arr W p4 (az M)->(az M).length<=c4->Calls prog 134 #[.slice p4 (az M).length c4,.slice p A9 c] W (RT (.int .i64 R) W)),Calls prog 184 #[.int .u64 (X:Int),.int .i64 1,.agg #[.bool false,.slice p A9 c,.slice q B9 d]] w (RT (.int .i64 R) w))∧(∀(X f0 E0 f D La Lb A9 B9:Nat)(E1 e1 e la lb lc:Int)(p:Option Addr)(c:Nat)(q:Option Addr)(d:Nat)(f1:bits BinOp.and IntKind.u64 (X:Int) 4503599627370495=(f0:Int))(f2:(X:Int)/4503599627370496=(E0:Int))(f6:IntKind.i64.wrap (E0:Int)=(E0:Int))(t:(0:Int)<(E0:Int))(f3:IntKind.u64.wrap ((f0:Int)+4503599627370496)=(f:Int))(f4:wrap64 ((E0:Int)-1)=E1)(f5:wrap64 (E1-1074)=e1)(f7:wrap64 (e1*1)=e)(f8:wrap64 e1=e)(f9:wrap64 ((La:Int)+e)=la)(fa:wrap64 ((Lb:Int)+1)=lb)(fb:wrap64 ((Lb:Int)-1)=lc)(t1:¬lb<la)(t2:¬la<lc)(t3:¬(0:Int)<=e)(en:Int)(fe:wrap64 (-e)=en)(hsm:∀W:World,Calls prog 158 #[.int .u64 (f:Int)] W fun e w'=>∃v,e=.returned v∧Own w' W.heap.size v (az (f))∧Kp W w')(hpw:∀(W:World)(p:Option Addr)(c:Nat),Arr W p (az f)->(az f).length<=c->Calls prog 216 #[.slice p (az f).length c,.int .i64 1] W fun e w'=>∃v,e=.returned v∧Own w' W.heap.size v (az (f))∧Kp W w')(w:World)(htm:∀(W:World)(p1:Option Addr)(c1:Nat),Kp w W->Arr W p1 (az f)->(az f).length<=c1->Calls prog 135 #[.slice p1 (az f).length c1,.slice q B9 d] W fun e w'=>∃v,e=.returned v∧Own w' W.heap.size v (az (D))∧Kp W w')(hla:∀(W:World)(p3:Option Addr)(c3:Nat),Arr W p3 (az D)->(az D).length<=c3->Calls prog 202 #[.slice p3 (az D).length c3] W (RE (.int .i64 (La:Int)) W))(hlb:∀W:World,Kp w W->Calls prog 202 #[.slice p A9 c] W (RE (.int .i64 (Lb:Int)) W))(N R:Int)(M:Nat)(hlf:∀W:World,Kp w W->Calls prog 171 #[.slice p A9 c,.int .i64 en] W fun e w'=>∃v,e=.returned v∧Own w' W.heap.size v (az (M))∧Kp W w')(hcm:∀(W:World)(p3 p4:Option Addr)(c3 c4:Nat),Arr W p3 (az D)->(az D).length<=c3->Arr W p4 (az M)->(az M).length<=c4->Calls prog 134 #[.slice p3 (az D).length c3,.slice p4 (az M).length c4] W (RT (.int .i64 R) W)),Calls prog 184 #[.int .u64 (X:Int),.int .i64 1,.agg #[.bool false,.slice p A9 c,.slice q B9 d]] w (RT (.int .i64 R) w))∧(∀(X f D La Lb A9 B9:Nat)(la lb lc:Int)(p:Option Addr)(c:Nat)(q:Option Addr)(d:Nat)(f1:bits BinOp.and IntKind.u64 (X:Int) 4503599627370495=(f:Int))(f2:(X:Int)/4503599627370496=0)  (f9:wrap64 ((La:Int) + -1074)=la)(f9':wrap64 ((La:Int)-1074)=la)(fa:wrap64 ((Lb:Int)+1)=lb)(fb:wrap64 ((Lb:Int)-1)=lc)(t1:¬lb<la)(t2:¬la<lc)(hsm:∀W:World,Calls prog 158 #[.int .u64 (f:Int)] W fun e w'=>∃v,e=.returned v∧Own w' W.heap.size v (az (f))∧Kp W w')(hpw:∀(W:World)(p:Option Addr)(c:Nat),Arr W p (az f)->(az f).length<=c->Calls prog 216 #[.slice p (az f).length c,.int .i64 1] W fun e w'=>∃v,e=.returned v∧Own w' W.heap.size v (az (f))∧Kp W w')(w:World)(htm:∀(W:World)(p1:Option Addr)(c1:Nat),Kp w W->Arr W p1 (az f)->(az f).length<=c1->Calls prog 135 #[.slice p1 (az f).length c1,.slice q B9 d] W fun e w'=>∃v,e=.returned v∧Own w' W.heap.size v (az (D))∧Kp W w')(hla:∀(W:World)(p3:Option Addr)(c3:Nat),Arr W p3 (az D)->(az D).length<=c3->Calls prog 202 #[.slice p3 (az D).length c3] W (RE (.int .i64 (La:Int)) W))(hlb:∀W:World,Kp w W->Calls prog 202 #[.slice p A9 c] W (RE (.int .i64 (Lb:Int)) W))(N R:Int)(M:Nat)(hlf:∀W:World,Kp w W->Calls prog 171 #[.slice p A9 c,.int .i64 1074] W fun e w'=>∃v,e=.returned v∧Own w' W.heap.size v (az (M))∧Kp W w')(hcm:∀(W:World)(p3 p4:Option Addr)(c3 c4:Nat),Arr W p3 (az D)->(az D).length<=c3->Arr W p4 (az M)->(az M).length<=c4->Calls prog 134 #[.slice p3 (az D).length c3,.slice p4 (az M).length c4] W (RT (.int .i64 R) W)),Calls prog 184 #[.int .u64 (X:Int),.int .i64 1,.agg #[.bool false,.slice p A9 c,.slice q B9 d]] w (RT (.int .i64 R) w)):=by
 refine⟨?_,?_,?_⟩
 case' refine_1=>intro X f0 E0 f D La Lb A9 B9 E1 e1 e la lb lc p c q d f1 f2 f6 t f3 f4 f5 f7 f8 f9 fa fb t1 t2 t3 hsm hpw w htm hla hlb N R M hlf hcm;have E:=trivial
 case' refine_2=>intro X f0 E0 f D La Lb A9 B9 E1 e1 e la lb lc p c q d f1 f2 f6 t f3 f4 f5 f7 f8 f9 fa fb t1 t2 t3 en fe hsm hpw w htm hla hlb N R M hlf hcm;have C:=trivial
 case' refine_3=>intro X f D La Lb A9 B9 la lb lc p c q d f1 f2 f9 f9' fa fb t1 t2 hsm hpw w htm hla hlb N R M hlf hcm;have F:=trivial
 all_goals (
  go_enter func184,ntmps184
  go_wp2
  obtain⟨W,b⟩:=aA (w.alloc (.cells #[.bool false,.slice p A9 c,.slice q B9 d] 57))
  have x0:W.cell? ⟨w.heap.size,0,none⟩=some (.bool false):=by subst b;simp[go_sem]
  have m:W.cell? ⟨w.heap.size,1,none⟩=some (.slice p A9 c):=by subst b;simp[go_sem]
  have o:W.cell? ⟨w.heap.size,2,none⟩=some (.slice q B9 d):=by subst b;simp[go_sem]
  have h:Kp w W:=by subst b;exact(Kp.refl w).alloc _
  rw[<-b];clear b
  have V:W.drew.cell? ⟨w.heap.size,0,none⟩=some (.bool false):=x0
  have H:W.drew.cell? ⟨w.heap.size,1,none⟩=some (.slice p A9 c):=m
  have d2:W.drew.cell? ⟨w.heap.size,2,none⟩=some (.slice q B9 d):=o
  go_region_held3 (fun w'=>w'.cell? ⟨w.heap.size,0,none⟩=some (.bool false)∧w'.cell? ⟨w.heap.size,1,none⟩=some (.slice p A9 c)∧w'.cell? ⟨w.heap.size,2,none⟩=some (.slice q B9 d)) (first|(with_reducible exact⟨V,H,d2⟩)|(with_reducible exact⟨i0,P,I⟩)|(with_reducible exact⟨j0,U,Z⟩)|(with_reducible exact⟨m0,Y,J⟩)) (first|(go_at_call 158;refine(hsm _).mono ?_;rintro e T ⟨r,rfl,K,Q⟩;obtain⟨p1,c1,rfl,a1,l1⟩:=K.arr;have n:Kp W T:=Kp.trans (Kp.drew (Kp.refl _)) Q;have i0:=ac n x0;have P:=ac n m;have I:=ac n o)|(go_at_call 216;refine(hpw _ _ _ a1 l1).mono ?_;rintro e S ⟨r,rfl,o2,g2⟩;obtain⟨p2,c2,rfl,a2,l2⟩:=o2.arr;have l:Kp W S:=Kp.trans n g2;have j0:=ac l x0;have U:=ac l m;have Z:=ac l o)|(go_at_call 135;refine(htm _ _ _ (Kp.trans h l) a2 l2).mono ?_;rintro e w3 ⟨r,rfl,o3,L⟩;obtain⟨p3,c3,rfl,i,s⟩:=o3.arr;have g:Kp W w3:=Kp.trans l L;have m0:=ac g x0;have Y:=ac g m;have J:=ac g o))
  first
  |(have k:=E;clear k;go_wp2_with (first|(go_at_call_of 202 (Value.slice p3 (az D).length c3);refine(hla _ _ _ i s).mono ?_;rintro e z ⟨rfl,a⟩;obtain rfl:=a.symm;clear a)|(go_at_call_of 202 (Value.slice p A9 c);refine(hlb _ (Kp.trans h g)).mono ?_;rintro e z ⟨rfl,a⟩;obtain rfl:=a.symm;clear a)|(go_at_call 171;refine(hlf _ _ _ i s).mono ?_;rintro e O ⟨r,rfl,y,j⟩;obtain⟨p4,c4,rfl,x,u⟩:=y.arr)|(go_at_call 134;refine(hcm _ _ _ (Kp.trans (Kp.trans h g) j) x u).mono ?_;rintro e B ⟨rfl,A⟩;have G:Kp w B:=Kp.trans (Kp.trans (Kp.trans h g) j) A)))
  |((first|(have k:=C;clear k)|(have k:=F;clear k));go_wp2_with (first|(go_at_call_of 202 (Value.slice p3 (az D).length c3);refine(hla _ _ _ i s).mono ?_;rintro e z ⟨rfl,a⟩;obtain rfl:=a.symm;clear a)|(go_at_call_of 202 (Value.slice p A9 c);refine(hlb _ (Kp.trans h g)).mono ?_;rintro e z ⟨rfl,a⟩;obtain rfl:=a.symm;clear a)|(go_at_call 171;refine(hlf _ (Kp.trans h g)).mono ?_;rintro e O ⟨r,rfl,y,j⟩;obtain⟨p4,c4,rfl,x,u⟩:=y.arr;replace i:=i.grown j)|(go_at_call 134;refine(hcm _ _ _ _ _ i s x u).mono ?_;rintro e B ⟨rfl,A⟩;have G:Kp w B:=Kp.trans (Kp.trans (Kp.trans h g) j) A)))
  exact BR ⟨rfl,G⟩)
theorem ie (n:Nat):aS n<=aq n:=by
 by_cases c:aq n<aS n
 ·exfalso
  have a:=gZ n _ c
  have b:n<2^aq n:=(ay n (aq n)).1 (ao _)
  have d:2^aq n<=4294967296^aq n:=Nat.pow_le_pow_left (by decide) _
  omega
 ·omega

theorem mq (x y z:Nat)(h:z≠0):eh ((x*z:Nat):Int) ((y*z:Nat):Int)=eh (x:Int) y:=by
 have a:0<z:=by omega
 rcases Nat.lt_trichotomy x y with g|g|g
 ·have:=am g a
  rw[fc _ _ (by omega),fc _ _ (by omega)]
 ·rw[g];unfold eh;simp
 ·have:=am g a
  rw[eK _ _ (by omega),eK _ _ (by omega)]
theorem ri (x y:Nat):dW x y=eh (x:Int) y:=by unfold dW eh;simp only[Int.ofNat_lt]
theorem xd (x k:Nat)(h:k<aq x):2^k<=x:=by
 rcases cO x (2^k)with g|g
 ·have:=(ay x k).2 g;omega
 ·exact g
theorem kq (x:Nat):x<2^aq x:=(ay x (aq x)).1 (ao _)
theorem tQ (D a E K:Nat)(h:aq a+K+1<aq D+E)(hD:0<aq D):a*2^K<D*2^E:=by
 have b:=kq a
 have c:=xd D (aq D-1) (by omega)
 calc a*2^K<2^aq a*2^K:=am b (ah K)
  _=2^(aq a+K):=(ag 2 _ _).symm
  _<=2^(aq D-1+E):=al (by decide) (by omega)
  _=2^(aq D-1)*2^E:=ag 2 _ _
  _<=D*2^E:=ai _ c
theorem tP (D a E K:Nat)(h:aq D+E+1<aq a+K)(ha:a≠0)(hK:0<aq a):D*2^E<a*2^K:=by
 have b:=kq D
 have c:=xd a (aq a-1) (by omega)
 calc D*2^E<2^aq D*2^E:=am b (ah E)
  _=2^(aq D+E):=(ag 2 _ _).symm
  _<=2^(aq a-1+K):=al (by decide) (by omega)
  _=2^(aq a-1)*2^K:=ag 2 _ _
  _<=a*2^K:=ai _ c
theorem AY (x:Int)(h1:-1000000000<=x)(h2:x<=1000000000):wrap64 x=x:=eQ x (by omega) (by omega)
theorem Iq (D:Nat)(h:D<=100053):wrap64 ((D:Int) + -1074)=(D:Int)-1074:=by rw[AY _ (by omega) (by omega)];omega
theorem Ip (D:Nat)(h:D<=100053):wrap64 ((D:Int)-1074)=(D:Int)-1074:=AY _ (by omega) (by omega)
theorem Io (a:Nat)(h:a<=100053):wrap64 ((a:Int)+1)=(a:Int)+1:=AY _ (by omega) (by omega)
theorem Im (a:Nat)(h:a<=100053):wrap64 ((a:Int)-1)=(a:Int)-1:=AY _ (by omega) (by omega)
theorem Il (D E:Nat)(h:D<=100053)(g:E<=2046):wrap64 ((D:Int)+((E:Int)-1074))=(D:Int)+((E:Int)-1074):=AY _ (by omega) (by omega)
theorem Ik (E0 E:Nat)(h:E0<=2047)(g:E=E0-1)(k:0<E0):wrap64 ((E0:Int)-1)=(E:Int):=by rw[AY _ (by omega) (by omega)];omega
theorem Ij (E:Nat)(g:E<=2046):wrap64 ((E:Int)-1074)=(E:Int)-1074:=AY _ (by omega) (by omega)
theorem Ii (f0 f:Nat)(h:f0<4503599627370496)(g:f=f0+4503599627370496):IntKind.u64.wrap ((f0:Int)+4503599627370496)=(f:Int):=by rw[IntKind.wrap_u64];omega
theorem Ih (j:Nat)(h:j<=1074):wrap64 (j:Int)=(j:Int):=AY _ (by omega) (by omega)
theorem Ig (D A E K:Nat)(hK:K=1074)(hE:E=0)(t:(A:Int)+1<(D:Int)-1074):A+K+1<D+E:=by omega
theorem Ie (D A E K:Nat)(hK:K=1074)(hE:E=0)(t:(D:Int)-1074<(A:Int)-1):D+E+1<A+K:=by omega
theorem Id (D A E K:Nat)(hK:K=1074)(t:(A:Int)+1<(D:Int)+((E:Int)-1074)):A+K+1<D+E:=by omega
theorem Ic (D A E K:Nat)(hK:K=1074)(t:(D:Int)+((E:Int)-1074)<(A:Int)-1):D+E+1<A+K:=by omega
theorem Ib (E:Nat)(hE:E<=2046)(t:(0:Int)<=(E:Int)-1074):∃j:Nat,(E:Int)-1074=j∧j<=2046∧∀K:Nat,K=1074->j+K=E:=⟨E-1074,by omega,by omega,fun K hK=>by omega⟩
theorem Ia (E:Nat)(t:¬(0:Int)<=(E:Int)-1074):∃j:Nat,-((E:Int)-1074)=j∧j<=1074∧∀K:Nat,K=1074->j+E=K:=⟨1074-E,by omega,by omega,fun K hK=>by omega⟩
theorem H9 (K:Nat)(hK:K=1074):((K:Nat):Int)=1074:=by omega
set_option linter.all false

theorem cZ (x y:Int):(x<y∧eh x y = -1)∨(x=y∧eh x y=0)∨(y<x∧eh x y=1):=by
 unfold eh
 rcases bw x y with h|h|h
 ·exact Or.inl ⟨h,if_pos h⟩
 ·exact Or.inr (Or.inl ⟨h,by rw[if_neg (by omega),if_neg (by omega)]⟩)
 ·exact Or.inr (Or.inr ⟨h,by rw[if_neg (by omega),if_pos h]⟩)
theorem si (X:Int)(hX:dl X):dT (decide (X<0)) X.natAbs=if X=9218868437227405312 then 1 else if X = -9218868437227405312 then -1 else 0:=by
 unfold dl at hX
 unfold dT
 by_cases a:X=9218868437227405312
 ·rw[a];decide
 ·by_cases c2:X = -9218868437227405312
  ·rw[c2];decide
  ·rw[if_neg (by omega),if_neg a,if_neg c2]
theorem FX (X i V:Int)(hX:dl X)(hi:i=0∨((i=1∨i = -1)∧V=0))(hb:X=9218868437227405312∨X = -9218868437227405312∨i≠0) s p l c q k d s5 p5 l5 c5 q5 k5 d5 (w:World):Calls prog 73 #[.agg #[.int .i64 (dT (decide (X<0)) X.natAbs),.bool s5,.slice p5 l5 c5,.slice q5 k5 d5],.agg #[.int .i64 i,.bool s,.slice p l c,.slice q k d]] w (RT (.int .i64 (cB X i V)) w):=by
 have b:=hX
 unfold dl at b
 rw[si X hX]
 unfold cB
 by_cases a:X=9218868437227405312
 ·subst a
  rw[if_pos rfl]
  rcases hi with rfl|⟨rfl|rfl,-⟩
  ·exact mV 1 0 s5 p5 l5 c5 q5 k5 d5 s p l c q k d (by decide) (by decide) w
  ·exact t7 1 s5 p5 l5 c5 q5 k5 d5 s p l c q k d (by decide) w
  ·exact mV 1 (-1) s5 p5 l5 c5 q5 k5 d5 s p l c q k d (by decide) (by decide) w
 ·rw[if_neg a]
  by_cases c2:X = -9218868437227405312
  ·subst c2
   rw[if_pos rfl]
   rcases hi with rfl|⟨rfl|rfl,-⟩
   ·exact nS (-1) 0 s5 p5 l5 c5 q5 k5 d5 s p l c q k d (by decide) (by decide) w
   ·exact nS (-1) 1 s5 p5 l5 c5 q5 k5 d5 s p l c q k d (by decide) (by decide) w
   ·exact t7 (-1) s5 p5 l5 c5 q5 k5 d5 s p l c q k d (by decide) w
  ·rw[if_neg c2]
   rcases hi with rfl|⟨rfl|rfl,-⟩
   ·exfalso;omega
   ·rw[if_neg (by decide),fc _ _ (by omega)]
    exact nS 0 1 s5 p5 l5 c5 q5 k5 d5 s p l c q k d (by decide) (by decide) w
   ·rw[if_neg (by decide),eK _ _ (by omega)]
    exact mV 0 (-1) s5 p5 l5 c5 q5 k5 d5 s p l c q k d (by decide) (by decide) w
theorem Ee (X:Int)(h:0<X):Iv (decide (X<0)) X.natAbs=(Fq.vV Ieee.double X.natAbs:Int):=by
 rw[ae (show ¬X<0 by omega)];rfl
theorem Ef (X:Int)(h:X<0):Iv (decide (X<0)) X.natAbs = -(Fq.vV Ieee.double X.natAbs:Int):=by
 rw[af h];rfl
theorem BW (ia ib:Int)(oa ob:Bool) s p l c q k d s2 p2 l2 c2 q2 k2 d2 (hE:KC 72 #[] (.agg #[.int .u64 9218868437227405312,.int .u64 18442240474082181120]))(w:World):Calls prog 92 #[.agg #[.int .u64 9218868437227405312,.int .u64 18442240474082181120],.agg #[.bool false,.int .i64 ia,.bool s,.slice p l c,.slice q k d,.int .i64 1,.bool oa,.int .i64 ib,.bool s2,.slice p2 l2 c2,.slice q2 k2 d2,.int .i64 1,.bool ob]] w (RT (.agg #[.int .u64 9218868437227405312,.int .u64 18442240474082181120]) w):=by
 go_enter func92,ntmps92
 go_upto_region 1 with fail
 obtain⟨W,u,x,o,y,h⟩:=Ek w #[.int .u64 9218868437227405312,.int .u64 18442240474082181120] 24 #[.bool false,.int .i64 ia,.bool s,.slice p l c,.slice q k d,.int .i64 1,.bool oa,.int .i64 ib,.bool s2,.slice p2 l2 c2,.slice q2 k2 d2,.int .i64 1,.bool ob] 61 #[.int .u64 0,.int .u64 0] 24
 rw[<-u];clear u
 have g:W.cell? ⟨w.heap.size,0,none⟩=some (.int .u64 9218868437227405312):=(o.cell 0).trans rfl
 have b:W.cell? ⟨w.heap.size,1,none⟩=some (.int .u64 18442240474082181120):=(o.cell 1).trans rfl
 have f:W.cell? ⟨w.heap.size+1,0,none⟩=some (.bool false):=(y.cell 0).trans rfl
 have r:W.drew.cell? ⟨w.heap.size,0,none⟩=some (.int .u64 9218868437227405312):=g
 have j:W.drew.cell? ⟨w.heap.size,1,none⟩=some (.int .u64 18442240474082181120):=b
 have i:W.drew.cell? ⟨w.heap.size+1,0,none⟩=some (.bool false):=f
 go_region_held3 (fun w'=>w'.cell? ⟨w.heap.size,0,none⟩=some (.int .u64 9218868437227405312)∧w'.cell? ⟨w.heap.size,1,none⟩=some (.int .u64 18442240474082181120)∧w'.cell? ⟨w.heap.size+1,0,none⟩=some (.bool false)) (first|(with_reducible exact⟨r,j,i⟩)|(with_reducible exact⟨m,n,t⟩)) (first|(go_at_call 72;refine(hE _).mono ?_;rintro e A ⟨rfl,z⟩;have a:Kp W A:=Kp.trans (Kp.drew (Kp.refl _)) z;have m:=ac a g;have n:=ac a b;have t:=ac a f))
 replace x:=Kp.trans x a
 replace o:=o.kp a
 replace y:=y.kp a
 replace h:=h.kp a
 clear g b f r j i a z m n t
 generalize hWA:A=W at x o y h|-
 clear hWA
 obtain⟨K,H,J,D⟩:=h.c2;skip
 go_wp2_with (first|(go_at_call 72;refine(hE _).mono ?_;rintro e I ⟨rfl,B⟩;replace h:=h.kp B;obtain⟨G,F,E,C⟩:=h.c2;skip))
 exact BR (v:=.agg #[.int .u64 9218868437227405312,.int .u64 18442240474082181120]) ⟨rfl,(((Kp.trans x B).setCell (by (simp<;>omega)) _).setCell (by (simp<;>omega)) _)⟩ (by simp[results,results92,go_sem,G,E])

theorem It {r c:Int}(h:r<0 ↔ c<0)(g:0<=c):¬r<0:=by omega
theorem Ht {r c:Int}(h:0<r ↔ 0<c)(g:c<=0):¬0<r:=by omega
theorem ow {r c:Int}(a:r<0 ↔ c<0)(b:0<r ↔ 0<c)(h:c=0):r=0:=by omega
theorem yY {r c:Int}(b:0<r ↔ 0<c)(h:c<0):¬0<r:=by omega
theorem ED {r c:Int}(a:r<0 ↔ c<0)(h:0<c):¬r<0:=by omega
theorem yX {r c:Int}(a:r<0 ↔ c<0)(h:c<0):(r == 0)=false:=by simp;omega
theorem EC {r c:Int}(b:0<r ↔ 0<c)(h:0<c):(r == 0)=false:=by simp;omega
def H0 (X1 ca:Int) (ib:Int) (ob:Bool) (s2:Bool)(p2:Option Addr)(l2 c2:Nat)(q2:Option Addr)(k2 d2:Nat) (w:World):Prop:=∀W:World,Kp w W->Calls prog 145 #[.int .u64 X1,.agg #[.int .i64 ib,.bool s2,.slice p2 l2 c2,.slice q2 k2 d2,.int .i64 1,.bool ob]] W fun e w'=>∃r:Int,e=.returned (.int .i64 r)∧(r<0 ↔ ca<0)∧(0<r ↔ 0<ca)∧Kp W w'
def HP (X2 cb:Int) (ia:Int) (oa:Bool) (s:Bool)(p:Option Addr)(l c:Nat)(q:Option Addr)(k d:Nat) (w:World):Prop:=∀W:World,Kp w W->Calls prog 145 #[.int .u64 X2,.agg #[.int .i64 ia,.bool s,.slice p l c,.slice q k d,.int .i64 1,.bool oa]] W fun e w'=>∃r:Int,e=.returned (.int .i64 r)∧(r<0 ↔ cb<0)∧(0<r ↔ 0<cb)∧Kp W w'
set_option maxHeartbeats 20000000 in
theorem sP:(∀(X1 X2 ca cb:Int)(ia ib:Int)(oa ob:Bool) s p l c q k d s2 p2 l2 c2 q2 k2 d2 (hE:KC 72 #[] (.agg #[.int .u64 9218868437227405312,.int .u64 18442240474082181120]))(w:World)(t0:(X1 == 9218868437227405312)=false)(h1:H0 X1 ca ib ob s2 p2 l2 c2 q2 k2 d2 w)(h2:HP X2 cb ia oa s p l c q k d w)(u:0<ca∨(ca=0∧ob=true)∨((ca<0∨(ca=0∧ob=false))∧(cb<0∨(cb=0∧oa=true)))),Calls prog 92 #[.agg #[.int .u64 X1,.int .u64 X2],.agg #[.bool false,.int .i64 ia,.bool s,.slice p l c,.slice q k d,.int .i64 1,.bool oa,.int .i64 ib,.bool s2,.slice p2 l2 c2,.slice q2 k2 d2,.int .i64 1,.bool ob]] w (RT (.agg #[.int .u64 9218868437227405312,.int .u64 18442240474082181120]) w))∧(∀(X1 X2 ca cb cc cd Z1 Z2 Y1 Y2:Int)(ia ib:Int)(oa ob:Bool) s p l c q k d s2 p2 l2 c2 q2 k2 d2 (hE:KC 72 #[] (.agg #[.int .u64 9218868437227405312,.int .u64 18442240474082181120]))(w:World)(t0:(X1 == 9218868437227405312)=false)(h1:H0 X1 ca ib ob s2 p2 l2 c2 q2 k2 d2 w)(h2:HP X2 cb ia oa s p l c q k d w)(h3:∀W:World,Kp w W->Calls prog 145 #[.int .u64 X1,.agg #[.int .i64 ia,.bool s,.slice p l c,.slice q k d,.int .i64 1,.bool oa]] W fun e w'=>∃r:Int,e=.returned (.int .i64 r)∧(r<0 ↔ cc<0)∧(0<r ↔ 0<cc)∧Kp W w')(h4:∀W:World,Kp w W->Calls prog 145 #[.int .u64 X2,.agg #[.int .i64 ib,.bool s2,.slice p2 l2 c2,.slice q2 k2 d2,.int .i64 1,.bool ob]] W fun e w'=>∃r:Int,e=.returned (.int .i64 r)∧(r<0 ↔ cd<0)∧(0<r ↔ 0<cd)∧Kp W w')(hra:cc<0->KW w 146 #[.int .i64 (-1),.agg #[.int .i64 ia,.bool s,.slice p l c,.slice q k d,.int .i64 1,.bool oa]] (.int .u64 Z1))(hrb:0<cd->KW w 146 #[.int .i64 1,.agg #[.int .i64 ib,.bool s2,.slice p2 l2 c2,.slice q2 k2 d2,.int .i64 1,.bool ob]] (.int .u64 Z2))(u1:ca<0∨(ca=0∧ob=false))(u2:0<cb∨(cb=0∧oa=false))(u3:(cc<0∧Z1=Y1)∨(0<=cc∧X1=Y1))(u4:(0<cd∧Z2=Y2)∨(cd<=0∧X2=Y2)),Calls prog 92 #[.agg #[.int .u64 X1,.int .u64 X2],.agg #[.bool false,.int .i64 ia,.bool s,.slice p l c,.slice q k d,.int .i64 1,.bool oa,.int .i64 ib,.bool s2,.slice p2 l2 c2,.slice q2 k2 d2,.int .i64 1,.bool ob]] w (RT (.agg #[.int .u64 Y1,.int .u64 Y2]) w)):=by
 refine⟨?_,?_⟩
 case' refine_1=>intro X1 X2 ca cb ia ib oa ob s p l c q k d s2 p2 l2 c2 q2 k2 d2 hE w t0 h1 h2 u;have bt:=trivial
 case' refine_2=>intro X1 X2 ca cb cc cd Z1 Z2 Y1 Y2 ia ib oa ob s p l c q k d s2 p2 l2 c2 q2 k2 d2 hE w t0 h1 h2 h3 h4 hra hrb u1 u2 u3 u4;have bx:=trivial
 all_goals (
  go_enter func92,ntmps92
  go_upto_region 1 with fail
  obtain⟨W,cE,b,f,g,a⟩:=Ek w #[.int .u64 X1,.int .u64 X2] 24 #[.bool false,.int .i64 ia,.bool s,.slice p l c,.slice q k d,.int .i64 1,.bool oa,.int .i64 ib,.bool s2,.slice p2 l2 c2,.slice q2 k2 d2,.int .i64 1,.bool ob] 61 #[.int .u64 0,.int .u64 0] 24
  rw[<-cE];clear cE
  have bn:W.cell? ⟨w.heap.size,0,none⟩=some (.int .u64 X1):=(f.cell 0).trans rfl
  have bH:W.cell? ⟨w.heap.size,1,none⟩=some (.int .u64 X2):=(f.cell 1).trans rfl
  have br:W.cell? ⟨w.heap.size+1,0,none⟩=some (.bool false):=(g.cell 0).trans rfl
  have cf:W.drew.cell? ⟨w.heap.size,0,none⟩=some (.int .u64 X1):=bn
  have ce:W.drew.cell? ⟨w.heap.size,1,none⟩=some (.int .u64 X2):=bH
  have cj:W.drew.cell? ⟨w.heap.size+1,0,none⟩=some (.bool false):=br
  go_region_held3 (fun w'=>w'.cell? ⟨w.heap.size,0,none⟩=some (.int .u64 X1)∧w'.cell? ⟨w.heap.size,1,none⟩=some (.int .u64 X2)∧w'.cell? ⟨w.heap.size+1,0,none⟩=some (.bool false)) (first|(with_reducible exact⟨cf,ce,cj⟩)|(with_reducible exact⟨cl,b0,cp⟩)) (first|(go_at_call 72;refine(hE _).mono ?_;rintro e wA ⟨rfl,gA⟩;have kA:Kp W wA:=Kp.trans (Kp.drew (Kp.refl _)) gA;have cl:=ac kA bn;have b0:=ac kA bH;have cp:=ac kA br))
  replace b:=Kp.trans b kA
  replace f:=f.kp kA
  replace g:=g.kp kA
  replace a:=a.kp kA
  clear bn bH br cf ce cj kA gA cl b0 cp
  generalize hWA:wA=W at b f g a|-
  clear hWA
  obtain⟨i0,fs,x01,f9⟩:=f.c2;obtain⟨it,ff,hJ,gD,iA,e0,ih,gc,h9,f8,kz,fq,hC,fo,jb,fT,jd,ey,h5,gn,eL,d7,et,ea,hq,c8⟩:=g.c13;obtain⟨h8,hg,i8,eU⟩:=a.c2;skip
  go_upto_region 5 with(first|(have z9:=j;clear z9;go_at_call 145;refine(h2 _ b).mono ?_;rintro e w2 ⟨r2,rfl,m,n,g2⟩;replace f:=f.kp g2;replace g:=g.kp g2;replace a:=a.kp g2;replace b:=Kp.trans b g2;obtain⟨i6,hm,i2,ho⟩:=f.c2;obtain⟨kD,ez,hB,hj,ja,hs,i5,e6,km,fP,hW,g0,Hl,fL,Fd,f7,Hk,fn,Hj,ev,em,db,f1,dc,gl,eb⟩:=g.c13;obtain⟨hw,fE,hA,f6⟩:=a.c2;skip)|(go_at_call 145;refine(h1 _ b).mono ?_;rintro e w1 ⟨o,rfl,j,i,g1⟩;replace f:=f.kp g1;replace g:=g.kp g1;replace a:=a.kp g1;replace b:=Kp.trans b g1;obtain⟨j6,e4,kf,hd⟩:=f.c2;obtain⟨j1,ek,hN,gz,kl,ep,kC,g5,ii,gy,ko,fr,hT,g6,iZ,gt,hD,fv,ke,hn,eN,de,eD,da,f5,ec⟩:=g.c13;obtain⟨i4,g7,hQ,gs⟩:=a.c2;skip))
  generalize hW2:w2=W at b f g a|-
  clear hW2
  obtain⟨j7,e9,kd,fe⟩:=f.c2;obtain⟨hz,gf,j9,gq,kc,g8,hK,e5,hM,hp,j2,gh,kk,e3,kh,eA,i3,ht,hG,eX,gr,cV,f0,df,gu,d4⟩:=g.c13;obtain⟨hF,ha,ic,gd⟩:=a.c2;skip
  first
  |(have z0:=bt;clear z0;go_cut [49] (fun s49 wx=>s49=.bool true∧wx=W))
  |(have z0:=bx;clear z0;go_cut [49] (fun s49 wx=>s49=.bool false∧wx=W))
  case first =>
   first
   |(
     have z0:=bt;clear z0
     rcases u with u1|⟨u1,rfl⟩|⟨u1,u2⟩
     ·have t1:0<o:=i.2 u1
      go_wp2
      go_meet
      exact⟨rfl,rfl⟩
     ·obtain rfl:o=0:=ow j i u1
      go_wp2
      go_meet
      exact⟨rfl,rfl⟩
     ·rcases u1 with u1|⟨u1,rfl⟩<;>rcases u2 with u2|⟨u2,rfl⟩
      ·have t1:¬0<o:=yY i u1;have bm:(o == 0)=false:=yX j u1;have t2:r2<0:=m.2 u2;clear j i m n u1 u2;go_wp2;go_meet;exact⟨rfl,rfl⟩
      ·have t1:¬0<o:=yY i u1;have bm:(o == 0)=false:=yX j u1;obtain rfl:r2=0:=ow m n u2;clear j i m n u1 u2;go_wp2;go_meet;exact⟨rfl,rfl⟩
      ·obtain rfl:o=0:=ow j i u1;have t2:r2<0:=m.2 u2;clear j i m n u1 u2;go_wp2;go_meet;exact⟨rfl,rfl⟩
      ·obtain rfl:o=0:=ow j i u1;obtain rfl:r2=0:=ow m n u2;clear j i m n u1 u2;go_wp2;go_meet;exact⟨rfl,rfl⟩)
   |(
     have z0:=bx;clear z0
     rcases u1 with u1|⟨u1,rfl⟩<;>rcases u2 with u2|⟨u2,rfl⟩
     ·have t1:¬0<o:=yY i u1;have bm:(o == 0)=false:=yX j u1;have t2:¬r2<0:=ED m u2;have dq:(r2 == 0)=false:=EC n u2;clear j i m n u1 u2;go_wp2;go_meet;exact⟨rfl,rfl⟩
     ·have t1:¬0<o:=yY i u1;have bm:(o == 0)=false:=yX j u1;obtain rfl:r2=0:=ow m n u2;clear j i m n u1 u2;go_wp2;go_meet;exact⟨rfl,rfl⟩
     ·obtain rfl:o=0:=ow j i u1;have t2:¬r2<0:=ED m u2;have dq:(r2 == 0)=false:=EC n u2;clear j i m n u1 u2;go_wp2;go_meet;exact⟨rfl,rfl⟩
     ·obtain rfl:o=0:=ow j i u1;obtain rfl:r2=0:=ow m n u2;clear j i m n u1 u2;go_wp2;go_meet;exact⟨rfl,rfl⟩)
  case rest =>
  obtain⟨rfl,cs⟩:=hcut
  rw[cs]
  clear cs wc
  first
  |(
    have z0:=bt;clear z0
    go_wp2_with (first|(go_at_call 72;refine(hE _).mono ?_;rintro e w3 ⟨rfl,V⟩;replace a:=a.kp V;obtain⟨r0,ba,o,a6⟩:=a.c2;skip))
    exact BR (v:=.agg #[.int .u64 9218868437227405312,.int .u64 18442240474082181120]) ⟨rfl,(((Kp.trans b V).setCell (by (simp<;>omega)) _).setCell (by (simp<;>omega)) _)⟩ (by simp[results,results92,go_sem,r0,o]))
  |(
    have z0:=bx;clear z0
    clear j i m n u1 u2
    generalize hwq:W=w2 at b f g a|-
    clear hwq
    obtain⟨kx,fa,ka,hk⟩:=f.c2;obtain⟨hV,ge,i1,fb,kn,e7,jj,gC,j3,gb,j5,eV,hx,e1,h6,gv,hH,fh,i9,f3,he,d8,eP,dp,gk,dd⟩:=g.c13;obtain⟨hI,fz,hZ,en⟩:=a.c2;skip
    go_upto_region 8 with fail
    have ky:Kp w2 (w2.alloc (.cells #[.int .u64 X1,.int .u64 X2] 24)):=(Kp.refl _).alloc _
    have h:BK (w2.alloc (.cells #[.int .u64 X1,.int .u64 X2] 24)) w2.heap.size #[.int .u64 X1,.int .u64 X2] 24:=BK.new _ _ _
    have a8:w.heap.size<=w2.heap.size:=Below.size b
    have c7:=a.lt
    replace b:=Kp.trans b ky
    replace f:=f.kp ky;replace g:=g.kp ky;replace a:=a.kp ky
    generalize (w2.alloc (.cells #[.int .u64 X1,.int .u64 X2] 24))=W3 at b f g a h|-
    generalize w2.heap.size=yb at h a8 c7|-
    have bA:yb≠w.heap.size:=by omega
    have bq:yb≠w.heap.size+1:=by omega
    have bo:yb≠w.heap.size+2:=by omega
    obtain⟨hL,f4,kB,fm⟩:=f.c2;obtain⟨j0,fU,iX,eY,hy,es,h7,hf,iB,gx,kg,fY,j4,hc,kv,hu,hS,gN,hv,f2,e8,dy,ew,c5,hl,dr⟩:=g.c13;obtain⟨iY,hh,h0,hr⟩:=a.c2;obtain⟨hU,g9,hO,eq⟩:=h.c2;skip
    rcases u3 with⟨u3,rfl⟩|⟨u3,rfl⟩
    ·go_upto_region 10 with(first|(have z9:=t3;clear z9;go_at_call 146;refine(hra u3 _ b).mono ?_;rintro e wa ⟨rfl,C⟩;replace f:=f.kp C;replace g:=g.kp C;replace a:=a.kp C;replace h:=h.kp C;replace b:=Kp.trans b C;obtain⟨ct,bc,cq,bb⟩:=h.c2;skip)|(go_at_call 145;refine(h3 _ b).mono ?_;rintro e w3 ⟨r3,rfl,bu,c1,V⟩;replace f:=f.kp V;replace g:=g.kp V;replace a:=a.kp V;replace h:=h.kp V;replace b:=Kp.trans b V;(have t3:=bu.2 u3);obtain⟨X,K,a1,Q⟩:=f.c2;obtain⟨a2,J,ab,G,a0,R,an,N,aw,P,a4,S,ad,I,aa,L,a3,O,aj,A,E,z,T,t,F,x⟩:=g.c13;obtain⟨au,H,Y,D⟩:=a.c2;obtain⟨aA,B,Z,M⟩:=h.c2;skip))
     replace b:=b.setCell (p:=⟨yb,0,none⟩) a8 (.int .u64 Z1)
     replace f:=f.far ⟨yb,0,none⟩ (.int .u64 Z1) bA
     replace g:=g.far ⟨yb,0,none⟩ (.int .u64 Z1) bq
     replace a:=a.far ⟨yb,0,none⟩ (.int .u64 Z1) bo
     replace h:BK (wa.setCell ⟨yb,0,none⟩ (.int .u64 Z1)) yb #[.int .u64 Z1,.int .u64 X2] 24:=h.put 0 _
     generalize wa.setCell ⟨yb,0,none⟩ (.int .u64 Z1)=W4 at b f g a h|-
     obtain⟨dR,b3,dk,b4⟩:=f.c2;obtain⟨ef,cr,dn,b9,ds,cm,dt,b1,cY,ck,dV,cx,d5,cn,dx,ch,d0,cg,c0,cH,cv,bL,cD,bv,cz,bE⟩:=g.c13;obtain⟨d1,b5,d6,b2⟩:=a.c2;obtain⟨dh,co,dm,cy⟩:=h.c2;skip
     rcases u4 with⟨u4,rfl⟩|⟨u4,rfl⟩
     ·go_upto_region 12 with(first|(have z9:=t4;clear z9;go_at_call 146;refine(hrb u4 _ b).mono ?_;rintro e wa ⟨rfl,C⟩;replace f:=f.kp C;replace g:=g.kp C;replace a:=a.kp C;replace h:=h.kp C;replace b:=Kp.trans b C;obtain⟨ct,bc,cq,bb⟩:=h.c2;skip)|(go_at_call 145;refine(h4 _ b).mono ?_;rintro e w4 ⟨r4,rfl,bR,U,y⟩;replace f:=f.kp y;replace g:=g.kp y;replace a:=a.kp y;replace h:=h.kp y;replace b:=Kp.trans b y;(have t4:=U.2 u4);obtain⟨X,K,a1,Q⟩:=f.c2;obtain⟨a2,J,ab,G,a0,R,an,N,aw,P,a4,S,ad,I,aa,L,a3,O,aj,A,E,z,T,t,F,x⟩:=g.c13;obtain⟨au,H,Y,D⟩:=a.c2;obtain⟨aA,B,Z,M⟩:=h.c2;skip))
      replace b:=b.setCell (p:=⟨yb,1,none⟩) a8 (.int .u64 Z2)
      replace f:=f.far ⟨yb,1,none⟩ (.int .u64 Z2) bA
      replace g:=g.far ⟨yb,1,none⟩ (.int .u64 Z2) bq
      replace a:=a.far ⟨yb,1,none⟩ (.int .u64 Z2) bo
      replace h:BK (wa.setCell ⟨yb,1,none⟩ (.int .u64 Z2)) yb #[.int .u64 Z1,.int .u64 Z2] 24:=h.put 1 _
      generalize wa.setCell ⟨yb,1,none⟩ (.int .u64 Z2)=W5 at b f g a h|-
      obtain⟨y0,bX,y1,bp⟩:=h.c2;obtain⟨r0,ba,o,a6⟩:=a.c2;skip
      go_wp2
      exact BR (v:=.agg #[.int .u64 Z1,.int .u64 Z2]) ⟨rfl,((b.setCell (by (simp<;>omega)) _).setCell (by (simp<;>omega)) _)⟩ (by simp[results,results92,go_sem,r0,o])
     ·go_upto_region 12 with(first|(go_at_call 145;refine(h4 _ b).mono ?_;rintro e w4 ⟨r4,rfl,bR,U,y⟩;replace f:=f.kp y;replace g:=g.kp y;replace a:=a.kp y;replace h:=h.kp y;replace b:=Kp.trans b y;(have t4:=Ht U u4);obtain⟨X,K,a1,Q⟩:=f.c2;obtain⟨a2,J,ab,G,a0,R,an,N,aw,P,a4,S,ad,I,aa,L,a3,O,aj,A,E,z,T,t,F,x⟩:=g.c13;obtain⟨au,H,Y,D⟩:=a.c2;obtain⟨aA,B,Z,M⟩:=h.c2;skip))
      generalize w4=W5 at b f g a h|-
      obtain⟨y0,bX,y1,bp⟩:=h.c2;obtain⟨r0,ba,o,a6⟩:=a.c2;skip
      go_wp2
      exact BR (v:=.agg #[.int .u64 Z1,.int .u64 X2]) ⟨rfl,((b.setCell (by (simp<;>omega)) _).setCell (by (simp<;>omega)) _)⟩ (by simp[results,results92,go_sem,r0,o])
    ·go_upto_region 10 with(first|(go_at_call 145;refine(h3 _ b).mono ?_;rintro e w3 ⟨r3,rfl,bu,c1,V⟩;replace f:=f.kp V;replace g:=g.kp V;replace a:=a.kp V;replace h:=h.kp V;replace b:=Kp.trans b V;(have t3:=It bu u3);obtain⟨X,K,a1,Q⟩:=f.c2;obtain⟨a2,J,ab,G,a0,R,an,N,aw,P,a4,S,ad,I,aa,L,a3,O,aj,A,E,z,T,t,F,x⟩:=g.c13;obtain⟨au,H,Y,D⟩:=a.c2;obtain⟨aA,B,Z,M⟩:=h.c2;skip))
     generalize w3=W4 at b f g a h|-
     obtain⟨dR,b3,dk,b4⟩:=f.c2;obtain⟨ef,cr,dn,b9,ds,cm,dt,b1,cY,ck,dV,cx,d5,cn,dx,ch,d0,cg,c0,cH,cv,bL,cD,bv,cz,bE⟩:=g.c13;obtain⟨d1,b5,d6,b2⟩:=a.c2;obtain⟨dh,co,dm,cy⟩:=h.c2;skip
     rcases u4 with⟨u4,rfl⟩|⟨u4,rfl⟩
     ·go_upto_region 12 with(first|(have z9:=t4;clear z9;go_at_call 146;refine(hrb u4 _ b).mono ?_;rintro e wa ⟨rfl,C⟩;replace f:=f.kp C;replace g:=g.kp C;replace a:=a.kp C;replace h:=h.kp C;replace b:=Kp.trans b C;obtain⟨ct,bc,cq,bb⟩:=h.c2;skip)|(go_at_call 145;refine(h4 _ b).mono ?_;rintro e w4 ⟨r4,rfl,bR,U,y⟩;replace f:=f.kp y;replace g:=g.kp y;replace a:=a.kp y;replace h:=h.kp y;replace b:=Kp.trans b y;(have t4:=U.2 u4);obtain⟨X,K,a1,Q⟩:=f.c2;obtain⟨a2,J,ab,G,a0,R,an,N,aw,P,a4,S,ad,I,aa,L,a3,O,aj,A,E,z,T,t,F,x⟩:=g.c13;obtain⟨au,H,Y,D⟩:=a.c2;obtain⟨aA,B,Z,M⟩:=h.c2;skip))
      replace b:=b.setCell (p:=⟨yb,1,none⟩) a8 (.int .u64 Z2)
      replace f:=f.far ⟨yb,1,none⟩ (.int .u64 Z2) bA
      replace g:=g.far ⟨yb,1,none⟩ (.int .u64 Z2) bq
      replace a:=a.far ⟨yb,1,none⟩ (.int .u64 Z2) bo
      replace h:BK (wa.setCell ⟨yb,1,none⟩ (.int .u64 Z2)) yb #[.int .u64 X1,.int .u64 Z2] 24:=h.put 1 _
      generalize wa.setCell ⟨yb,1,none⟩ (.int .u64 Z2)=W5 at b f g a h|-
      obtain⟨y0,bX,y1,bp⟩:=h.c2;obtain⟨r0,ba,o,a6⟩:=a.c2;skip
      go_wp2
      exact BR (v:=.agg #[.int .u64 X1,.int .u64 Z2]) ⟨rfl,((b.setCell (by (simp<;>omega)) _).setCell (by (simp<;>omega)) _)⟩ (by simp[results,results92,go_sem,r0,o])
     ·go_upto_region 12 with(first|(go_at_call 145;refine(h4 _ b).mono ?_;rintro e w4 ⟨r4,rfl,bR,U,y⟩;replace f:=f.kp y;replace g:=g.kp y;replace a:=a.kp y;replace h:=h.kp y;replace b:=Kp.trans b y;(have t4:=Ht U u4);obtain⟨X,K,a1,Q⟩:=f.c2;obtain⟨a2,J,ab,G,a0,R,an,N,aw,P,a4,S,ad,I,aa,L,a3,O,aj,A,E,z,T,t,F,x⟩:=g.c13;obtain⟨au,H,Y,D⟩:=a.c2;obtain⟨aA,B,Z,M⟩:=h.c2;skip))
      generalize w4=W5 at b f g a h|-
      obtain⟨y0,bX,y1,bp⟩:=h.c2;obtain⟨r0,ba,o,a6⟩:=a.c2;skip
      go_wp2
      exact BR (v:=.agg #[.int .u64 X1,.int .u64 X2]) ⟨rfl,((b.setCell (by (simp<;>omega)) _).setCell (by (simp<;>omega)) _)⟩ (by simp[results,results92,go_sem,r0,o])))
end Go.Proofs.YtmpjcknaelgnoaaGreatDoor
