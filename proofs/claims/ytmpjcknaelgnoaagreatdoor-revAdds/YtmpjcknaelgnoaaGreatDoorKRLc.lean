import Derived.Test.YtmpjcknaelgnoaaGreatDoorKRVa
set_option maxHeartbeats 2000000
set_option maxRecDepth 20000
namespace Go.Proofs.YtmpjcknaelgnoaaGreatDoor
open Go.RowKit
set_option linter.unusedVariables false
theorem powA0_ (X f0 E0 f D La Lb A9 B9:Nat) (E1 e1 e la lb lc:Int) (p:Option Addr) (c:Nat) (q:Option Addr) (d:Nat) (f1:bits BinOp.and IntKind.u64 (X:Int) 4503599627370495=(f0:Int)) (f2:(X:Int) / 4503599627370496=(E0:Int)) (f6:IntKind.i64.wrap (E0:Int)=(E0:Int)) (t:(0:Int)<(E0:Int)) (f3:IntKind.u64.wrap ((f0:Int)+4503599627370496)=(f:Int)) (f4:wrap64 ((E0:Int) - 1)=E1) (f5:wrap64 (E1 - 1074)=e1) (f7:wrap64 (e1*1)=e) (f8:wrap64 e1=e) (f9:wrap64 ((La:Int)+e)=la) (fa:wrap64 ((Lb:Int)+1)=lb) (fb:wrap64 ((Lb:Int) - 1)=lc) (t1:lb<la) (hsm:∀ W:World,Calls Tryz.prog 158 #[.int .u64 (f:Int)] W fun e w'=>∃ v,e=.returned v∧Own w' W.heap.size v (dig (f))∧Kp W w') (hpw:∀ (W:World) (p:Option Addr) (c:Nat),Arr W p (dig f)→(dig f).length≤c→Calls Tryz.prog 216 #[.slice p (dig f).length c,.int .i64 1] W fun e w'=>∃ v,e=.returned v∧Own w' W.heap.size v (dig (f))∧Kp W w') (w:World) (htm:∀ (W:World) (p1:Option Addr) (c1:Nat),Kp w W→Arr W p1 (dig f)→(dig f).length≤c1→Calls Tryz.prog 135 #[.slice p1 (dig f).length c1,.slice q B9 d] W fun e w'=>∃ v,e=.returned v∧Own w' W.heap.size v (dig (D))∧Kp W w') (hla:∀ (W:World) (p3:Option Addr) (c3:Nat),Arr W p3 (dig D)→(dig D).length≤c3→Calls Tryz.prog 202 #[.slice p3 (dig D).length c3] W fun e w'=>e=.returned (.int .i64 (La:Int))∧w'=W) (hlb:∀ W:World,Kp w W→Calls Tryz.prog 202 #[.slice p A9 c] W fun e w'=>e=.returned (.int .i64 (Lb:Int))∧w'=W)  : Calls Tryz.prog 184 #[.int .u64 (X:Int),.int .i64 1,.agg #[.bool false,.slice p A9 c,.slice q B9 d]] w fun e w'=>e=.returned (.int .i64 1)∧Kp w w':=by
 go_enter Tryz.func184,Tryz.ntmps184
 go_wp2
 have x0:(w.alloc (.cells #[.bool false,.slice p A9 c,.slice q B9 d] 57)).cell? ⟨w.heap.size,0,none⟩=some (.bool false):=by simp [go_sem]
 have x1:(w.alloc (.cells #[.bool false,.slice p A9 c,.slice q B9 d] 57)).cell? ⟨w.heap.size,1,none⟩=some (.slice p A9 c):=by simp [go_sem]
 have x2:(w.alloc (.cells #[.bool false,.slice p A9 c,.slice q B9 d] 57)).cell? ⟨w.heap.size,2,none⟩=some (.slice q B9 d):=by simp [go_sem]
 have kW:Kp w (w.alloc (.cells #[.bool false,.slice p A9 c,.slice q B9 d] 57)):=(Kp.refl w).alloc _
 generalize w.alloc (.cells #[.bool false,.slice p A9 c,.slice q B9 d] 57)=W at x0 x1 x2 kW ⊢
 have d0:W.drew.cell? ⟨w.heap.size,0,none⟩=some (.bool false):=x0
 have d1:W.drew.cell? ⟨w.heap.size,1,none⟩=some (.slice p A9 c):=x1
 have d2:W.drew.cell? ⟨w.heap.size,2,none⟩=some (.slice q B9 d):=x2
 go_region_held3 (fun w'=>w'.cell? ⟨w.heap.size,0,none⟩=some (.bool false)∧w'.cell? ⟨w.heap.size,1,none⟩=some (.slice p A9 c)∧w'.cell? ⟨w.heap.size,2,none⟩=some (.slice q B9 d)) (first | (with_reducible exact ⟨x0,x1,x2⟩) | (with_reducible exact ⟨d0,d1,d2⟩) | (with_reducible exact ⟨i0,i1,i2⟩) | (with_reducible exact ⟨j0,j1,j2⟩) | (with_reducible exact ⟨m0,m1,m2⟩)) (first | (go_at_call 158;refine (hsm _).mono ?_;rintro e w1 ⟨r,rfl,o1,g1⟩;obtain ⟨p1,c1,rfl,a1,l1⟩:=o1.arr;have K1:Kp W w1:=Kp.trans (Kp.drew (Kp.refl _)) g1;have i0:=kkeep K1 x0;have i1:=kkeep K1 x1;have i2:=kkeep K1 x2) | (go_at_call 216;refine (hpw _ _ _ a1 l1).mono ?_;rintro e w2 ⟨r,rfl,o2,g2⟩;obtain ⟨p2,c2,rfl,a2,l2⟩:=o2.arr;have K2:Kp W w2:=Kp.trans K1 g2;have j0:=kkeep K2 x0;have j1:=kkeep K2 x1;have j2:=kkeep K2 x2) | (go_at_call 135;refine (htm _ _ _ (Kp.trans kW K2) a2 l2).mono ?_;rintro e w3 ⟨r,rfl,o3,g3⟩;obtain ⟨p3,c3,rfl,a3,l3⟩:=o3.arr;have K3:Kp W w3:=Kp.trans K2 g3;have m0:=kkeep K3 x0;have m1:=kkeep K3 x1;have m2:=kkeep K3 x2))
 go_wp2_with (first | (go_at_call_of 202 (Value.slice p3 (dig D).length c3);refine (hla _ _ _ a3 l3).mono ?_;rintro e wl ⟨rfl,hwl⟩;obtain rfl:=hwl.symm;clear hwl) | (go_at_call_of 202 (Value.slice p A9 c);refine (hlb _ (Kp.trans kW K3)).mono ?_;rintro e wl ⟨rfl,hwl⟩;obtain rfl:=hwl.symm;clear hwl))
 exact BR (v:=.int .i64 1) (by simp [results,Tryz.results184,go_sem]) rfl ⟨rfl,(Kp.trans kW K3)⟩
theorem powA1_ (X f0 E0 f D La Lb A9 B9:Nat) (E1 e1 e la lb lc:Int) (p:Option Addr) (c:Nat) (q:Option Addr) (d:Nat) (f1:bits BinOp.and IntKind.u64 (X:Int) 4503599627370495=(f0:Int)) (f2:(X:Int) / 4503599627370496=(E0:Int)) (f6:IntKind.i64.wrap (E0:Int)=(E0:Int)) (t:(0:Int)<(E0:Int)) (f3:IntKind.u64.wrap ((f0:Int)+4503599627370496)=(f:Int)) (f4:wrap64 ((E0:Int) - 1)=E1) (f5:wrap64 (E1 - 1074)=e1) (f7:wrap64 (e1*1)=e) (f8:wrap64 e1=e) (f9:wrap64 ((La:Int)+e)=la) (fa:wrap64 ((Lb:Int)+1)=lb) (fb:wrap64 ((Lb:Int) - 1)=lc) (t1:¬ lb<la) (t2:la<lc) (hsm:∀ W:World,Calls Tryz.prog 158 #[.int .u64 (f:Int)] W fun e w'=>∃ v,e=.returned v∧Own w' W.heap.size v (dig (f))∧Kp W w') (hpw:∀ (W:World) (p:Option Addr) (c:Nat),Arr W p (dig f)→(dig f).length≤c→Calls Tryz.prog 216 #[.slice p (dig f).length c,.int .i64 1] W fun e w'=>∃ v,e=.returned v∧Own w' W.heap.size v (dig (f))∧Kp W w') (w:World) (htm:∀ (W:World) (p1:Option Addr) (c1:Nat),Kp w W→Arr W p1 (dig f)→(dig f).length≤c1→Calls Tryz.prog 135 #[.slice p1 (dig f).length c1,.slice q B9 d] W fun e w'=>∃ v,e=.returned v∧Own w' W.heap.size v (dig (D))∧Kp W w') (hla:∀ (W:World) (p3:Option Addr) (c3:Nat),Arr W p3 (dig D)→(dig D).length≤c3→Calls Tryz.prog 202 #[.slice p3 (dig D).length c3] W fun e w'=>e=.returned (.int .i64 (La:Int))∧w'=W) (hlb:∀ W:World,Kp w W→Calls Tryz.prog 202 #[.slice p A9 c] W fun e w'=>e=.returned (.int .i64 (Lb:Int))∧w'=W)  : Calls Tryz.prog 184 #[.int .u64 (X:Int),.int .i64 1,.agg #[.bool false,.slice p A9 c,.slice q B9 d]] w fun e w'=>e=.returned (.int .i64 (-1))∧Kp w w':=by
 go_enter Tryz.func184,Tryz.ntmps184
 go_wp2
 have x0:(w.alloc (.cells #[.bool false,.slice p A9 c,.slice q B9 d] 57)).cell? ⟨w.heap.size,0,none⟩=some (.bool false):=by simp [go_sem]
 have x1:(w.alloc (.cells #[.bool false,.slice p A9 c,.slice q B9 d] 57)).cell? ⟨w.heap.size,1,none⟩=some (.slice p A9 c):=by simp [go_sem]
 have x2:(w.alloc (.cells #[.bool false,.slice p A9 c,.slice q B9 d] 57)).cell? ⟨w.heap.size,2,none⟩=some (.slice q B9 d):=by simp [go_sem]
 have kW:Kp w (w.alloc (.cells #[.bool false,.slice p A9 c,.slice q B9 d] 57)):=(Kp.refl w).alloc _
 generalize w.alloc (.cells #[.bool false,.slice p A9 c,.slice q B9 d] 57)=W at x0 x1 x2 kW ⊢
 have d0:W.drew.cell? ⟨w.heap.size,0,none⟩=some (.bool false):=x0
 have d1:W.drew.cell? ⟨w.heap.size,1,none⟩=some (.slice p A9 c):=x1
 have d2:W.drew.cell? ⟨w.heap.size,2,none⟩=some (.slice q B9 d):=x2
 go_region_held3 (fun w'=>w'.cell? ⟨w.heap.size,0,none⟩=some (.bool false)∧w'.cell? ⟨w.heap.size,1,none⟩=some (.slice p A9 c)∧w'.cell? ⟨w.heap.size,2,none⟩=some (.slice q B9 d)) (first | (with_reducible exact ⟨x0,x1,x2⟩) | (with_reducible exact ⟨d0,d1,d2⟩) | (with_reducible exact ⟨i0,i1,i2⟩) | (with_reducible exact ⟨j0,j1,j2⟩) | (with_reducible exact ⟨m0,m1,m2⟩)) (first | (go_at_call 158;refine (hsm _).mono ?_;rintro e w1 ⟨r,rfl,o1,g1⟩;obtain ⟨p1,c1,rfl,a1,l1⟩:=o1.arr;have K1:Kp W w1:=Kp.trans (Kp.drew (Kp.refl _)) g1;have i0:=kkeep K1 x0;have i1:=kkeep K1 x1;have i2:=kkeep K1 x2) | (go_at_call 216;refine (hpw _ _ _ a1 l1).mono ?_;rintro e w2 ⟨r,rfl,o2,g2⟩;obtain ⟨p2,c2,rfl,a2,l2⟩:=o2.arr;have K2:Kp W w2:=Kp.trans K1 g2;have j0:=kkeep K2 x0;have j1:=kkeep K2 x1;have j2:=kkeep K2 x2) | (go_at_call 135;refine (htm _ _ _ (Kp.trans kW K2) a2 l2).mono ?_;rintro e w3 ⟨r,rfl,o3,g3⟩;obtain ⟨p3,c3,rfl,a3,l3⟩:=o3.arr;have K3:Kp W w3:=Kp.trans K2 g3;have m0:=kkeep K3 x0;have m1:=kkeep K3 x1;have m2:=kkeep K3 x2))
 go_wp2_with (first | (go_at_call_of 202 (Value.slice p3 (dig D).length c3);refine (hla _ _ _ a3 l3).mono ?_;rintro e wl ⟨rfl,hwl⟩;obtain rfl:=hwl.symm;clear hwl) | (go_at_call_of 202 (Value.slice p A9 c);refine (hlb _ (Kp.trans kW K3)).mono ?_;rintro e wl ⟨rfl,hwl⟩;obtain rfl:=hwl.symm;clear hwl))
 exact BR (v:=.int .i64 (-1)) (by simp [results,Tryz.results184,go_sem]) rfl ⟨rfl,(Kp.trans kW K3)⟩
theorem powA2_ (X f0 E0 f D La Lb A9 B9:Nat) (E1 e1 e la lb lc:Int) (p:Option Addr) (c:Nat) (q:Option Addr) (d:Nat) (f1:bits BinOp.and IntKind.u64 (X:Int) 4503599627370495=(f0:Int)) (f2:(X:Int) / 4503599627370496=(E0:Int)) (f6:IntKind.i64.wrap (E0:Int)=(E0:Int)) (t:(0:Int)<(E0:Int)) (f3:IntKind.u64.wrap ((f0:Int)+4503599627370496)=(f:Int)) (f4:wrap64 ((E0:Int) - 1)=E1) (f5:wrap64 (E1 - 1074)=e1) (f7:wrap64 (e1*1)=e) (f8:wrap64 e1=e) (f9:wrap64 ((La:Int)+e)=la) (fa:wrap64 ((Lb:Int)+1)=lb) (fb:wrap64 ((Lb:Int) - 1)=lc) (t1:¬ lb<la) (t2:¬ la<lc) (t3:(0:Int)≤e) (hsm:∀ W:World,Calls Tryz.prog 158 #[.int .u64 (f:Int)] W fun e w'=>∃ v,e=.returned v∧Own w' W.heap.size v (dig (f))∧Kp W w') (hpw:∀ (W:World) (p:Option Addr) (c:Nat),Arr W p (dig f)→(dig f).length≤c→Calls Tryz.prog 216 #[.slice p (dig f).length c,.int .i64 1] W fun e w'=>∃ v,e=.returned v∧Own w' W.heap.size v (dig (f))∧Kp W w') (w:World) (htm:∀ (W:World) (p1:Option Addr) (c1:Nat),Kp w W→Arr W p1 (dig f)→(dig f).length≤c1→Calls Tryz.prog 135 #[.slice p1 (dig f).length c1,.slice q B9 d] W fun e w'=>∃ v,e=.returned v∧Own w' W.heap.size v (dig (D))∧Kp W w') (hla:∀ (W:World) (p3:Option Addr) (c3:Nat),Arr W p3 (dig D)→(dig D).length≤c3→Calls Tryz.prog 202 #[.slice p3 (dig D).length c3] W fun e w'=>e=.returned (.int .i64 (La:Int))∧w'=W) (hlb:∀ W:World,Kp w W→Calls Tryz.prog 202 #[.slice p A9 c] W fun e w'=>e=.returned (.int .i64 (Lb:Int))∧w'=W) (N R:Int) (M:Nat) (hlf:∀ (W:World) (p3:Option Addr) (c3:Nat),Arr W p3 (dig D)→(dig D).length≤c3→Calls Tryz.prog 171 #[.slice p3 (dig D).length c3,.int .i64 e] W fun e w'=>∃ v,e=.returned v∧Own w' W.heap.size v (dig (M))∧Kp W w') (hcm:∀ (W:World) (p4:Option Addr) (c4:Nat),Kp w W→Arr W p4 (dig M)→(dig M).length≤c4→Calls Tryz.prog 134 #[.slice p4 (dig M).length c4,.slice p A9 c] W fun e w'=>e=.returned (.int .i64 R)∧Kp W w'):Calls Tryz.prog 184 #[.int .u64 (X:Int),.int .i64 1,.agg #[.bool false,.slice p A9 c,.slice q B9 d]] w fun e w'=>e=.returned (.int .i64 R)∧Kp w w':=by
 go_enter Tryz.func184,Tryz.ntmps184
 go_wp2
 have x0:(w.alloc (.cells #[.bool false,.slice p A9 c,.slice q B9 d] 57)).cell? ⟨w.heap.size,0,none⟩=some (.bool false):=by simp [go_sem]
 have x1:(w.alloc (.cells #[.bool false,.slice p A9 c,.slice q B9 d] 57)).cell? ⟨w.heap.size,1,none⟩=some (.slice p A9 c):=by simp [go_sem]
 have x2:(w.alloc (.cells #[.bool false,.slice p A9 c,.slice q B9 d] 57)).cell? ⟨w.heap.size,2,none⟩=some (.slice q B9 d):=by simp [go_sem]
 have kW:Kp w (w.alloc (.cells #[.bool false,.slice p A9 c,.slice q B9 d] 57)):=(Kp.refl w).alloc _
 generalize w.alloc (.cells #[.bool false,.slice p A9 c,.slice q B9 d] 57)=W at x0 x1 x2 kW ⊢
 have d0:W.drew.cell? ⟨w.heap.size,0,none⟩=some (.bool false):=x0
 have d1:W.drew.cell? ⟨w.heap.size,1,none⟩=some (.slice p A9 c):=x1
 have d2:W.drew.cell? ⟨w.heap.size,2,none⟩=some (.slice q B9 d):=x2
 go_region_held3 (fun w'=>w'.cell? ⟨w.heap.size,0,none⟩=some (.bool false)∧w'.cell? ⟨w.heap.size,1,none⟩=some (.slice p A9 c)∧w'.cell? ⟨w.heap.size,2,none⟩=some (.slice q B9 d)) (first | (with_reducible exact ⟨x0,x1,x2⟩) | (with_reducible exact ⟨d0,d1,d2⟩) | (with_reducible exact ⟨i0,i1,i2⟩) | (with_reducible exact ⟨j0,j1,j2⟩) | (with_reducible exact ⟨m0,m1,m2⟩)) (first | (go_at_call 158;refine (hsm _).mono ?_;rintro e w1 ⟨r,rfl,o1,g1⟩;obtain ⟨p1,c1,rfl,a1,l1⟩:=o1.arr;have K1:Kp W w1:=Kp.trans (Kp.drew (Kp.refl _)) g1;have i0:=kkeep K1 x0;have i1:=kkeep K1 x1;have i2:=kkeep K1 x2) | (go_at_call 216;refine (hpw _ _ _ a1 l1).mono ?_;rintro e w2 ⟨r,rfl,o2,g2⟩;obtain ⟨p2,c2,rfl,a2,l2⟩:=o2.arr;have K2:Kp W w2:=Kp.trans K1 g2;have j0:=kkeep K2 x0;have j1:=kkeep K2 x1;have j2:=kkeep K2 x2) | (go_at_call 135;refine (htm _ _ _ (Kp.trans kW K2) a2 l2).mono ?_;rintro e w3 ⟨r,rfl,o3,g3⟩;obtain ⟨p3,c3,rfl,a3,l3⟩:=o3.arr;have K3:Kp W w3:=Kp.trans K2 g3;have m0:=kkeep K3 x0;have m1:=kkeep K3 x1;have m2:=kkeep K3 x2))
 go_wp2_with (first | (go_at_call_of 202 (Value.slice p3 (dig D).length c3);refine (hla _ _ _ a3 l3).mono ?_;rintro e wl ⟨rfl,hwl⟩;obtain rfl:=hwl.symm;clear hwl) | (go_at_call_of 202 (Value.slice p A9 c);refine (hlb _ (Kp.trans kW K3)).mono ?_;rintro e wl ⟨rfl,hwl⟩;obtain rfl:=hwl.symm;clear hwl) | (go_at_call 171;refine (hlf _ _ _ a3 l3).mono ?_;rintro e w4 ⟨r,rfl,o4,g4⟩;obtain ⟨p4,c4,rfl,a4,l4⟩:=o4.arr) | (go_at_call 134;refine (hcm _ _ _ (Kp.trans (Kp.trans kW K3) g4) a4 l4).mono ?_;rintro e w5 ⟨rfl,g5⟩;have K5:Kp w w5:=Kp.trans (Kp.trans (Kp.trans kW K3) g4) g5))
 exact BR (v:=.int .i64 R) (by simp [results,Tryz.results184,go_sem]) rfl ⟨rfl,K5⟩
theorem powA3_ (X f0 E0 f D La Lb A9 B9:Nat) (E1 e1 e la lb lc:Int) (p:Option Addr) (c:Nat) (q:Option Addr) (d:Nat) (f1:bits BinOp.and IntKind.u64 (X:Int) 4503599627370495=(f0:Int)) (f2:(X:Int) / 4503599627370496=(E0:Int)) (f6:IntKind.i64.wrap (E0:Int)=(E0:Int)) (t:(0:Int)<(E0:Int)) (f3:IntKind.u64.wrap ((f0:Int)+4503599627370496)=(f:Int)) (f4:wrap64 ((E0:Int) - 1)=E1) (f5:wrap64 (E1 - 1074)=e1) (f7:wrap64 (e1*1)=e) (f8:wrap64 e1=e) (f9:wrap64 ((La:Int)+e)=la) (fa:wrap64 ((Lb:Int)+1)=lb) (fb:wrap64 ((Lb:Int) - 1)=lc) (t1:¬ lb<la) (t2:¬ la<lc) (t3:¬ (0:Int)≤e) (en:Int) (fe:wrap64 (-e)=en) (hsm:∀ W:World,Calls Tryz.prog 158 #[.int .u64 (f:Int)] W fun e w'=>∃ v,e=.returned v∧Own w' W.heap.size v (dig (f))∧Kp W w') (hpw:∀ (W:World) (p:Option Addr) (c:Nat),Arr W p (dig f)→(dig f).length≤c→Calls Tryz.prog 216 #[.slice p (dig f).length c,.int .i64 1] W fun e w'=>∃ v,e=.returned v∧Own w' W.heap.size v (dig (f))∧Kp W w') (w:World) (htm:∀ (W:World) (p1:Option Addr) (c1:Nat),Kp w W→Arr W p1 (dig f)→(dig f).length≤c1→Calls Tryz.prog 135 #[.slice p1 (dig f).length c1,.slice q B9 d] W fun e w'=>∃ v,e=.returned v∧Own w' W.heap.size v (dig (D))∧Kp W w') (hla:∀ (W:World) (p3:Option Addr) (c3:Nat),Arr W p3 (dig D)→(dig D).length≤c3→Calls Tryz.prog 202 #[.slice p3 (dig D).length c3] W fun e w'=>e=.returned (.int .i64 (La:Int))∧w'=W) (hlb:∀ W:World,Kp w W→Calls Tryz.prog 202 #[.slice p A9 c] W fun e w'=>e=.returned (.int .i64 (Lb:Int))∧w'=W) (N R:Int) (M:Nat) (hlf:∀ W:World,Kp w W→Calls Tryz.prog 171 #[.slice p A9 c,.int .i64 en] W fun e w'=>∃ v,e=.returned v∧Own w' W.heap.size v (dig (M))∧Kp W w') (hcm:∀ (W:World) (p3 p4:Option Addr) (c3 c4:Nat),Arr W p3 (dig D)→(dig D).length≤c3→Arr W p4 (dig M)→(dig M).length≤c4→Calls Tryz.prog 134 #[.slice p3 (dig D).length c3,.slice p4 (dig M).length c4] W fun e w'=>e=.returned (.int .i64 R)∧Kp W w'):Calls Tryz.prog 184 #[.int .u64 (X:Int),.int .i64 1,.agg #[.bool false,.slice p A9 c,.slice q B9 d]] w fun e w'=>e=.returned (.int .i64 R)∧Kp w w':=by
 go_enter Tryz.func184,Tryz.ntmps184
 go_wp2
 have x0:(w.alloc (.cells #[.bool false,.slice p A9 c,.slice q B9 d] 57)).cell? ⟨w.heap.size,0,none⟩=some (.bool false):=by simp [go_sem]
 have x1:(w.alloc (.cells #[.bool false,.slice p A9 c,.slice q B9 d] 57)).cell? ⟨w.heap.size,1,none⟩=some (.slice p A9 c):=by simp [go_sem]
 have x2:(w.alloc (.cells #[.bool false,.slice p A9 c,.slice q B9 d] 57)).cell? ⟨w.heap.size,2,none⟩=some (.slice q B9 d):=by simp [go_sem]
 have kW:Kp w (w.alloc (.cells #[.bool false,.slice p A9 c,.slice q B9 d] 57)):=(Kp.refl w).alloc _
 generalize w.alloc (.cells #[.bool false,.slice p A9 c,.slice q B9 d] 57)=W at x0 x1 x2 kW ⊢
 have d0:W.drew.cell? ⟨w.heap.size,0,none⟩=some (.bool false):=x0
 have d1:W.drew.cell? ⟨w.heap.size,1,none⟩=some (.slice p A9 c):=x1
 have d2:W.drew.cell? ⟨w.heap.size,2,none⟩=some (.slice q B9 d):=x2
 go_region_held3 (fun w'=>w'.cell? ⟨w.heap.size,0,none⟩=some (.bool false)∧w'.cell? ⟨w.heap.size,1,none⟩=some (.slice p A9 c)∧w'.cell? ⟨w.heap.size,2,none⟩=some (.slice q B9 d)) (first | (with_reducible exact ⟨x0,x1,x2⟩) | (with_reducible exact ⟨d0,d1,d2⟩) | (with_reducible exact ⟨i0,i1,i2⟩) | (with_reducible exact ⟨j0,j1,j2⟩) | (with_reducible exact ⟨m0,m1,m2⟩)) (first | (go_at_call 158;refine (hsm _).mono ?_;rintro e w1 ⟨r,rfl,o1,g1⟩;obtain ⟨p1,c1,rfl,a1,l1⟩:=o1.arr;have K1:Kp W w1:=Kp.trans (Kp.drew (Kp.refl _)) g1;have i0:=kkeep K1 x0;have i1:=kkeep K1 x1;have i2:=kkeep K1 x2) | (go_at_call 216;refine (hpw _ _ _ a1 l1).mono ?_;rintro e w2 ⟨r,rfl,o2,g2⟩;obtain ⟨p2,c2,rfl,a2,l2⟩:=o2.arr;have K2:Kp W w2:=Kp.trans K1 g2;have j0:=kkeep K2 x0;have j1:=kkeep K2 x1;have j2:=kkeep K2 x2) | (go_at_call 135;refine (htm _ _ _ (Kp.trans kW K2) a2 l2).mono ?_;rintro e w3 ⟨r,rfl,o3,g3⟩;obtain ⟨p3,c3,rfl,a3,l3⟩:=o3.arr;have K3:Kp W w3:=Kp.trans K2 g3;have m0:=kkeep K3 x0;have m1:=kkeep K3 x1;have m2:=kkeep K3 x2))
 go_wp2_with (first | (go_at_call_of 202 (Value.slice p3 (dig D).length c3);refine (hla _ _ _ a3 l3).mono ?_;rintro e wl ⟨rfl,hwl⟩;obtain rfl:=hwl.symm;clear hwl) | (go_at_call_of 202 (Value.slice p A9 c);refine (hlb _ (Kp.trans kW K3)).mono ?_;rintro e wl ⟨rfl,hwl⟩;obtain rfl:=hwl.symm;clear hwl) | (go_at_call 171;refine (hlf _ (Kp.trans kW K3)).mono ?_;rintro e w4 ⟨r,rfl,o4,g4⟩;obtain ⟨p4,c4,rfl,a4,l4⟩:=o4.arr;replace a3:=a3.grown g4) | (go_at_call 134;refine (hcm _ _ _ _ _ a3 l3 a4 l4).mono ?_;rintro e w5 ⟨rfl,g5⟩;have K5:Kp w w5:=Kp.trans (Kp.trans (Kp.trans kW K3) g4) g5))
 exact BR (v:=.int .i64 R) (by simp [results,Tryz.results184,go_sem]) rfl ⟨rfl,K5⟩
theorem powB0_ (X f D La Lb A9 B9:Nat) (la lb lc:Int) (p:Option Addr) (c:Nat) (q:Option Addr) (d:Nat) (f1:bits BinOp.and IntKind.u64 (X:Int) 4503599627370495=(f:Int)) (f2:(X:Int) / 4503599627370496=0)  (f9:wrap64 ((La:Int) + -1074)=la) (f9':wrap64 ((La:Int) - 1074)=la) (fa:wrap64 ((Lb:Int)+1)=lb) (fb:wrap64 ((Lb:Int) - 1)=lc) (t1:lb<la) (hsm:∀ W:World,Calls Tryz.prog 158 #[.int .u64 (f:Int)] W fun e w'=>∃ v,e=.returned v∧Own w' W.heap.size v (dig (f))∧Kp W w') (hpw:∀ (W:World) (p:Option Addr) (c:Nat),Arr W p (dig f)→(dig f).length≤c→Calls Tryz.prog 216 #[.slice p (dig f).length c,.int .i64 1] W fun e w'=>∃ v,e=.returned v∧Own w' W.heap.size v (dig (f))∧Kp W w') (w:World) (htm:∀ (W:World) (p1:Option Addr) (c1:Nat),Kp w W→Arr W p1 (dig f)→(dig f).length≤c1→Calls Tryz.prog 135 #[.slice p1 (dig f).length c1,.slice q B9 d] W fun e w'=>∃ v,e=.returned v∧Own w' W.heap.size v (dig (D))∧Kp W w') (hla:∀ (W:World) (p3:Option Addr) (c3:Nat),Arr W p3 (dig D)→(dig D).length≤c3→Calls Tryz.prog 202 #[.slice p3 (dig D).length c3] W fun e w'=>e=.returned (.int .i64 (La:Int))∧w'=W) (hlb:∀ W:World,Kp w W→Calls Tryz.prog 202 #[.slice p A9 c] W fun e w'=>e=.returned (.int .i64 (Lb:Int))∧w'=W)  : Calls Tryz.prog 184 #[.int .u64 (X:Int),.int .i64 1,.agg #[.bool false,.slice p A9 c,.slice q B9 d]] w fun e w'=>e=.returned (.int .i64 1)∧Kp w w':=by
 go_enter Tryz.func184,Tryz.ntmps184
 go_wp2
 have x0:(w.alloc (.cells #[.bool false,.slice p A9 c,.slice q B9 d] 57)).cell? ⟨w.heap.size,0,none⟩=some (.bool false):=by simp [go_sem]
 have x1:(w.alloc (.cells #[.bool false,.slice p A9 c,.slice q B9 d] 57)).cell? ⟨w.heap.size,1,none⟩=some (.slice p A9 c):=by simp [go_sem]
 have x2:(w.alloc (.cells #[.bool false,.slice p A9 c,.slice q B9 d] 57)).cell? ⟨w.heap.size,2,none⟩=some (.slice q B9 d):=by simp [go_sem]
 have kW:Kp w (w.alloc (.cells #[.bool false,.slice p A9 c,.slice q B9 d] 57)):=(Kp.refl w).alloc _
 generalize w.alloc (.cells #[.bool false,.slice p A9 c,.slice q B9 d] 57)=W at x0 x1 x2 kW ⊢
 have d0:W.drew.cell? ⟨w.heap.size,0,none⟩=some (.bool false):=x0
 have d1:W.drew.cell? ⟨w.heap.size,1,none⟩=some (.slice p A9 c):=x1
 have d2:W.drew.cell? ⟨w.heap.size,2,none⟩=some (.slice q B9 d):=x2
 go_region_held3 (fun w'=>w'.cell? ⟨w.heap.size,0,none⟩=some (.bool false)∧w'.cell? ⟨w.heap.size,1,none⟩=some (.slice p A9 c)∧w'.cell? ⟨w.heap.size,2,none⟩=some (.slice q B9 d)) (first | (with_reducible exact ⟨x0,x1,x2⟩) | (with_reducible exact ⟨d0,d1,d2⟩) | (with_reducible exact ⟨i0,i1,i2⟩) | (with_reducible exact ⟨j0,j1,j2⟩) | (with_reducible exact ⟨m0,m1,m2⟩)) (first | (go_at_call 158;refine (hsm _).mono ?_;rintro e w1 ⟨r,rfl,o1,g1⟩;obtain ⟨p1,c1,rfl,a1,l1⟩:=o1.arr;have K1:Kp W w1:=Kp.trans (Kp.drew (Kp.refl _)) g1;have i0:=kkeep K1 x0;have i1:=kkeep K1 x1;have i2:=kkeep K1 x2) | (go_at_call 216;refine (hpw _ _ _ a1 l1).mono ?_;rintro e w2 ⟨r,rfl,o2,g2⟩;obtain ⟨p2,c2,rfl,a2,l2⟩:=o2.arr;have K2:Kp W w2:=Kp.trans K1 g2;have j0:=kkeep K2 x0;have j1:=kkeep K2 x1;have j2:=kkeep K2 x2) | (go_at_call 135;refine (htm _ _ _ (Kp.trans kW K2) a2 l2).mono ?_;rintro e w3 ⟨r,rfl,o3,g3⟩;obtain ⟨p3,c3,rfl,a3,l3⟩:=o3.arr;have K3:Kp W w3:=Kp.trans K2 g3;have m0:=kkeep K3 x0;have m1:=kkeep K3 x1;have m2:=kkeep K3 x2))
 go_wp2_with (first | (go_at_call_of 202 (Value.slice p3 (dig D).length c3);refine (hla _ _ _ a3 l3).mono ?_;rintro e wl ⟨rfl,hwl⟩;obtain rfl:=hwl.symm;clear hwl) | (go_at_call_of 202 (Value.slice p A9 c);refine (hlb _ (Kp.trans kW K3)).mono ?_;rintro e wl ⟨rfl,hwl⟩;obtain rfl:=hwl.symm;clear hwl))
 exact BR (v:=.int .i64 1) (by simp [results,Tryz.results184,go_sem]) rfl ⟨rfl,(Kp.trans kW K3)⟩
theorem powB1_ (X f D La Lb A9 B9:Nat) (la lb lc:Int) (p:Option Addr) (c:Nat) (q:Option Addr) (d:Nat) (f1:bits BinOp.and IntKind.u64 (X:Int) 4503599627370495=(f:Int)) (f2:(X:Int) / 4503599627370496=0)  (f9:wrap64 ((La:Int) + -1074)=la) (f9':wrap64 ((La:Int) - 1074)=la) (fa:wrap64 ((Lb:Int)+1)=lb) (fb:wrap64 ((Lb:Int) - 1)=lc) (t1:¬ lb<la) (t2:la<lc) (hsm:∀ W:World,Calls Tryz.prog 158 #[.int .u64 (f:Int)] W fun e w'=>∃ v,e=.returned v∧Own w' W.heap.size v (dig (f))∧Kp W w') (hpw:∀ (W:World) (p:Option Addr) (c:Nat),Arr W p (dig f)→(dig f).length≤c→Calls Tryz.prog 216 #[.slice p (dig f).length c,.int .i64 1] W fun e w'=>∃ v,e=.returned v∧Own w' W.heap.size v (dig (f))∧Kp W w') (w:World) (htm:∀ (W:World) (p1:Option Addr) (c1:Nat),Kp w W→Arr W p1 (dig f)→(dig f).length≤c1→Calls Tryz.prog 135 #[.slice p1 (dig f).length c1,.slice q B9 d] W fun e w'=>∃ v,e=.returned v∧Own w' W.heap.size v (dig (D))∧Kp W w') (hla:∀ (W:World) (p3:Option Addr) (c3:Nat),Arr W p3 (dig D)→(dig D).length≤c3→Calls Tryz.prog 202 #[.slice p3 (dig D).length c3] W fun e w'=>e=.returned (.int .i64 (La:Int))∧w'=W) (hlb:∀ W:World,Kp w W→Calls Tryz.prog 202 #[.slice p A9 c] W fun e w'=>e=.returned (.int .i64 (Lb:Int))∧w'=W)  : Calls Tryz.prog 184 #[.int .u64 (X:Int),.int .i64 1,.agg #[.bool false,.slice p A9 c,.slice q B9 d]] w fun e w'=>e=.returned (.int .i64 (-1))∧Kp w w':=by
 go_enter Tryz.func184,Tryz.ntmps184
 go_wp2
 have x0:(w.alloc (.cells #[.bool false,.slice p A9 c,.slice q B9 d] 57)).cell? ⟨w.heap.size,0,none⟩=some (.bool false):=by simp [go_sem]
 have x1:(w.alloc (.cells #[.bool false,.slice p A9 c,.slice q B9 d] 57)).cell? ⟨w.heap.size,1,none⟩=some (.slice p A9 c):=by simp [go_sem]
 have x2:(w.alloc (.cells #[.bool false,.slice p A9 c,.slice q B9 d] 57)).cell? ⟨w.heap.size,2,none⟩=some (.slice q B9 d):=by simp [go_sem]
 have kW:Kp w (w.alloc (.cells #[.bool false,.slice p A9 c,.slice q B9 d] 57)):=(Kp.refl w).alloc _
 generalize w.alloc (.cells #[.bool false,.slice p A9 c,.slice q B9 d] 57)=W at x0 x1 x2 kW ⊢
 have d0:W.drew.cell? ⟨w.heap.size,0,none⟩=some (.bool false):=x0
 have d1:W.drew.cell? ⟨w.heap.size,1,none⟩=some (.slice p A9 c):=x1
 have d2:W.drew.cell? ⟨w.heap.size,2,none⟩=some (.slice q B9 d):=x2
 go_region_held3 (fun w'=>w'.cell? ⟨w.heap.size,0,none⟩=some (.bool false)∧w'.cell? ⟨w.heap.size,1,none⟩=some (.slice p A9 c)∧w'.cell? ⟨w.heap.size,2,none⟩=some (.slice q B9 d)) (first | (with_reducible exact ⟨x0,x1,x2⟩) | (with_reducible exact ⟨d0,d1,d2⟩) | (with_reducible exact ⟨i0,i1,i2⟩) | (with_reducible exact ⟨j0,j1,j2⟩) | (with_reducible exact ⟨m0,m1,m2⟩)) (first | (go_at_call 158;refine (hsm _).mono ?_;rintro e w1 ⟨r,rfl,o1,g1⟩;obtain ⟨p1,c1,rfl,a1,l1⟩:=o1.arr;have K1:Kp W w1:=Kp.trans (Kp.drew (Kp.refl _)) g1;have i0:=kkeep K1 x0;have i1:=kkeep K1 x1;have i2:=kkeep K1 x2) | (go_at_call 216;refine (hpw _ _ _ a1 l1).mono ?_;rintro e w2 ⟨r,rfl,o2,g2⟩;obtain ⟨p2,c2,rfl,a2,l2⟩:=o2.arr;have K2:Kp W w2:=Kp.trans K1 g2;have j0:=kkeep K2 x0;have j1:=kkeep K2 x1;have j2:=kkeep K2 x2) | (go_at_call 135;refine (htm _ _ _ (Kp.trans kW K2) a2 l2).mono ?_;rintro e w3 ⟨r,rfl,o3,g3⟩;obtain ⟨p3,c3,rfl,a3,l3⟩:=o3.arr;have K3:Kp W w3:=Kp.trans K2 g3;have m0:=kkeep K3 x0;have m1:=kkeep K3 x1;have m2:=kkeep K3 x2))
 go_wp2_with (first | (go_at_call_of 202 (Value.slice p3 (dig D).length c3);refine (hla _ _ _ a3 l3).mono ?_;rintro e wl ⟨rfl,hwl⟩;obtain rfl:=hwl.symm;clear hwl) | (go_at_call_of 202 (Value.slice p A9 c);refine (hlb _ (Kp.trans kW K3)).mono ?_;rintro e wl ⟨rfl,hwl⟩;obtain rfl:=hwl.symm;clear hwl))
 exact BR (v:=.int .i64 (-1)) (by simp [results,Tryz.results184,go_sem]) rfl ⟨rfl,(Kp.trans kW K3)⟩
theorem powB3_ (X f D La Lb A9 B9:Nat) (la lb lc:Int) (p:Option Addr) (c:Nat) (q:Option Addr) (d:Nat) (f1:bits BinOp.and IntKind.u64 (X:Int) 4503599627370495=(f:Int)) (f2:(X:Int) / 4503599627370496=0)  (f9:wrap64 ((La:Int) + -1074)=la) (f9':wrap64 ((La:Int) - 1074)=la) (fa:wrap64 ((Lb:Int)+1)=lb) (fb:wrap64 ((Lb:Int) - 1)=lc) (t1:¬ lb<la) (t2:¬ la<lc) (hsm:∀ W:World,Calls Tryz.prog 158 #[.int .u64 (f:Int)] W fun e w'=>∃ v,e=.returned v∧Own w' W.heap.size v (dig (f))∧Kp W w') (hpw:∀ (W:World) (p:Option Addr) (c:Nat),Arr W p (dig f)→(dig f).length≤c→Calls Tryz.prog 216 #[.slice p (dig f).length c,.int .i64 1] W fun e w'=>∃ v,e=.returned v∧Own w' W.heap.size v (dig (f))∧Kp W w') (w:World) (htm:∀ (W:World) (p1:Option Addr) (c1:Nat),Kp w W→Arr W p1 (dig f)→(dig f).length≤c1→Calls Tryz.prog 135 #[.slice p1 (dig f).length c1,.slice q B9 d] W fun e w'=>∃ v,e=.returned v∧Own w' W.heap.size v (dig (D))∧Kp W w') (hla:∀ (W:World) (p3:Option Addr) (c3:Nat),Arr W p3 (dig D)→(dig D).length≤c3→Calls Tryz.prog 202 #[.slice p3 (dig D).length c3] W fun e w'=>e=.returned (.int .i64 (La:Int))∧w'=W) (hlb:∀ W:World,Kp w W→Calls Tryz.prog 202 #[.slice p A9 c] W fun e w'=>e=.returned (.int .i64 (Lb:Int))∧w'=W) (N R:Int) (M:Nat) (hlf:∀ W:World,Kp w W→Calls Tryz.prog 171 #[.slice p A9 c,.int .i64 1074] W fun e w'=>∃ v,e=.returned v∧Own w' W.heap.size v (dig (M))∧Kp W w') (hcm:∀ (W:World) (p3 p4:Option Addr) (c3 c4:Nat),Arr W p3 (dig D)→(dig D).length≤c3→Arr W p4 (dig M)→(dig M).length≤c4→Calls Tryz.prog 134 #[.slice p3 (dig D).length c3,.slice p4 (dig M).length c4] W fun e w'=>e=.returned (.int .i64 R)∧Kp W w'):Calls Tryz.prog 184 #[.int .u64 (X:Int),.int .i64 1,.agg #[.bool false,.slice p A9 c,.slice q B9 d]] w fun e w'=>e=.returned (.int .i64 R)∧Kp w w':=by
 go_enter Tryz.func184,Tryz.ntmps184
 go_wp2
 have x0:(w.alloc (.cells #[.bool false,.slice p A9 c,.slice q B9 d] 57)).cell? ⟨w.heap.size,0,none⟩=some (.bool false):=by simp [go_sem]
 have x1:(w.alloc (.cells #[.bool false,.slice p A9 c,.slice q B9 d] 57)).cell? ⟨w.heap.size,1,none⟩=some (.slice p A9 c):=by simp [go_sem]
 have x2:(w.alloc (.cells #[.bool false,.slice p A9 c,.slice q B9 d] 57)).cell? ⟨w.heap.size,2,none⟩=some (.slice q B9 d):=by simp [go_sem]
 have kW:Kp w (w.alloc (.cells #[.bool false,.slice p A9 c,.slice q B9 d] 57)):=(Kp.refl w).alloc _
 generalize w.alloc (.cells #[.bool false,.slice p A9 c,.slice q B9 d] 57)=W at x0 x1 x2 kW ⊢
 have d0:W.drew.cell? ⟨w.heap.size,0,none⟩=some (.bool false):=x0
 have d1:W.drew.cell? ⟨w.heap.size,1,none⟩=some (.slice p A9 c):=x1
 have d2:W.drew.cell? ⟨w.heap.size,2,none⟩=some (.slice q B9 d):=x2
 go_region_held3 (fun w'=>w'.cell? ⟨w.heap.size,0,none⟩=some (.bool false)∧w'.cell? ⟨w.heap.size,1,none⟩=some (.slice p A9 c)∧w'.cell? ⟨w.heap.size,2,none⟩=some (.slice q B9 d)) (first | (with_reducible exact ⟨x0,x1,x2⟩) | (with_reducible exact ⟨d0,d1,d2⟩) | (with_reducible exact ⟨i0,i1,i2⟩) | (with_reducible exact ⟨j0,j1,j2⟩) | (with_reducible exact ⟨m0,m1,m2⟩)) (first | (go_at_call 158;refine (hsm _).mono ?_;rintro e w1 ⟨r,rfl,o1,g1⟩;obtain ⟨p1,c1,rfl,a1,l1⟩:=o1.arr;have K1:Kp W w1:=Kp.trans (Kp.drew (Kp.refl _)) g1;have i0:=kkeep K1 x0;have i1:=kkeep K1 x1;have i2:=kkeep K1 x2) | (go_at_call 216;refine (hpw _ _ _ a1 l1).mono ?_;rintro e w2 ⟨r,rfl,o2,g2⟩;obtain ⟨p2,c2,rfl,a2,l2⟩:=o2.arr;have K2:Kp W w2:=Kp.trans K1 g2;have j0:=kkeep K2 x0;have j1:=kkeep K2 x1;have j2:=kkeep K2 x2) | (go_at_call 135;refine (htm _ _ _ (Kp.trans kW K2) a2 l2).mono ?_;rintro e w3 ⟨r,rfl,o3,g3⟩;obtain ⟨p3,c3,rfl,a3,l3⟩:=o3.arr;have K3:Kp W w3:=Kp.trans K2 g3;have m0:=kkeep K3 x0;have m1:=kkeep K3 x1;have m2:=kkeep K3 x2))
 go_wp2_with (first | (go_at_call_of 202 (Value.slice p3 (dig D).length c3);refine (hla _ _ _ a3 l3).mono ?_;rintro e wl ⟨rfl,hwl⟩;obtain rfl:=hwl.symm;clear hwl) | (go_at_call_of 202 (Value.slice p A9 c);refine (hlb _ (Kp.trans kW K3)).mono ?_;rintro e wl ⟨rfl,hwl⟩;obtain rfl:=hwl.symm;clear hwl) | (go_at_call 171;refine (hlf _ (Kp.trans kW K3)).mono ?_;rintro e w4 ⟨r,rfl,o4,g4⟩;obtain ⟨p4,c4,rfl,a4,l4⟩:=o4.arr;replace a3:=a3.grown g4) | (go_at_call 134;refine (hcm _ _ _ _ _ a3 l3 a4 l4).mono ?_;rintro e w5 ⟨rfl,g5⟩;have K5:Kp w w5:=Kp.trans (Kp.trans (Kp.trans kW K3) g4) g5))
 exact BR (v:=.int .i64 R) (by simp [results,Tryz.results184,go_sem]) rfl ⟨rfl,K5⟩

theorem len32_blen (n:Nat):len32 n≤blen n:=by
 by_cases c:blen n<len32 n
 ·exfalso
  have h1:=len32_lt n _ c
  have h2:n<2 ^ blen n:=(blen_le_iff n (blen n)).1 (Nat.le_refl _)
  have h3:2 ^ blen n≤4294967296 ^ blen n:=Nat.pow_le_pow_left (by decide) _
  omega
 ·omega

set_option linter.unusedVariables false
theorem cmI_scN (x y z:Nat) (h:z≠0):cmI ((x*z:Nat):Int) ((y*z:Nat):Int)=cmI (x:Int) y:=by
 have hz:0<z:=by omega
 rcases Nat.lt_trichotomy x y with g | g | g
 ·have:=Nat.mul_lt_mul_of_pos_right g hz
  rw [cmI_lt _ _ (by omega),cmI_lt _ _ (by omega)]
 ·rw [g];unfold cmI;simp
 ·have:=Nat.mul_lt_mul_of_pos_right g hz
  rw [cmI_gt _ _ (by omega),cmI_gt _ _ (by omega)]
theorem cmpN_cmI (x y:Nat):cmpN x y=cmI (x:Int) y:=by unfold cmpN cmI;simp only [Int.ofNat_lt]
theorem pow_ge (x k:Nat) (h:k<blen x):2 ^ k≤x:=by
 rcases Nat.lt_or_ge x (2 ^ k) with g | g
 ·have:=(blen_le_iff x k).2 g;omega
 ·exact g
theorem pow_lt9 (x:Nat):x<2 ^ blen x:=(blen_le_iff x (blen x)).1 (Nat.le_refl _)
theorem long_gt (D a E K:Nat) (h:blen a+K+1<blen D+E) (hD:0<blen D):a*2 ^ K<D*2 ^ E:=by
 have h1:=pow_lt9 a
 have h3:=pow_ge D (blen D - 1) (by omega)
 calc a*2 ^ K<2 ^ blen a*2 ^ K:=Nat.mul_lt_mul_of_pos_right h1 (Nat.two_pow_pos K)
  _=2 ^ (blen a+K):=(Nat.pow_add 2 _ _).symm
  _≤2 ^ (blen D - 1+E):=Nat.pow_le_pow_right (by decide) (by omega)
  _=2 ^ (blen D - 1)*2 ^ E:=Nat.pow_add 2 _ _
  _≤D*2 ^ E:=Nat.mul_le_mul_right _ h3
theorem long_lt (D a E K:Nat) (h:blen D+E+1<blen a+K) (ha:a≠0) (hK:0<blen a):D*2 ^ E<a*2 ^ K:=by
 have h1:=pow_lt9 D
 have h3:=pow_ge a (blen a - 1) (by omega)
 calc D*2 ^ E<2 ^ blen D*2 ^ E:=Nat.mul_lt_mul_of_pos_right h1 (Nat.two_pow_pos E)
  _=2 ^ (blen D+E):=(Nat.pow_add 2 _ _).symm
  _≤2 ^ (blen a - 1+K):=Nat.pow_le_pow_right (by decide) (by omega)
  _=2 ^ (blen a - 1)*2 ^ K:=Nat.pow_add 2 _ _
  _≤a*2 ^ K:=Nat.mul_le_mul_right _ h3
theorem w9_ (x:Int) (h1:-1000000000≤x) (h2:x≤1000000000):wrap64 x=x:=w64x x (by omega) (by omega)
theorem p9a (D:Nat) (h:D≤100053):wrap64 ((D:Int) + -1074)=(D:Int) - 1074:=by rw [w9_ _ (by omega) (by omega)];omega
theorem p9b (D:Nat) (h:D≤100053):wrap64 ((D:Int) - 1074)=(D:Int) - 1074:=w9_ _ (by omega) (by omega)
theorem p9c (a:Nat) (h:a≤100053):wrap64 ((a:Int)+1)=(a:Int)+1:=w9_ _ (by omega) (by omega)
theorem p9d (a:Nat) (h:a≤100053):wrap64 ((a:Int) - 1)=(a:Int) - 1:=w9_ _ (by omega) (by omega)
theorem p9e (D E:Nat) (h:D≤100053) (g:E≤2046):wrap64 ((D:Int)+((E:Int) - 1074))=(D:Int)+((E:Int) - 1074):=w9_ _ (by omega) (by omega)
theorem p9f (E0 E:Nat) (h:E0≤2047) (g:E=E0 - 1) (k:0<E0):wrap64 ((E0:Int) - 1)=(E:Int):=by rw [w9_ _ (by omega) (by omega)];omega
theorem p9g (E:Nat) (g:E≤2046):wrap64 ((E:Int) - 1074)=(E:Int) - 1074:=w9_ _ (by omega) (by omega)
theorem p9h (f0 f:Nat) (h:f0<4503599627370496) (g:f=f0+4503599627370496):IntKind.u64.wrap ((f0:Int)+4503599627370496)=(f:Int):=by rw [IntKind.wrap_u64];omega
theorem p9i (j:Nat) (h:j≤1074):wrap64 (j:Int)=(j:Int):=w9_ _ (by omega) (by omega)
theorem q9a (D A E K:Nat) (hK:K=1074) (hE:E=0) (t:(A:Int)+1<(D:Int) - 1074):A+K+1<D+E:=by omega
theorem q9b (D A E K:Nat) (hK:K=1074) (hE:E=0) (t:(D:Int) - 1074<(A:Int) - 1):D+E+1<A+K:=by omega
theorem q9c (D A E K:Nat) (hK:K=1074) (t:(A:Int)+1<(D:Int)+((E:Int) - 1074)):A+K+1<D+E:=by omega
theorem q9d (D A E K:Nat) (hK:K=1074) (t:(D:Int)+((E:Int) - 1074)<(A:Int) - 1):D+E+1<A+K:=by omega
theorem q9e (E:Nat) (hE:E≤2046) (t:(0:Int)≤(E:Int) - 1074):∃ j:Nat,(E:Int) - 1074=j∧j≤2046∧∀ K:Nat,K=1074→j+K=E:=⟨E - 1074,by omega,by omega,fun K hK=>by omega⟩
theorem q9f (E:Nat) (t:¬ (0:Int)≤(E:Int) - 1074):∃ j:Nat,-((E:Int) - 1074)=j∧j≤1074∧∀ K:Nat,K=1074→j+E=K:=⟨1074 - E,by omega,by omega,fun K hK=>by omega⟩
theorem q9g (K:Nat) (hK:K=1074):((K:Nat):Int)=1074:=by omega
theorem pow1_ (m:Nat) (hm0:m≠0) (hm:m<9218868437227405312) (a b P:Nat) (p:Option Addr) (l c:Nat) (q:Option Addr) (k d:Nat) (B1:Nat) (w:World) (o1:Own w B1 (.slice p l c) (dig a)) (o2:Own w B1 (.slice q k d) (dig b)) (hb:b≠0) (hP:P≠0) (hV:∀ K:Nat,K=1074→a*2 ^ K=P*b) (ba:blen a≤100000) (bb:blen b≤100000):Calls Tryz.prog 184 #[.int .u64 (m:Int),.int .i64 1,.agg #[.bool false,.slice p l c,.slice q k d]] w fun e w'=>e=.returned (.int .i64 (cmI ((Fq.vV Ieee.double m:Nat):Int) P))∧Kp w w':=by
 obtain ⟨p',c',e1,u1,v1⟩:=o1.arr
 obtain ⟨q',d',e2,u2,v2⟩:=o2.arr
 simp at e1 e2
 obtain ⟨rfl,rfl,rfl⟩:=e1
 obtain ⟨rfl,rfl,rfl⟩:=e2
 obtain ⟨K,hK⟩:∃ K:Nat,K=1074:=⟨_,rfl⟩
 have hV:=hV K hK
 have hv:Fq.vV Ieee.double m=(if m<4503599627370496 then m else 4503599627370496+m % 4503599627370496)*2 ^ (if m<4503599627370496 then 0 else m / 4503599627370496 - 1):=by
  unfold Fq.vV Fq.mM Fq.eE;rw [Fq.binD]
 obtain ⟨f0,hf0⟩:∃ f0,f0=m % 4503599627370496:=⟨_,rfl⟩
 obtain ⟨E0,hE0⟩:∃ E0,E0=m / 4503599627370496:=⟨_,rfl⟩
 have f1:bits BinOp.and IntKind.u64 (m:Int) 4503599627370495=(f0:Int):=by
  have h:=u64_and_nat m 4503599627370495 (by omega) (by decide)
  rw [show (4503599627370495:Nat)=2 ^ 52 - 1 from by decide,Nat.and_two_pow_sub_one_eq_mod,show (2:Nat) ^ 52=4503599627370496 from by decide,← hf0] at h
  exact h
 have f2:(m:Int) / 4503599627370496=(E0:Int):=by rw [hE0];exact (Int.natCast_ediv _ _).symm
 have f6:IntKind.i64.wrap (E0:Int)=(E0:Int):=wi64 _ (by omega) (by omega)
 obtain ⟨f,hf⟩:∃ f,f=(if m<4503599627370496 then m else 4503599627370496+m % 4503599627370496):=⟨_,rfl⟩
 obtain ⟨E,hE⟩:∃ E,E=(if m<4503599627370496 then 0 else m / 4503599627370496 - 1):=⟨_,rfl⟩
 rw [← hf,← hE] at hv
 have bf:f<9007199254740992:=by rw [hf];split <;> omega
 have f0':f≠0:=by rw [hf];split <;> omega
 have bE:E≤2046:=by rw [hE];split <;> omega
 have b53:blen f≤53:=by rw [blen_le_iff,show (2:Nat) ^ 53=9007199254740992 from by decide];exact bf
 obtain ⟨D,hD⟩:∃ D,D=f*b:=⟨_,rfl⟩
 have bD:blen D≤100053:=by
  have h4:∀ x y:Nat,blen f≤x→blen b≤y→blen (f*b)≤x+y:=fun x y u v=>by
   rw [blen_le_iff] at u v ⊢
   rw [Nat.pow_add]
   exact Nat.mul_lt_mul'' u v
  rw [hD];have:=h4 _ _ b53 bb;omega
 have ha:a≠0:=fun h=>by
  rw [h,Nat.zero_mul] at hV
  rcases Nat.mul_eq_zero.1 hV.symm with g | g
  ·exact hP g
  ·exact hb g
 have hval:cmI ((Fq.vV Ieee.double m:Nat):Int) P=cmI ((D*2 ^ E:Nat):Int) ((a*2 ^ K:Nat):Int):=by
  rw [hV,show D*2 ^ E=Fq.vV Ieee.double m*b from by rw [hD,hv,Nat.mul_right_comm],cmI_scN _ _ _ hb]
 have hfE:(f=f0∧E=0∧E0=0)∨(f=f0+4503599627370496∧E=E0 - 1∧0<E0):=by
  by_cases cE:m<4503599627370496
  ·exact Or.inl ⟨by rw [hf,if_pos cE,hf0,Nat.mod_eq_of_lt cE],by rw [hE,if_pos cE],by rw [hE0];exact Nat.div_eq_of_lt cE⟩
  ·exact Or.inr ⟨by rw [hf,if_neg cE,hf0,Nat.add_comm],by rw [hE,if_neg cE,hE0],by rw [hE0];exact Nat.div_pos (Nat.le_of_not_lt cE) (by decide)⟩
 have bE0:E0≤2047:=by rw [hE0];omega
 have bf0:f0<4503599627370496:=by rw [hf0];exact Nat.mod_lt _ (by decide)
 clear hf hE hv hf0 hE0 o1 o2
 have lf9:(dig f).length≤16777216:=by have:=len32_blen f;show len32 f≤_;omega
 have lb9:(dig b).length≤16777216:=by have:=len32_blen b;show len32 b≤_;omega
 have la9:(dig a).length≤1048576:=by have:=len32_blen a;show len32 a≤_;omega
 have lD9:(dig D).length≤1048576:=by have:=len32_blen D;show len32 D≤_;omega
 have hsm:=fun W=>rsmall_ f (by omega) W
 have hpw:∀ (W:World) (p:Option Addr) (c:Nat),Arr W p (dig f)→(dig f).length≤c→Calls Tryz.prog 216 #[.slice p (dig f).length c,.int .i64 1] W fun e w'=>∃ v,e=.returned v∧Own w' W.heap.size v (dig f)∧Kp W w':=fun W p c h1 h2=>by
  have h:=rpowerI_ p c 1 (dig f) W h1 (Wd_dig f) lf9 (by rw [val_dig];omega) (by rw [val_dig,Nat.pow_one];exact lf9) (by omega)
  rw [val_dig,Nat.pow_one] at h
  exact h
 have htm:∀ (W:World) (p1:Option Addr) (c1:Nat),Kp w W→Arr W p1 (dig f)→(dig f).length≤c1→Calls Tryz.prog 135 #[.slice p1 (dig f).length c1,.slice q (dig b).length d] W fun e w'=>∃ v,e=.returned v∧Own w' W.heap.size v (dig D)∧Kp W w':=fun W p1 c1 y h1 h2=>by
  have h:=rtimes_ p1 q c1 d (dig f) (dig b) W h1 (u2.grown y) (Wd_dig f) (Wd_dig b) lf9 lb9
  rw [val_dig,val_dig,← hD] at h
  exact h
 have hla:∀ (W:World) (p3:Option Addr) (c3:Nat),Arr W p3 (dig D)→(dig D).length≤c3→Calls Tryz.prog 202 #[.slice p3 (dig D).length c3] W fun e w'=>e=.returned (.int .i64 ((blen D:Nat):Int))∧w'=W:=fun W p3 c3 h1 h2=>by
  have h:=rlen_ p3 c3 (dig D) W h1 (Wd_dig D) (by omega)
  rw [val_dig] at h
  exact h
 have hlb:∀ W:World,Kp w W→Calls Tryz.prog 202 #[.slice p (dig a).length c] W fun e w'=>e=.returned (.int .i64 ((blen a:Nat):Int))∧w'=W:=fun W y=>by
  have h:=rlen_ p c (dig a) W (u1.grown y) (Wd_dig a) (by omega)
  rw [val_dig] at h
  exact h
 have w9:∀ x:Int,-1000000000≤x→x≤1000000000→wrap64 x=x:=fun x h1 h2=>w64x x (by omega) (by omega)
 rw [hval]
 have hcmA:∀ (M:Nat),(dig M).length≤1048576→∀ (W:World) (p4:Option Addr) (c4:Nat),Kp w W→Arr W p4 (dig M)→(dig M).length≤c4→Calls Tryz.prog 134 #[.slice p4 (dig M).length c4,.slice p (dig a).length c] W fun e w'=>e=.returned (.int .i64 (cmpN M a))∧Kp W w':=fun M lM W p4 c4 y h1 h2=>by
  have h:=rcmp_ p4 p c4 c (dig M) (dig a) W h1 (u1.grown y) (Wd_dig M) (Wd_dig a) (by omega) (by omega)
  rw [val_dig,val_dig] at h
  exact h
 have hcmB:∀ (M:Nat),(dig M).length≤1048576→∀ (W:World) (p3 p4:Option Addr) (c3 c4:Nat),Arr W p3 (dig D)→(dig D).length≤c3→Arr W p4 (dig M)→(dig M).length≤c4→Calls Tryz.prog 134 #[.slice p3 (dig D).length c3,.slice p4 (dig M).length c4] W fun e w'=>e=.returned (.int .i64 (cmpN D M))∧Kp W w':=fun M lM W p3 p4 c3 c4 h1 h2 h3 h4=>by
  have h:=rcmp_ p3 p4 c3 c4 (dig D) (dig M) W h1 h3 (Wd_dig D) (Wd_dig M) (by omega) (by omega)
  rw [val_dig,val_dig] at h
  exact h
 have hlfB:∀ (j:Nat),j≤1074→∀ W:World,Kp w W→Calls Tryz.prog 171 #[.slice p (dig a).length c,.int .i64 (j:Int)] W fun e w'=>∃ v,e=.returned v∧Own w' W.heap.size v (dig (a*2 ^ j))∧Kp W w':=fun j hj W y=>by
  have h:=rleft_ p c j (dig a) W (u1.grown y) (Wd_dig a) (by omega) (by omega)
  rw [val_dig] at h
  exact h
 have hlfA:∀ (j:Nat),j≤2046→∀ (W:World) (p3:Option Addr) (c3:Nat),Arr W p3 (dig D)→(dig D).length≤c3→Calls Tryz.prog 171 #[.slice p3 (dig D).length c3,.int .i64 (j:Int)] W fun e w'=>∃ v,e=.returned v∧Own w' W.heap.size v (dig (D*2 ^ j))∧Kp W w':=fun j hj W p3 c3 h1 h2=>by
  have h:=rleft_ p3 c3 j (dig D) W h1 (Wd_dig D) (by omega) (by omega)
  rw [val_dig] at h
  exact h
 have lsh:∀ (x j:Nat),blen x≤100053→j≤2046→(dig (x*2 ^ j)).length≤1048576:=fun x j h1 h2=>by
  have h3:blen (x*2 ^ j)≤blen x+j:=by
   rw [blen_le_iff,Nat.pow_add]
   exact Nat.mul_lt_mul_of_pos_right (pow_lt9 x) (Nat.two_pow_pos j)
  have:=len32_blen (x*2 ^ j);show len32 _≤_;omega
 have hba:0<blen a:=by
  rcases Nat.eq_zero_or_pos (blen a) with h | h
  ·have:=pow_lt9 a;rw [h] at this;simp at this;exact absurd this ha
  ·exact h
 have hbD:0<blen D:=by
  rcases Nat.eq_zero_or_pos (blen D) with h | h
  ·have:=pow_lt9 D;rw [h] at this;simp at this
   rw [hD] at this
   rcases Nat.mul_eq_zero.1 this with g | g
   ·exact absurd g f0'
   ·exact absurd g hb
  ·exact h
 have tooA:∀ z:Nat,cmpN (D*2 ^ z) a=cmI ((D*2 ^ (z+K):Nat):Int) ((a*2 ^ K:Nat):Int):=fun z=>by
  rw [cmpN_cmI,Nat.pow_add,← Nat.mul_assoc,cmI_scN _ _ _ (Nat.ne_of_gt (Nat.two_pow_pos K))]
 have tooB:∀ z:Nat,cmpN D (a*2 ^ z)=cmI ((D*2 ^ E:Nat):Int) ((a*2 ^ (z+E):Nat):Int):=fun z=>by
  rw [cmpN_cmI,Nat.pow_add,← Nat.mul_assoc,cmI_scN _ _ _ (Nat.ne_of_gt (Nat.two_pow_pos E))]
 have HV:Hid (a*2 ^ K=P*b∧D=f*b):=⟨hV,hD⟩
 clear hV hval hD f0'
 have bA:blen a≤100053:=Nat.le_trans ba (by decide)
 have fa:=p9c (blen a) bA
 have fb:=p9d (blen a) bA
 have gtI:∀ x y:Nat,y<x→cmI ((x:Nat):Int) ((y:Nat):Int)=1:=fun x y h=>cmI_gt _ _ (Int.ofNat_lt.2 h)
 have ltI:∀ x y:Nat,x<y→cmI ((x:Nat):Int) ((y:Nat):Int) = -1:=fun x y h=>cmI_lt _ _ (Int.ofNat_lt.2 h)
 have lD9':=lsh D
 have la9':=lsh a
 have blD:∀ j:Nat,j≤2046→(dig (D*2 ^ j)).length≤1048576:=fun j h=>lD9' j bD h
 have bla:∀ j:Nat,j≤1074→(dig (a*2 ^ j)).length≤1048576:=fun j h=>la9' j bA (Nat.le_trans h (by decide))
 have K9:K≤1074:=Nat.le_of_eq hK
 clear lD9' la9' lsh w9 b53 bf
 rcases hfE with ⟨ef,eE0,e0⟩ | ⟨ef,eE1,e0⟩
 ·rw [← ef] at f1
  rw [e0] at f2
  have f9:=p9a (blen D) bD
  have f9':=p9b (blen D) bD
  by_cases t1:((blen a:Nat):Int)+1<((blen D:Nat):Int) - 1074
  ·rw [gtI _ _ (long_gt D a E K (q9a _ _ _ _ hK eE0 t1) hbD)]
   exact powB0_ m f D _ _ _ _ _ _ _ p c q d f1 f2 f9 f9' fa fb t1 hsm hpw w htm hla hlb
  ·by_cases t2:((blen D:Nat):Int) - 1074<((blen a:Nat):Int) - 1
   ·rw [ltI _ _ (long_lt D a E K (q9b _ _ _ _ hK eE0 t2) ha hba)]
    exact powB1_ m f D _ _ _ _ _ _ _ p c q d f1 f2 f9 f9' fa fb t1 t2 hsm hpw w htm hla hlb
   ·have q9:=hlfB K K9
    rw [q9g K hK] at q9
    have h:=powB3_ m f D _ _ _ _ _ _ _ p c q d f1 f2 f9 f9' fa fb t1 t2 hsm hpw w htm hla hlb 0 _ (a*2 ^ K) q9 (hcmB _ (bla K K9))
    rw [tooB,eE0,Nat.add_zero,← eE0] at h
    exact h
 ·have f3:=p9h f0 f bf0 ef
  have f4:=p9f E0 E bE0 eE1 e0
  have f5:=p9g E bE
  have f7:wrap64 (((E:Int) - 1074)*1)=(E:Int) - 1074:=by rw [Int.mul_one];exact f5
  have f8:wrap64 ((E:Int) - 1074)=(E:Int) - 1074:=f5
  have f9:=p9e (blen D) E bD bE
  have e0':(0:Int)<(E0:Int):=Int.ofNat_lt.2 e0
  by_cases t1:((blen a:Nat):Int)+1<((blen D:Nat):Int)+((E:Int) - 1074)
  ·rw [gtI _ _ (long_gt D a E K (q9c _ _ _ _ hK t1) hbD)]
   exact powA0_ m f0 E0 f D _ _ _ _ _ _ _ _ _ _ p c q d f1 f2 f6 e0' f3 f4 f5 f7 f5 f9 fa fb t1 hsm hpw w htm hla hlb
  ·by_cases t2:((blen D:Nat):Int)+((E:Int) - 1074)<((blen a:Nat):Int) - 1
   ·rw [ltI _ _ (long_lt D a E K (q9d _ _ _ _ hK t2) ha hba)]
    exact powA1_ m f0 E0 f D _ _ _ _ _ _ _ _ _ _ p c q d f1 f2 f6 e0' f3 f4 f5 f7 f5 f9 fa fb t1 t2 hsm hpw w htm hla hlb
   ·by_cases t3:(0:Int)≤(E:Int) - 1074
    ·obtain ⟨j,hj,hj9,hjK⟩:=q9e E bE t3
     have h:=powA2_ m f0 E0 f D _ _ _ _ _ _ _ _ _ _ p c q d f1 f2 f6 e0' f3 f4 f5 f7 f5 f9 fa fb t1 t2 t3 hsm hpw w htm hla hlb 0 _ _ (by rw [hj];exact hlfA j hj9) (hcmA _ (blD j hj9))
     rw [tooA,hjK K hK] at h
     exact h
    ·obtain ⟨j,hj,hj9,hjK⟩:=q9f E t3
     have h:=powA3_ m f0 E0 f D _ _ _ _ _ _ _ _ _ _ p c q d f1 f2 f6 e0' f3 f4 f5 f7 f5 f9 fa fb t1 t2 t3 (j:Int) (by rw [hj];exact p9i j hj9) hsm hpw w htm hla hlb 0 _ _ (hlfB j hj9) (hcmB _ (bla j hj9))
     rw [tooB,hjK K hK] at h
     exact h
set_option linter.unusedVariables false
set_option linter.unusedSimpArgs false

theorem cmI_tri (x y:Int):(x<y∧cmI x y = -1)∨(x=y∧cmI x y=0)∨(y<x∧cmI x y=1):=by
 unfold cmI
 rcases Int.lt_trichotomy x y with h | h | h
 ·exact Or.inl ⟨h,if_pos h⟩
 ·exact Or.inr (Or.inl ⟨h,by rw [if_neg (by omega),if_neg (by omega)]⟩)
 ·exact Or.inr (Or.inr ⟨h,by rw [if_neg (by omega),if_pos h]⟩)
theorem infS_cases (X:Int) (hX:BdZ X):infS (decide (X<0)) X.natAbs=if X=9218868437227405312 then 1 else if X = -9218868437227405312 then -1 else 0:=by
 unfold BdZ at hX
 unfold infS
 by_cases c1:X=9218868437227405312
 ·rw [c1];decide
 ·by_cases c2:X = -9218868437227405312
  ·rw [c2];decide
  ·rw [if_neg (by omega),if_neg c1,if_neg c2]
theorem cmpB_ (X i V:Int) (hX:BdZ X) (hi:i=0∨((i=1∨i = -1)∧V=0)) (hb:X=9218868437227405312∨X = -9218868437227405312∨i≠0) s p l c q k d s5 p5 l5 c5 q5 k5 d5 (w:World):Calls Tryz.prog 73 #[.agg #[.int .i64 (infS (decide (X<0)) X.natAbs),.bool s5,.slice p5 l5 c5,.slice q5 k5 d5],.agg #[.int .i64 i,.bool s,.slice p l c,.slice q k d]] w fun e w'=>e=.returned (.int .i64 (cB X i V))∧Kp w w':=by
 have hB:=hX
 unfold BdZ at hB
 rw [infS_cases X hX]
 unfold cB
 by_cases c1:X=9218868437227405312
 ·subst c1
  rw [if_pos rfl]
  rcases hi with rfl | ⟨rfl | rfl,-⟩
  ·exact endG_ 1 0 s5 p5 l5 c5 q5 k5 d5 s p l c q k d (by decide) (by decide) w
  ·exact endE_ 1 s5 p5 l5 c5 q5 k5 d5 s p l c q k d (by decide) w
  ·exact endG_ 1 (-1) s5 p5 l5 c5 q5 k5 d5 s p l c q k d (by decide) (by decide) w
 ·rw [if_neg c1]
  by_cases c2:X = -9218868437227405312
  ·subst c2
   rw [if_pos rfl]
   rcases hi with rfl | ⟨rfl | rfl,-⟩
   ·exact endL_ (-1) 0 s5 p5 l5 c5 q5 k5 d5 s p l c q k d (by decide) (by decide) w
   ·exact endL_ (-1) 1 s5 p5 l5 c5 q5 k5 d5 s p l c q k d (by decide) (by decide) w
   ·exact endE_ (-1) s5 p5 l5 c5 q5 k5 d5 s p l c q k d (by decide) w
  ·rw [if_neg c2]
   rcases hi with rfl | ⟨rfl | rfl,-⟩
   ·exfalso;omega
   ·rw [if_neg (by decide),cmI_lt _ _ (by omega)]
    exact endL_ 0 1 s5 p5 l5 c5 q5 k5 d5 s p l c q k d (by decide) (by decide) w
   ·rw [if_neg (by decide),cmI_gt _ _ (by omega)]
    exact endG_ 0 (-1) s5 p5 l5 c5 q5 k5 d5 s p l c q k d (by decide) (by decide) w
theorem Iv_pos (X:Int) (h:0<X):Iv (decide (X<0)) X.natAbs=(Fq.vV Ieee.double X.natAbs:Int):=by
 rw [decide_eq_false (show ¬ X<0 by omega)];rfl
theorem Iv_neg (X:Int) (h:X<0):Iv (decide (X<0)) X.natAbs = -(Fq.vV Ieee.double X.natAbs:Int):=by
 rw [decide_eq_true h];rfl
theorem against9_ (X i V:Int) (hX:BdZ X) (hi:i=0∨((i=1∨i = -1)∧V=0)) (o:Bool) s p l c q k d (w:World) (h:VP 0 w s p l c q k d V):Calls Tryz.prog 145 #[.int .u64 (pI X),.agg #[.int .i64 i,.bool s,.slice p l c,.slice q k d,.int .i64 1,.bool o]] w fun e w'=>∃ R:Int,e=.returned (.int .i64 R)∧(R<0 ↔ cB X i V<0)∧(0<R ↔ 0<cB X i V)∧Kp w w':=by
 have hm:=abs_pw X hX
 have hne:Fq.wD (decide (X<0)) X.natAbs≠9223372036854775808:=pw_ne X hX
 by_cases hb:X=9218868437227405312∨X = -9218868437227405312∨i≠0
 ·refine (againstC_ (pI X) i (infS (decide (X<0)) X.natAbs) (cB X i V) _ o (fN (decide (X<0)) X.natAbs) (fM X.natAbs) s p l c q k d (isinf9_ X hX) ?_ w (fun w=>bound_ _ _ hm hne w) (fun W s5 p5 l5 c5 q5 k5 d5 _ _=>cmpB_ X i V hX hi hb s p l c q k d s5 p5 l5 c5 q5 k5 d5 W)).mono (fun e w' q=>⟨_,q.1,Iff.rfl,Iff.rfl,q.2⟩)
  by_cases c1:X=9218868437227405312∨X = -9218868437227405312
  ·exact Or.inl (decide_eq_true c1)
  ·refine Or.inr ⟨decide_eq_false c1, ?_⟩
   rcases hb with g | g | g
   ·exact absurd (Or.inl g) c1
   ·exact absurd (Or.inr g) c1
   ·simpa using g
 ·have c1:¬ (X=9218868437227405312∨X = -9218868437227405312):=fun g=>hb (by rcases g with g | g <;> simp [g])
  have i0:i=0:=by
   rcases Classical.em (i=0) with g | g
   ·exact g
   ·exact absurd (Or.inr (Or.inr g)) hb
  subst i0
  have hlt:X.natAbs<9218868437227405312:=by unfold BdZ at hX;omega
  have ecb:cB X 0 V=cmI (Iv (decide (X<0)) X.natAbs) V:=by
   unfold cB
   rw [if_pos rfl,if_neg (fun g=>c1 (Or.inl g)),if_neg (fun g=>c1 (Or.inr g))]
  rw [ecb]
  have hfb:=fun w=>fromR_ (decide (X<0)) X.natAbs hlt w
  have hs:=fun (W:World) s5 p5 l5 c5 q5 k5 d5 (g:RP 0 W s5 p5 l5 c5 q5 k5 d5 (decide (X<0)) X.natAbs)=>vsign_ s5 p5 l5 c5 q5 k5 d5 _ 0 W g.vp
  have ht:=fun (W:World) (g:Kp w W)=>vsign_ s p l c q k d V 0 W (h.kp g)
  have tx:decide (X=9218868437227405312∨X = -9218868437227405312)=false:=decide_eq_false c1
  generalize hU:Iv (decide (X<0)) X.natAbs=U at hs ⊢
  by_cases c2:cmI U 0=cmI V 0
  ·by_cases c3:U=0
   ·have hV:V=0:=by
     rcases cmI_tri V 0 with g | g | g <;> rcases cmI_tri U 0 with g' | g' | g' <;> omega
    subst c3 hV
    refine (againstN_ (pI X) 0 (cmI 0 0) (cmI 0 0) _ o _ _ s p l c q k d (isinf9_ X hX) tx w hfb hs ht (Or.inr (Or.inl ⟨rfl,by decide,by decide⟩))).mono (fun e w' q=>⟨_,q.1,by decide,by decide,q.2⟩)
   ·have hV:V≠0:=by
     rcases cmI_tri V 0 with g | g | g <;> rcases cmI_tri U 0 with g' | g' | g' <;> omega
    have hx0:X≠0:=fun g=>c3 (by rw [← hU,g];decide +kernel)
    have hsz:=(Fq.noTop6 (decide (X<0)) X.natAbs (Fq.wD (decide (X<0)) X.natAbs) (by omega) rfl).1
    obtain ⟨a,b,o1,o2,hf⟩:=id h
    have hpw:=fun (W:World) (g:Kp w W)=>pow1_ X.natAbs (by omega) hlt a b V.natAbs p l c q k d 0 W (o1.kp g) (o2.kp g) (hf 1074 rfl).1 (by omega) (fun K hK=>(hf K hK).2.1) (hf 1074 rfl).2.2.2.1 (hf 1074 rfl).2.2.2.2
    have hCr:∀ C8 S:Int,(C8 = -1∨C8=0∨C8=1)→(S=1∨S = -1)→wrap64 (S*C8)=S*C8:=fun C8 S h1 h2=>by
     rcases h1 with rfl | rfl | rfl <;> rcases h2 with rfl | rfl <;> exact w64x _ (by decide) (by decide)
    have hC3:∀ x y:Int,cmI x y = -1∨cmI x y=0∨cmI x y=1:=fun x y=>by
     rcases cmI_tri x y with g | g | g
     ·exact Or.inl g.2
     ·exact Or.inr (Or.inl g.2)
     ·exact Or.inr (Or.inr g.2)
    have hS:cmI U 0=1∨cmI U 0 = -1:=by
     rcases cmI_tri U 0 with g | g | g
     ·exact Or.inr g.2
     ·exact absurd g.1 c3
     ·exact Or.inl g.2
    have hR:cmI U 0*cmI (Fq.vV Ieee.double X.natAbs:Int) (V.natAbs:Int)=cmI U V:=by
     rcases Int.lt_or_lt_of_ne hx0 with g | g
     ·have e1:=Iv_neg X g
      rw [hU] at e1
      have v0:(0:Int)≤(Fq.vV Ieee.double X.natAbs:Int):=Int.natCast_nonneg _
      generalize (Fq.vV Ieee.double X.natAbs:Int)=v at e1 v0 ⊢
      have n1:U<0∨0<U:=by omega
      rcases cmI_tri U 0 with g1 | g1 | g1 <;> rcases cmI_tri V 0 with g2 | g2 | g2 <;> rcases cmI_tri v (V.natAbs:Int) with g3 | g3 | g3 <;> rcases cmI_tri U V with g4 | g4 | g4 <;> first | (exfalso;omega) | (rw [g1.2,g3.2,g4.2];decide)
     ·have e1:=Iv_pos X g
      rw [hU] at e1
      have v0:(0:Int)≤(Fq.vV Ieee.double X.natAbs:Int):=Int.natCast_nonneg _
      generalize (Fq.vV Ieee.double X.natAbs:Int)=v at e1 v0 ⊢
      rcases cmI_tri U 0 with g1 | g1 | g1 <;> rcases cmI_tri V 0 with g2 | g2 | g2 <;> rcases cmI_tri v (V.natAbs:Int) with g3 | g3 | g3 <;> rcases cmI_tri U V with g4 | g4 | g4 <;> first | (exfalso;omega) | (rw [g1.2,g3.2,g4.2];decide)
    refine (againstN_ (pI X) (cmI U V) (cmI U 0) (cmI V 0) _ o _ _ s p l c q k d (isinf9_ X hX) tx w hfb hs ht (Or.inr (Or.inr ⟨c2.symm, ?_,(X.natAbs:Int),_,hsz,hpw, ?_⟩))).mono (fun e w' q=>⟨_,q.1,Iff.rfl,Iff.rfl,q.2⟩)
    ·rcases hS with g | g <;> rw [g] <;> decide
    ·rw [hCr _ _ (hC3 _ _) hS];exact hR
  ·refine (againstN_ (pI X) (cmI U 0 - cmI V 0) (cmI U 0) (cmI V 0) _ o _ _ s p l c q k d (isinf9_ X hX) tx w hfb hs ht (Or.inl ⟨by simpa using c2, ?_⟩)).mono (fun e w' q=>⟨_,q.1, ?_, ?_,q.2⟩)
   ·rcases cmI_tri U 0 with g | g | g <;> rcases cmI_tri V 0 with g' | g' | g' <;> rw [g.2,g'.2] <;> exact w64x _ (by decide) (by decide)
   ·rcases cmI_tri U 0 with g | g | g <;> rcases cmI_tri V 0 with g' | g' | g' <;> rcases cmI_tri U V with g2 | g2 | g2 <;> rw [g.2,g'.2] at c2 ⊢ <;> rw [g2.2] <;> first | omega | decide
   ·rcases cmI_tri U 0 with g | g | g <;> rcases cmI_tri V 0 with g' | g' | g' <;> rcases cmI_tri U V with g2 | g2 | g2 <;> rw [g.2,g'.2] at c2 ⊢ <;> rw [g2.2] <;> first | omega | decide
set_option linter.unusedVariables false
set_option linter.unusedSimpArgs false
theorem rnd9_ (V dd:Int) (o:Bool) s p l c q k d (w:World) (h:VP 0 w s p l c q k d V):Calls Tryz.prog 146 #[.int .i64 dd,.agg #[.int .i64 0,.bool s,.slice p l c,.slice q k d,.int .i64 1,.bool o]] w fun e w'=>e=.returned (.int .u64 ((sumW dd V:Nat):Int))∧Kp w w':=by
 go_enter Tryz.func146,Tryz.ntmps146
 go_wp2_with (first | (go_at_call 150;refine (vbits_ s p l c q k d V dd 0 _ (h.kp (by repeat (with_reducible (first | assumption | exact Kp.refl _ | apply Kp.drew | apply Kp.alloc | apply Kp.drewN | (refine Kp.setCell ?_ (by first | omega | (simp <;> omega)) _) | (refine Kp.trans ?_ (by assumption))))))).mono ?_;rintro e w1 ⟨rfl,g1⟩))
 exact BR (v:=.int .u64 ((sumW dd V:Nat):Int)) (by simp [results,Tryz.results146,go_sem]) rfl ⟨rfl,(by repeat (with_reducible (first | assumption | exact Kp.refl _ | apply Kp.drew | apply Kp.alloc | apply Kp.drewN | (refine Kp.setCell ?_ (by first | omega | (simp <;> omega)) _) | (refine Kp.trans ?_ (by assumption)))))⟩
end Go.Proofs.YtmpjcknaelgnoaaGreatDoor
