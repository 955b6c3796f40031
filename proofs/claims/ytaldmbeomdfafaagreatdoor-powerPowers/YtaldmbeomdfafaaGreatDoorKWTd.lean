import Derived.Test.YtaldmbeomdfafaaGreatDoorKPQi
set_option maxHeartbeats 2000000
set_option maxRecDepth 20000
namespace Go.Proofs.YtaldmbeomdfafaaGreatDoor
open Go.RowKit
set_option linter.unusedVariables false
theorem powersA_ (LO HI X Y:Nat) (N:Int) (hne:LO≠HI∨True) (w:World) (h1:∀ W:World,Kp w W→Calls Tryz.prog 85 #[.int .i64 (-1),.float .f64 LO,.int .i64 N] W fun e w'=>e = .returned (.float .f64 X)∧Kp W w') (h2:∀ W:World,Kp w W→Calls Tryz.prog 85 #[.int .i64 1,.float .f64 HI,.int .i64 N] W fun e w'=>e = .returned (.float .f64 Y)∧Kp W w'):Calls Tryz.prog 50 #[.float .f64 LO,.float .f64 HI,.int .i64 N] w fun e w'=>e = .returned (.agg #[.float .f64 X,.float .f64 Y])∧Kp w w':=by
 clear hne
 have kw:Kp w (w.alloc (.cells #[.float .f64 0,.float .f64 0] 25)):=(Kp.refl w).alloc _
 have q0:=Fq.H2.new w (.float .f64 0) (.float .f64 0) 25
 go_enter Tryz.func50,Tryz.ntmps50
 go_wp2_with (first | (go_at_call_of 85 (Value.float .f64 HI);refine (h2 _ kw).mono ?_;rintro e wx ⟨rfl,gx⟩;replace kw:=Kp.trans kw gx;replace q0:=Fq.H2.keep q0 gx;clear gx;obtain ⟨x0,x1,x2,x3⟩:=id q0) | (go_at_call_of 85 (Value.float .f64 LO);refine (h1 _ kw).mono ?_;rintro e wx ⟨rfl,gx⟩;replace kw:=Kp.trans kw gx;replace q0:=Fq.H2.keep q0 gx;clear gx;obtain ⟨x0,x1,x2,x3⟩:=id q0))
 exact bodyPost_ret (v:=.agg #[.float .f64 X,.float .f64 Y]) (by simp [results,Tryz.results50,go_sem,x0,x1]) rfl ⟨rfl,(kw.setCell (Nat.le_refl _) _).setCell (Nat.le_refl _) _⟩
theorem pownV_ (a b LO HI:Nat) (N:Int) (hr:∀ w:World,Calls Tryz.prog 46 #[.agg #[.float .f64 a,.float .f64 b]] w fun e w'=>e = .returned (.agg #[.float .f64 LO,.float .f64 HI])∧Kp w w') (hv:∀ w:World,Calls Tryz.prog 47 #[.agg #[.float .f64 LO,.float .f64 HI]] w fun e w'=>e = .returned (.bool true)∧Kp w w') (w:World):Calls Tryz.prog 11 #[.agg #[.float .f64 a,.float .f64 b],.int .i64 N] w fun e w'=>e = .returned (.agg #[.float .f64 LO,.float .f64 HI])∧Kp w w':=by
 go_enter Tryz.func11,Tryz.ntmps11
 go_wp2_with (first | (go_at_call 46;refine (hr _).mono ?_;rintro e w1 ⟨rfl,g1⟩;have q0:=Fq.H2.keep (Fq.H2.past (Fq.H2.new w (.float .f64 a) (.float .f64 b) 25) #[.float .f64 0,.float .f64 0] 25) g1;have q1:Fq.H2 w1 (w.heap.size + 1) (.float .f64 0) (.float .f64 0):=Fq.H2.keep (Fq.H2.two0 w (.float .f64 a) (.float .f64 b) (.float .f64 0) (.float .f64 0) 25 25) g1;have kw:Kp w w1:=Kp.trans (((Kp.refl w).alloc _).alloc _) g1;obtain ⟨x0,x1,x2,x3⟩:=id q0;obtain ⟨y0,y1,y2,y3⟩:=id q1) | (go_at_call 47;refine (hv _).mono ?_;rintro e w2 ⟨rfl,g2⟩;have qx:=Fq.H2.keep (Fq.H2.put q0 (.float .f64 LO) (.float .f64 HI)) g2;have qy:=Fq.H2.keep (Fq.H2.far q1 (show w.heap.size≠w.heap.size + 1 by omega) (.float .f64 LO) (.float .f64 HI)) g2;have kv:Kp w w2:=Kp.trans ((kw.setCell (Nat.le_refl _) _).setCell (Nat.le_refl _) _) g2;obtain ⟨u0,u1,u2,u3⟩:=id qx;obtain ⟨v0,v1,v2,v3⟩:=id qy))
 exact bodyPost_ret (v:=.agg #[.float .f64 LO,.float .f64 HI]) (by simp [results,Tryz.results11,go_sem,v0,v1]) rfl ⟨rfl,(kv.setCell (by simp <;> omega) _).setCell (by simp <;> omega) _⟩
theorem pownE1_ (a b LO HI:Nat) (N:Int) (hr:∀ w:World,Calls Tryz.prog 46 #[.agg #[.float .f64 a,.float .f64 b]] w fun e w'=>e = .returned (.agg #[.float .f64 LO,.float .f64 HI])∧Kp w w') (hv:∀ w:World,Calls Tryz.prog 47 #[.agg #[.float .f64 LO,.float .f64 HI]] w fun e w'=>e = .returned (.bool false)∧Kp w w') (c1:N < -1024) (w:World) (h3:∀ W:World,Kp w W→Calls Tryz.prog 48 #[] W fun e w'=>e = .returned (.agg #[.float .f64 18442240474082181120,.float .f64 9218868437227405312])∧Kp W w'):Calls Tryz.prog 11 #[.agg #[.float .f64 a,.float .f64 b],.int .i64 N] w fun e w'=>e = .returned (.agg #[.float .f64 18442240474082181120,.float .f64 9218868437227405312])∧Kp w w':=by
 go_enter Tryz.func11,Tryz.ntmps11
 go_wp2_with (first | (go_at_call 46;refine (hr _).mono ?_;rintro e w1 ⟨rfl,g1⟩;have q0:=Fq.H2.keep (Fq.H2.past (Fq.H2.new w (.float .f64 a) (.float .f64 b) 25) #[.float .f64 0,.float .f64 0] 25) g1;have q1:Fq.H2 w1 (w.heap.size + 1) (.float .f64 0) (.float .f64 0):=Fq.H2.keep (Fq.H2.two0 w (.float .f64 a) (.float .f64 b) (.float .f64 0) (.float .f64 0) 25 25) g1;have kw:Kp w w1:=Kp.trans (((Kp.refl w).alloc _).alloc _) g1;obtain ⟨x0,x1,x2,x3⟩:=id q0;obtain ⟨y0,y1,y2,y3⟩:=id q1) | (go_at_call 47;refine (hv _).mono ?_;rintro e w2 ⟨rfl,g2⟩;have qx:=Fq.H2.keep (Fq.H2.put q0 (.float .f64 LO) (.float .f64 HI)) g2;have qy:=Fq.H2.keep (Fq.H2.far q1 (show w.heap.size≠w.heap.size + 1 by omega) (.float .f64 LO) (.float .f64 HI)) g2;have kv:Kp w w2:=Kp.trans ((kw.setCell (Nat.le_refl _) _).setCell (Nat.le_refl _) _) g2;obtain ⟨u0,u1,u2,u3⟩:=id qx;obtain ⟨v0,v1,v2,v3⟩:=id qy) | (go_at_call 48;refine (h3 _ kv).mono ?_;rintro e w3 ⟨rfl,g3⟩;have k3:Kp w w3:=Kp.trans kv g3;obtain ⟨z0,z1,z2,z3⟩:=Fq.H2.keep qy g3))
 exact bodyPost_ret (v:=.agg #[.float .f64 18442240474082181120,.float .f64 9218868437227405312]) (by simp [results,Tryz.results11,go_sem,z0,z1]) rfl ⟨rfl,(k3.setCell (by simp) _).setCell (by simp) _⟩
theorem pownE2_ (a b LO HI:Nat) (N:Int) (hr:∀ w:World,Calls Tryz.prog 46 #[.agg #[.float .f64 a,.float .f64 b]] w fun e w'=>e = .returned (.agg #[.float .f64 LO,.float .f64 HI])∧Kp w w') (hv:∀ w:World,Calls Tryz.prog 47 #[.agg #[.float .f64 LO,.float .f64 HI]] w fun e w'=>e = .returned (.bool false)∧Kp w w') (c1:¬ (N < -1024)) (c2:1024 < N) (w:World) (h3:∀ W:World,Kp w W→Calls Tryz.prog 48 #[] W fun e w'=>e = .returned (.agg #[.float .f64 18442240474082181120,.float .f64 9218868437227405312])∧Kp W w'):Calls Tryz.prog 11 #[.agg #[.float .f64 a,.float .f64 b],.int .i64 N] w fun e w'=>e = .returned (.agg #[.float .f64 18442240474082181120,.float .f64 9218868437227405312])∧Kp w w':=by
 go_enter Tryz.func11,Tryz.ntmps11
 go_wp2_with (first | (go_at_call 46;refine (hr _).mono ?_;rintro e w1 ⟨rfl,g1⟩;have q0:=Fq.H2.keep (Fq.H2.past (Fq.H2.new w (.float .f64 a) (.float .f64 b) 25) #[.float .f64 0,.float .f64 0] 25) g1;have q1:Fq.H2 w1 (w.heap.size + 1) (.float .f64 0) (.float .f64 0):=Fq.H2.keep (Fq.H2.two0 w (.float .f64 a) (.float .f64 b) (.float .f64 0) (.float .f64 0) 25 25) g1;have kw:Kp w w1:=Kp.trans (((Kp.refl w).alloc _).alloc _) g1;obtain ⟨x0,x1,x2,x3⟩:=id q0;obtain ⟨y0,y1,y2,y3⟩:=id q1) | (go_at_call 47;refine (hv _).mono ?_;rintro e w2 ⟨rfl,g2⟩;have qx:=Fq.H2.keep (Fq.H2.put q0 (.float .f64 LO) (.float .f64 HI)) g2;have qy:=Fq.H2.keep (Fq.H2.far q1 (show w.heap.size≠w.heap.size + 1 by omega) (.float .f64 LO) (.float .f64 HI)) g2;have kv:Kp w w2:=Kp.trans ((kw.setCell (Nat.le_refl _) _).setCell (Nat.le_refl _) _) g2;obtain ⟨u0,u1,u2,u3⟩:=id qx;obtain ⟨v0,v1,v2,v3⟩:=id qy) | (go_at_call 48;refine (h3 _ kv).mono ?_;rintro e w3 ⟨rfl,g3⟩;have k3:Kp w w3:=Kp.trans kv g3;obtain ⟨z0,z1,z2,z3⟩:=Fq.H2.keep qy g3))
 exact bodyPost_ret (v:=.agg #[.float .f64 18442240474082181120,.float .f64 9218868437227405312]) (by simp [results,Tryz.results11,go_sem,z0,z1]) rfl ⟨rfl,(k3.setCell (by simp) _).setCell (by simp) _⟩
theorem pownI_ (a b LO HI:Nat) (N:Int) (hr:∀ w:World,Calls Tryz.prog 46 #[.agg #[.float .f64 a,.float .f64 b]] w fun e w'=>e = .returned (.agg #[.float .f64 LO,.float .f64 HI])∧Kp w w') (hv:∀ w:World,Calls Tryz.prog 47 #[.agg #[.float .f64 LO,.float .f64 HI]] w fun e w'=>e = .returned (.bool false)∧Kp w w') (c1:¬ (N < -1024)) (c2:¬ (1024 < N)) (c3:N < 0) (X Y:Nat) (w:World) (h3:∀ W:World,Kp w W→Calls Tryz.prog 49 #[.agg #[.float .f64 LO,.float .f64 HI],.int .i64 N] W fun e w'=>e = .returned (.agg #[.float .f64 X,.float .f64 Y])∧Kp W w'):Calls Tryz.prog 11 #[.agg #[.float .f64 a,.float .f64 b],.int .i64 N] w fun e w'=>e = .returned (.agg #[.float .f64 X,.float .f64 Y])∧Kp w w':=by
 go_enter Tryz.func11,Tryz.ntmps11
 go_wp2_with (first | (go_at_call 46;refine (hr _).mono ?_;rintro e w1 ⟨rfl,g1⟩;have q0:=Fq.H2.keep (Fq.H2.past (Fq.H2.new w (.float .f64 a) (.float .f64 b) 25) #[.float .f64 0,.float .f64 0] 25) g1;have q1:Fq.H2 w1 (w.heap.size + 1) (.float .f64 0) (.float .f64 0):=Fq.H2.keep (Fq.H2.two0 w (.float .f64 a) (.float .f64 b) (.float .f64 0) (.float .f64 0) 25 25) g1;have kw:Kp w w1:=Kp.trans (((Kp.refl w).alloc _).alloc _) g1;obtain ⟨x0,x1,x2,x3⟩:=id q0;obtain ⟨y0,y1,y2,y3⟩:=id q1) | (go_at_call 47;refine (hv _).mono ?_;rintro e w2 ⟨rfl,g2⟩;have qx:=Fq.H2.keep (Fq.H2.put q0 (.float .f64 LO) (.float .f64 HI)) g2;have qy:=Fq.H2.keep (Fq.H2.far q1 (show w.heap.size≠w.heap.size + 1 by omega) (.float .f64 LO) (.float .f64 HI)) g2;have kv:Kp w w2:=Kp.trans ((kw.setCell (Nat.le_refl _) _).setCell (Nat.le_refl _) _) g2;obtain ⟨u0,u1,u2,u3⟩:=id qx;obtain ⟨v0,v1,v2,v3⟩:=id qy) | (go_at_call 49;refine (h3 _ kv).mono ?_;rintro e w3 ⟨rfl,g3⟩;have k3:Kp w w3:=Kp.trans kv g3;obtain ⟨z0,z1,z2,z3⟩:=Fq.H2.keep qy g3))
 exact bodyPost_ret (v:=.agg #[.float .f64 X,.float .f64 Y]) (by simp [results,Tryz.results11,go_sem,z0,z1]) rfl ⟨rfl,(k3.setCell (by simp) _).setCell (by simp) _⟩
theorem pownO_ (a b LO HI:Nat) (N:Int) (hr:∀ w:World,Calls Tryz.prog 46 #[.agg #[.float .f64 a,.float .f64 b]] w fun e w'=>e = .returned (.agg #[.float .f64 LO,.float .f64 HI])∧Kp w w') (hv:∀ w:World,Calls Tryz.prog 47 #[.agg #[.float .f64 LO,.float .f64 HI]] w fun e w'=>e = .returned (.bool false)∧Kp w w') (c1:¬ (N < -1024)) (c2:¬ (1024 < N)) (c3:¬ (N < 0)) (c4:(N % 2 == 0) = false) (X Y:Nat) (w:World) (h3:∀ W:World,Kp w W→Calls Tryz.prog 50 #[.float .f64 LO,.float .f64 HI,.int .i64 N] W fun e w'=>e = .returned (.agg #[.float .f64 X,.float .f64 Y])∧Kp W w'):Calls Tryz.prog 11 #[.agg #[.float .f64 a,.float .f64 b],.int .i64 N] w fun e w'=>e = .returned (.agg #[.float .f64 X,.float .f64 Y])∧Kp w w':=by
 go_enter Tryz.func11,Tryz.ntmps11
 go_wp2_with (first | (go_at_call 46;refine (hr _).mono ?_;rintro e w1 ⟨rfl,g1⟩;have q0:=Fq.H2.keep (Fq.H2.past (Fq.H2.new w (.float .f64 a) (.float .f64 b) 25) #[.float .f64 0,.float .f64 0] 25) g1;have q1:Fq.H2 w1 (w.heap.size + 1) (.float .f64 0) (.float .f64 0):=Fq.H2.keep (Fq.H2.two0 w (.float .f64 a) (.float .f64 b) (.float .f64 0) (.float .f64 0) 25 25) g1;have kw:Kp w w1:=Kp.trans (((Kp.refl w).alloc _).alloc _) g1;obtain ⟨x0,x1,x2,x3⟩:=id q0;obtain ⟨y0,y1,y2,y3⟩:=id q1) | (go_at_call 47;refine (hv _).mono ?_;rintro e w2 ⟨rfl,g2⟩;have qx:=Fq.H2.keep (Fq.H2.put q0 (.float .f64 LO) (.float .f64 HI)) g2;have qy:=Fq.H2.keep (Fq.H2.far q1 (show w.heap.size≠w.heap.size + 1 by omega) (.float .f64 LO) (.float .f64 HI)) g2;have kv:Kp w w2:=Kp.trans ((kw.setCell (Nat.le_refl _) _).setCell (Nat.le_refl _) _) g2;obtain ⟨u0,u1,u2,u3⟩:=id qx;obtain ⟨v0,v1,v2,v3⟩:=id qy) | (go_at_call 50;refine (h3 _ kv).mono ?_;rintro e w3 ⟨rfl,g3⟩;have k3:Kp w w3:=Kp.trans kv g3;obtain ⟨z0,z1,z2,z3⟩:=Fq.H2.keep qy g3))
 exact bodyPost_ret (v:=.agg #[.float .f64 X,.float .f64 Y]) (by simp [results,Tryz.results11,go_sem,z0,z1]) rfl ⟨rfl,(k3.setCell (by simp) _).setCell (by simp) _⟩
theorem pownA_ (a b LO HI:Nat) (N:Int) (hr:∀ w:World,Calls Tryz.prog 46 #[.agg #[.float .f64 a,.float .f64 b]] w fun e w'=>e = .returned (.agg #[.float .f64 LO,.float .f64 HI])∧Kp w w') (hv:∀ w:World,Calls Tryz.prog 47 #[.agg #[.float .f64 LO,.float .f64 HI]] w fun e w'=>e = .returned (.bool false)∧Kp w w') (c1:¬ (N < -1024)) (c2:¬ (1024 < N)) (c3:¬ (N < 0)) (c4:(N % 2 == 0) = true) (P Q X Y:Nat) (w:World) (h4:∀ W:World,Kp w W→Calls Tryz.prog 35 #[.agg #[.float .f64 LO,.float .f64 HI]] W fun e w'=>e = .returned (.agg #[.float .f64 P,.float .f64 Q])∧Kp W w') (h3:∀ W:World,Kp w W→Calls Tryz.prog 50 #[.float .f64 P,.float .f64 Q,.int .i64 N] W fun e w'=>e = .returned (.agg #[.float .f64 X,.float .f64 Y])∧Kp W w'):Calls Tryz.prog 11 #[.agg #[.float .f64 a,.float .f64 b],.int .i64 N] w fun e w'=>e = .returned (.agg #[.float .f64 X,.float .f64 Y])∧Kp w w':=by
 go_enter Tryz.func11,Tryz.ntmps11
 go_wp2_with (first | (go_at_call 46;refine (hr _).mono ?_;rintro e w1 ⟨rfl,g1⟩;have q0:=Fq.H2.keep (Fq.H2.past (Fq.H2.new w (.float .f64 a) (.float .f64 b) 25) #[.float .f64 0,.float .f64 0] 25) g1;have q1:Fq.H2 w1 (w.heap.size + 1) (.float .f64 0) (.float .f64 0):=Fq.H2.keep (Fq.H2.two0 w (.float .f64 a) (.float .f64 b) (.float .f64 0) (.float .f64 0) 25 25) g1;have kw:Kp w w1:=Kp.trans (((Kp.refl w).alloc _).alloc _) g1;obtain ⟨x0,x1,x2,x3⟩:=id q0;obtain ⟨y0,y1,y2,y3⟩:=id q1) | (go_at_call 47;refine (hv _).mono ?_;rintro e w2 ⟨rfl,g2⟩;have qx:=Fq.H2.keep (Fq.H2.put q0 (.float .f64 LO) (.float .f64 HI)) g2;have qy:=Fq.H2.keep (Fq.H2.far q1 (show w.heap.size≠w.heap.size + 1 by omega) (.float .f64 LO) (.float .f64 HI)) g2;have kv:Kp w w2:=Kp.trans ((kw.setCell (Nat.le_refl _) _).setCell (Nat.le_refl _) _) g2;obtain ⟨u0,u1,u2,u3⟩:=id qx;obtain ⟨v0,v1,v2,v3⟩:=id qy) | (go_at_call 35;refine (h4 _ kv).mono ?_;rintro e w4 ⟨rfl,g4⟩;have qa:=Fq.H2.put (Fq.H2.keep qx g4) (.float .f64 P) (.float .f64 Q);have qb:=Fq.H2.far (Fq.H2.keep qy g4) (show w.heap.size≠w.heap.size + 1 by omega) (.float .f64 P) (.float .f64 Q);have k4:=((Kp.trans kv g4).setCell (Nat.le_refl _) (.float .f64 P):Kp w (w4.setCell ⟨w.heap.size,0,none⟩ (.float .f64 P)));have k5:=(k4.setCell (Nat.le_refl _) (.float .f64 Q):Kp w ((w4.setCell ⟨w.heap.size,0,none⟩ (.float .f64 P)).setCell ⟨w.heap.size,1,none⟩ (.float .f64 Q)));obtain ⟨a0,a1,a2,a3⟩:=id qa;obtain ⟨b0,b1,b2,b3⟩:=id qb;obtain ⟨i0,i1,i2,i3⟩:=Fq.H2.keep qx g4) | (go_at_call 50;refine (h3 _ k5).mono ?_;rintro e w3 ⟨rfl,g3⟩;have k3:Kp w w3:=Kp.trans k5 g3;obtain ⟨z0,z1,z2,z3⟩:=Fq.H2.keep qb g3))
 exact bodyPost_ret (v:=.agg #[.float .f64 X,.float .f64 Y]) (by simp [results,Tryz.results11,go_sem,z0,z1]) rfl ⟨rfl,(k3.setCell (by simp) _).setCell (by simp) _⟩
theorem invnZ_ (LO HI:Nat) (N:Int) (t1:(FloatKind.f64.format.order LO 0 == some Ordering.eq) = true) (t2:(FloatKind.f64.format.order HI 0 == some Ordering.eq) = true) (w:World) (h3:∀ W:World,Kp w W→Calls Tryz.prog 56 #[] W fun e w'=>e = .returned (.agg #[.float .f64 9218868437227405312,.float .f64 18442240474082181120])∧Kp W w'):Calls Tryz.prog 49 #[.agg #[.float .f64 LO,.float .f64 HI],.int .i64 N] w fun e w'=>e = .returned (.agg #[.float .f64 9218868437227405312,.float .f64 18442240474082181120])∧Kp w w':=by
 have kv:Kp w ((w.alloc (.cells #[.float .f64 LO,.float .f64 HI] 25)).alloc (.cells #[.float .f64 0,.float .f64 0] 25)):=((Kp.refl w).alloc _).alloc _
 have qx:=Fq.H2.past (Fq.H2.new w (.float .f64 LO) (.float .f64 HI) 25) #[.float .f64 0,.float .f64 0] 25
 have qy:=Fq.H2.two0 w (.float .f64 LO) (.float .f64 HI) (.float .f64 0) (.float .f64 0) 25 25
 go_enter Tryz.func49,Tryz.ntmps49
 go_wp2_with (first | (go_at_call 56;refine (h3 _ kv).mono ?_;rintro e w3 ⟨rfl,g3⟩;have k3:Kp w w3:=Kp.trans kv g3;obtain ⟨z0,z1,z2,z3⟩:=Fq.H2.keep qy g3))
 exact bodyPost_ret (v:=.agg #[.float .f64 9218868437227405312,.float .f64 18442240474082181120]) (by simp [results,Tryz.results49,go_sem,z0,z1]) rfl ⟨rfl,(k3.setCell (by simp) _).setCell (by simp) _⟩
theorem invnA_ (LO HI:Nat) (N:Int) (T1 T2:Bool) (t1:(FloatKind.f64.format.order LO 0 == some Ordering.eq) = T1) (t2:(FloatKind.f64.format.order HI 0 == some Ordering.eq) = T2) (tz:(T1 && T2) = false) (c4:(N.tmod 2 == 0) = true) (P Q X Y:Nat) (w:World) (h4:∀ W:World,Kp w W→Calls Tryz.prog 35 #[.agg #[.float .f64 LO,.float .f64 HI]] W fun e w'=>e = .returned (.agg #[.float .f64 P,.float .f64 Q])∧Kp W w') (h3:∀ W:World,Kp w W→Calls Tryz.prog 50 #[.float .f64 Q,.float .f64 P,.int .i64 N] W fun e w'=>e = .returned (.agg #[.float .f64 X,.float .f64 Y])∧Kp W w'):Calls Tryz.prog 49 #[.agg #[.float .f64 LO,.float .f64 HI],.int .i64 N] w fun e w'=>e = .returned (.agg #[.float .f64 X,.float .f64 Y])∧Kp w w':=by
 cases T1 <;> cases T2 <;> first | (exfalso;revert tz;decide) | skip
 all_goals (
  have kv:Kp w ((w.alloc (.cells #[.float .f64 LO,.float .f64 HI] 25)).alloc (.cells #[.float .f64 0,.float .f64 0] 25)):=((Kp.refl w).alloc _).alloc _
  have qx:=Fq.H2.past (Fq.H2.new w (.float .f64 LO) (.float .f64 HI) 25) #[.float .f64 0,.float .f64 0] 25
  have qy:=Fq.H2.two0 w (.float .f64 LO) (.float .f64 HI) (.float .f64 0) (.float .f64 0) 25 25
  go_enter Tryz.func49,Tryz.ntmps49
  go_wp2_with (first | (go_at_call 35;refine (h4 _ kv).mono ?_;rintro e w4 ⟨rfl,g4⟩;have qa:=Fq.H2.put (Fq.H2.keep qx g4) (.float .f64 P) (.float .f64 Q);have qb:=Fq.H2.far (Fq.H2.keep qy g4) (show w.heap.size≠w.heap.size + 1 by omega) (.float .f64 P) (.float .f64 Q);have k4:=((Kp.trans kv g4).setCell (Nat.le_refl _) (.float .f64 P):Kp w (w4.setCell ⟨w.heap.size,0,none⟩ (.float .f64 P)));have k5:=(k4.setCell (Nat.le_refl _) (.float .f64 Q):Kp w ((w4.setCell ⟨w.heap.size,0,none⟩ (.float .f64 P)).setCell ⟨w.heap.size,1,none⟩ (.float .f64 Q)));obtain ⟨a0,a1,a2,a3⟩:=id qa;obtain ⟨b0,b1,b2,b3⟩:=id qb;obtain ⟨i0,i1,i2,i3⟩:=Fq.H2.keep qx g4) | (go_at_call 50;refine (h3 _ k5).mono ?_;rintro e w3 ⟨rfl,g3⟩;have k3:Kp w w3:=Kp.trans k5 g3;obtain ⟨z0,z1,z2,z3⟩:=Fq.H2.keep qb g3))
  exact bodyPost_ret (v:=.agg #[.float .f64 X,.float .f64 Y]) (by simp [results,Tryz.results49,go_sem,z0,z1]) rfl ⟨rfl,(k3.setCell (by simp) _).setCell (by simp) _⟩)
theorem invnS_ (LO HI:Nat) (N:Int) (T1 T2:Bool) (t1:(FloatKind.f64.format.order LO 0 == some Ordering.eq) = T1) (t2:(FloatKind.f64.format.order HI 0 == some Ordering.eq) = T2) (tz:(T1 && T2) = false) (c4:(N.tmod 2 == 0) = false) (t3:(FloatKind.f64.format.order LO 0 == some Ordering.lt) = true) (t4:(FloatKind.f64.format.order HI 0 == some Ordering.gt) = true) (w:World) (h3:∀ W:World,Kp w W→Calls Tryz.prog 48 #[] W fun e w'=>e = .returned (.agg #[.float .f64 18442240474082181120,.float .f64 9218868437227405312])∧Kp W w'):Calls Tryz.prog 49 #[.agg #[.float .f64 LO,.float .f64 HI],.int .i64 N] w fun e w'=>e = .returned (.agg #[.float .f64 18442240474082181120,.float .f64 9218868437227405312])∧Kp w w':=by
 cases T1 <;> cases T2 <;> first | (exfalso;revert tz;decide) | skip
 all_goals (
  have kv:Kp w ((w.alloc (.cells #[.float .f64 LO,.float .f64 HI] 25)).alloc (.cells #[.float .f64 0,.float .f64 0] 25)):=((Kp.refl w).alloc _).alloc _
  have qx:=Fq.H2.past (Fq.H2.new w (.float .f64 LO) (.float .f64 HI) 25) #[.float .f64 0,.float .f64 0] 25
  have qy:=Fq.H2.two0 w (.float .f64 LO) (.float .f64 HI) (.float .f64 0) (.float .f64 0) 25 25
  go_enter Tryz.func49,Tryz.ntmps49
  go_wp2_with (first | (go_at_call 48;refine (h3 _ kv).mono ?_;rintro e w3 ⟨rfl,g3⟩;have k3:Kp w w3:=Kp.trans kv g3;obtain ⟨z0,z1,z2,z3⟩:=Fq.H2.keep qy g3))
  exact bodyPost_ret (v:=.agg #[.float .f64 18442240474082181120,.float .f64 9218868437227405312]) (by simp [results,Tryz.results49,go_sem,z0,z1]) rfl ⟨rfl,(k3.setCell (by simp) _).setCell (by simp) _⟩)
theorem invnP_ (LO HI:Nat) (N:Int) (T1 T2:Bool) (t1:(FloatKind.f64.format.order LO 0 == some Ordering.eq) = T1) (t2:(FloatKind.f64.format.order HI 0 == some Ordering.eq) = T2) (tz:(T1 && T2) = false) (c4:(N.tmod 2 == 0) = false) (T3 T4:Bool) (t3:(FloatKind.f64.format.order LO 0 == some Ordering.lt) = T3) (t4:(FloatKind.f64.format.order HI 0 == some Ordering.gt) = T4) (ty:(T3 && T4) = false) (hT2:T2 = false) (X Y:Nat) (w:World) (h3:∀ W:World,Kp w W→Calls Tryz.prog 50 #[.float .f64 HI,.float .f64 LO,.int .i64 N] W fun e w'=>e = .returned (.agg #[.float .f64 X,.float .f64 Y])∧Kp W w'):Calls Tryz.prog 49 #[.agg #[.float .f64 LO,.float .f64 HI],.int .i64 N] w fun e w'=>e = .returned (.agg #[.float .f64 X,.float .f64 Y])∧Kp w w':=by
 subst hT2
 cases T1 <;> cases T3 <;> cases T4 <;> first | (exfalso;revert tz;decide) | (exfalso;revert ty;decide) | skip
 all_goals (
  have kv:Kp w ((w.alloc (.cells #[.float .f64 LO,.float .f64 HI] 25)).alloc (.cells #[.float .f64 0,.float .f64 0] 25)):=((Kp.refl w).alloc _).alloc _
  have qx:=Fq.H2.past (Fq.H2.new w (.float .f64 LO) (.float .f64 HI) 25) #[.float .f64 0,.float .f64 0] 25
  have qy:=Fq.H2.two0 w (.float .f64 LO) (.float .f64 HI) (.float .f64 0) (.float .f64 0) 25 25
  go_enter Tryz.func49,Tryz.ntmps49
  go_wp2_with (first | (go_at_call 50;refine (h3 _ kv).mono ?_;rintro e w3 ⟨rfl,g3⟩;have k3:Kp w w3:=Kp.trans kv g3;obtain ⟨z0,z1,z2,z3⟩:=Fq.H2.keep qy g3))
  exact bodyPost_ret (v:=.agg #[.float .f64 X,.float .f64 Y]) (by simp [results,Tryz.results49,go_sem,z0,z1]) rfl ⟨rfl,(k3.setCell (by simp) _).setCell (by simp) _⟩)
theorem invnH_ (LO HI:Nat) (N:Int) (t1:(FloatKind.f64.format.order LO 0 == some Ordering.eq) = false) (t2:(FloatKind.f64.format.order HI 0 == some Ordering.eq) = true) (c4:(N.tmod 2 == 0) = false) (T3 T4:Bool) (t3:(FloatKind.f64.format.order LO 0 == some Ordering.lt) = T3) (t4:(FloatKind.f64.format.order HI 0 == some Ordering.gt) = T4) (ty:(T3 && T4) = false) (Y:Nat) (w:World) (h3:∀ W:World,Kp w W→Calls Tryz.prog 85 #[.int .i64 1,.float .f64 LO,.int .i64 N] W fun e w'=>e = .returned (.float .f64 Y)∧Kp W w'):Calls Tryz.prog 49 #[.agg #[.float .f64 LO,.float .f64 HI],.int .i64 N] w fun e w'=>e = .returned (.agg #[.float .f64 18442240474082181120,.float .f64 Y])∧Kp w w':=by
 cases T3 <;> cases T4 <;> first | (exfalso;revert ty;decide) | skip
 all_goals (
  have kv:Kp w ((w.alloc (.cells #[.float .f64 LO,.float .f64 HI] 25)).alloc (.cells #[.float .f64 0,.float .f64 0] 25)):=((Kp.refl w).alloc _).alloc _
  have qx:=Fq.H2.past (Fq.H2.new w (.float .f64 LO) (.float .f64 HI) 25) #[.float .f64 0,.float .f64 0] 25
  have qy:=Fq.H2.two0 w (.float .f64 LO) (.float .f64 HI) (.float .f64 0) (.float .f64 0) 25 25
  go_enter Tryz.func49,Tryz.ntmps49
  go_wp2_with fail
  obtain ⟨i0,i1,i2,i3⟩:=id qx
  go_region_held3 (fun w'=>w'.cell? ⟨w.heap.size,0,none⟩ = some (.float .f64 LO)) (first | (with_reducible exact c0) | (exact i0) | (exact (World.cell?_setCell_far _ _ _ _ (by simp)).trans ((World.cell?_setCell_far _ _ _ _ (by simp)).trans c0))) (first | (go_at_call 8;refine (Fq.infm_ _).mono ?_;rintro e w' ⟨rfl,rfl⟩) | (go_at_call 85;refine (h3 _ (by with_reducible exact kv.drew)).mono ?_;rintro e w3 ⟨rfl,g3⟩;have k9:=Kp.trans (Kp.drew (Kp.refl _)) g3;have k3:Kp w w3:=Kp.trans kv k9;obtain ⟨z0,z1,z2,z3⟩:=Fq.H2.keep qy k9;have c0:=kkeep k9 i0))
  go_wp2
  exact bodyPost_ret (v:=.agg #[.float .f64 18442240474082181120,.float .f64 Y]) (by simp [results,Tryz.results49,go_sem,z0,z1]) rfl ⟨rfl,(k3.setCell (by simp) _).setCell (by simp) _⟩)
set_option linter.unusedVariables false
theorem eq0_pw7 (x:Int) (hx:BdZ x):(FloatKind.f64.format.order (pw x) 0 == some Ordering.eq) = decide (x = 0):=peq9 x 0 hx (by unfold BdZ;omega)
theorem lt0_pw7 (x:Int) (hx:BdZ x):(FloatKind.f64.format.order (pw x) 0 == some Ordering.lt) = decide (x < 0):=plt9 x 0 hx (by unfold BdZ;omega)
theorem gt0_pw7 (x:Int) (hx:BdZ x):(FloatKind.f64.format.order (pw x) 0 == some Ordering.gt) = decide (0 < x):=pgt9 x 0 hx (by unfold BdZ;omega)
theorem voidP9_ (L H:Int) (h:VdZ L H) (w:World):Calls Tryz.prog 47 #[.agg #[.float .f64 (pw L),.float .f64 (pw H)]] w fun e w'=>e = .returned (.bool (decide (L = 9218868437227405312)))∧Kp w w':=by
 have g:=Fq.voidP_ (pw L) (pw H) (pw_lt L h.lo) (pw_lt H h.hi) w
 rw [emp9 L H h] at g
 exact g
theorem absV_ (a b LO HI:Nat) (hr:∀ w:World,Calls Tryz.prog 46 #[.agg #[.float .f64 a,.float .f64 b]] w fun e w'=>e = .returned (.agg #[.float .f64 LO,.float .f64 HI])∧Kp w w') (hv:∀ w:World,Calls Tryz.prog 47 #[.agg #[.float .f64 LO,.float .f64 HI]] w fun e w'=>e = .returned (.bool true)∧Kp w w') (w:World):Calls Tryz.prog 35 #[.agg #[.float .f64 a,.float .f64 b]] w fun e w'=>e = .returned (.agg #[.float .f64 LO,.float .f64 HI])∧Kp w w':=by
 go_enter Tryz.func35,Tryz.ntmps35
 go_wp2_with (first | (go_at_call 46;refine (hr _).mono ?_;rintro e w1 ⟨rfl,g1⟩;have q0:=Fq.H2.keep (Fq.H2.past (Fq.H2.new w (.float .f64 a) (.float .f64 b) 25) #[.float .f64 0,.float .f64 0] 25) g1;have q1:Fq.H2 w1 (w.heap.size + 1) (.float .f64 0) (.float .f64 0):=Fq.H2.keep (Fq.H2.two0 w (.float .f64 a) (.float .f64 b) (.float .f64 0) (.float .f64 0) 25 25) g1;have kw:Kp w w1:=Kp.trans (((Kp.refl w).alloc _).alloc _) g1;obtain ⟨x0,x1,x2,x3⟩:=id q0;obtain ⟨y0,y1,y2,y3⟩:=id q1) | (go_at_call 47;refine (hv _).mono ?_;rintro e w2 ⟨rfl,g2⟩;have qx:=Fq.H2.keep (Fq.H2.put q0 (.float .f64 LO) (.float .f64 HI)) g2;have qy:=Fq.H2.keep (Fq.H2.far q1 (show w.heap.size≠w.heap.size + 1 by omega) (.float .f64 LO) (.float .f64 HI)) g2;have kv:Kp w w2:=Kp.trans ((kw.setCell (Nat.le_refl _) _).setCell (Nat.le_refl _) _) g2;obtain ⟨u0,u1,u2,u3⟩:=id qx;obtain ⟨v0,v1,v2,v3⟩:=id qy))
 exact bodyPost_ret (v:=.agg #[.float .f64 LO,.float .f64 HI]) (by simp [results,Tryz.results35,go_sem,v0,v1]) rfl ⟨rfl,(kv.setCell (by simp) _).setCell (by simp) _⟩
theorem absS_ (a b LO HI:Nat) (hr:∀ w:World,Calls Tryz.prog 46 #[.agg #[.float .f64 a,.float .f64 b]] w fun e w'=>e = .returned (.agg #[.float .f64 LO,.float .f64 HI])∧Kp w w') (hv:∀ w:World,Calls Tryz.prog 47 #[.agg #[.float .f64 LO,.float .f64 HI]] w fun e w'=>e = .returned (.bool false)∧Kp w w') (TL TH NL NH:Nat) (hn:∀ w:World,Calls Tryz.prog 44 #[.agg #[.float .f64 LO,.float .f64 HI]] w fun e w'=>e = .returned (.agg #[.float .f64 TL,.float .f64 TH])∧Kp w w') (hm1:∀ (ts:Array TypeId) (t:TypeId) (w:World),(Builtin.max_ ts t #[.float .f64 LO,.float .f64 TL,.float .f64 0]).run Tryz.prog w = .ok (.float .f64 NL) w) (hm2:∀ (ts:Array TypeId) (t:TypeId) (w:World),(Builtin.max_ ts t #[.float .f64 HI,.float .f64 TH]).run Tryz.prog w = .ok (.float .f64 NH) w) (w:World):Calls Tryz.prog 35 #[.agg #[.float .f64 a,.float .f64 b]] w fun e w'=>e = .returned (.agg #[.float .f64 NL,.float .f64 NH])∧Kp w w':=by
 go_enter Tryz.func35,Tryz.ntmps35
 go_wp2_with (first | (go_at_call 46;refine (hr _).mono ?_;rintro e w1 ⟨rfl,g1⟩;have q0:=Fq.H2.keep (Fq.H2.past (Fq.H2.new w (.float .f64 a) (.float .f64 b) 25) #[.float .f64 0,.float .f64 0] 25) g1;have q1:Fq.H2 w1 (w.heap.size + 1) (.float .f64 0) (.float .f64 0):=Fq.H2.keep (Fq.H2.two0 w (.float .f64 a) (.float .f64 b) (.float .f64 0) (.float .f64 0) 25 25) g1;have kw:Kp w w1:=Kp.trans (((Kp.refl w).alloc _).alloc _) g1;obtain ⟨x0,x1,x2,x3⟩:=id q0;obtain ⟨y0,y1,y2,y3⟩:=id q1) | (go_at_call 47;refine (hv _).mono ?_;rintro e w2 ⟨rfl,g2⟩;have qx:=Fq.H2.keep (Fq.H2.put q0 (.float .f64 LO) (.float .f64 HI)) g2;have qy:=Fq.H2.keep (Fq.H2.far q1 (show w.heap.size≠w.heap.size + 1 by omega) (.float .f64 LO) (.float .f64 HI)) g2;have kv:Kp w w2:=Kp.trans ((kw.setCell (Nat.le_refl _) _).setCell (Nat.le_refl _) _) g2;obtain ⟨u0,u1,u2,u3⟩:=id qx;obtain ⟨v0,v1,v2,v3⟩:=id qy) | (go_at_call 44;refine (hn _).mono ?_;rintro e w3 ⟨rfl,g3⟩;have k3:Kp w w3:=Kp.trans kv g3;have qa:=Fq.H2.keep qx g3;have qb:=Fq.H2.keep qy g3;have qc:=Fq.H2.past qa #[.float .f64 TL,.float .f64 TH] 25;have qd:=Fq.H2.past qb #[.float .f64 TL,.float .f64 TH] 25;obtain ⟨c0,c1,c2,c3⟩:=id qc;obtain ⟨d0,d1,d2,d3⟩:=id qd))
 exact bodyPost_ret (v:=.agg #[.float .f64 NL,.float .f64 NH]) (by simp [results,Tryz.results35,go_sem,d0,d1]) rfl ⟨rfl,KS2 ((k3.alloc _)) (by first | omega | (simp <;> omega))⟩
set_option linter.unusedVariables false
set_option linter.unusedVariables false

theorem opP_pw (x:Int) (h:BdZ x):opP (pw x) = pw (-x):=by
 have h2:=abs_pw x h
 unfold opP pw Fq.wD
 rcases Int.lt_trichotomy x 0 with c | c | c
 ·rw [decide_eq_true c,decide_eq_false (show ¬ -x < 0 by omega),Int.natAbs_neg]
  simp;repeat' split
  all_goals omega
 ·subst c;rfl
 ·rw [decide_eq_false (show ¬ x < 0 by omega),decide_eq_true (show -x < 0 by omega),Int.natAbs_neg]
  simp;repeat' split
  all_goals omega
theorem bd_neg (x:Int) (h:BdZ x):BdZ (-x):=by unfold BdZ at *;omega
theorem minus9_ (x:Int) (h:BdZ x) (w:World):Calls Tryz.prog 83 #[.float .f64 (pw x)] w fun e w'=>e = .returned (.float .f64 (pw (-x)))∧w' = w:=by
 have g:=minus6_ (decide (x < 0)) x.natAbs (abs_pw x h) w
 have e:=opP_pw x h
 unfold pw at e ⊢
 rw [e] at g
 exact g
theorem neg9_ (a b:Nat) (L H:Int) (hx:Rd a b L H) (w:World):Calls Tryz.prog 44 #[.agg #[.float .f64 a,.float .f64 b]] w fun e w'=>e = .returned (.agg #[.float .f64 (pw (-H)),.float .f64 (pw (-L))])∧Kp w w' :=
 neg6c_ a b _ _ _ _ hx.call (minus9_ L hx.vd.lo) (minus9_ H hx.vd.hi) w
theorem empty9_ (w:World):Calls Tryz.prog 56 #[] w fun e w'=>e = .returned (.agg #[.float .f64 9218868437227405312,.float .f64 18442240474082181120])∧Kp w w':=by
 refine (Fq.empty6_ w).mono ?_
 exact fun e w' h=>⟨h.1,by first | exact h.2 | (rw [h.2];exact (Kp.refl _).alloc _)⟩
theorem max3A_ (X Y R S:Nat) (ho:(FloatKind.f64.format.order X Y = some .lt∧R = Y)∨(FloatKind.f64.format.order X Y = some .gt∧R = X)∨(X = Y∧R = X∧FloatKind.f64.format.order X X = some .eq)) (hz:(FloatKind.f64.format.order R 0 = some .lt∧S = 0)∨(FloatKind.f64.format.order R 0 = some .gt∧S = R)∨(R = 0∧S = 0∧FloatKind.f64.format.order 0 0 = some .eq)) (ts:Array TypeId) (t:TypeId) (w:World):(Builtin.max_ ts t #[.float .f64 X,.float .f64 Y,.float .f64 0]).run Tryz.prog w = .ok (.float .f64 S) w:=by
 rcases ho with ⟨h,rfl⟩ | ⟨h,rfl⟩ | ⟨rfl,rfl,h⟩ <;> rcases hz with ⟨h2,rfl⟩ | ⟨h2,rfl⟩ | ⟨rfl,rfl,h2⟩ <;> simp [Builtin.max_,Builtin.max2,h,h2]

def sMl (L H:Int):Int:=if L≤0∧0≤H then 0 else min (L.natAbs:Int) (H.natAbs:Int)
def sMh (L H:Int):Int:=max (L.natAbs:Int) (H.natAbs:Int)
theorem max3_9 (x y:Int) (hx:BdZ x) (hy:BdZ y) (ts:Array TypeId) (t:TypeId) (w:World):(Builtin.max_ ts t #[.float .f64 (pw x),.float .f64 (pw y),.float .f64 0]).run Tryz.prog w = .ok (.float .f64 (pw (max (max x y) 0))) w:=by
 have h0:BdZ 0:=by unfold BdZ;omega
 have p0:pw 0 = 0:=by decide
 refine max3A_ (pw x) (pw y) (pw (max x y)) _ ?_ ?_ ts t w
 ·have o:=ord_pw x y hx hy
  rcases Int.lt_trichotomy x y with g | g | g
  ·rw [Fq.cmp_lt g] at o;exact Or.inl ⟨o,by rw [show max x y = y from by omega]⟩
  ·rw [Fq.cmp_eq g] at o;exact Or.inr (Or.inr ⟨by rw [g],by rw [show max x y = x from by omega],by rw [← g] at o;exact o⟩)
  ·rw [Fq.cmp_gt g] at o;exact Or.inr (Or.inl ⟨o,by rw [show max x y = x from by omega]⟩)
 ·have o:=ord_pw (max x y) 0 (bd_max x y hx hy) h0
  rw [p0] at o
  generalize max x y = z at *
  rcases Int.lt_trichotomy z 0 with g | g | g
  ·rw [Fq.cmp_lt g] at o;exact Or.inl ⟨o,by rw [show max z 0 = 0 from by omega,p0]⟩
  ·rw [Fq.cmp_eq g] at o;rw [g,p0] at o;exact Or.inr (Or.inr ⟨by rw [g,p0],by rw [show max z 0 = 0 from by omega,p0],o⟩)
  ·rw [Fq.cmp_gt g] at o;exact Or.inr (Or.inl ⟨o,by rw [show max z 0 = z from by omega]⟩)
def bsLo (L H:Int):Int:=if L = 9218868437227405312 then 9218868437227405312 else sMl L H
def bsHi (L H:Int):Int:=if L = 9218868437227405312 then -9218868437227405312 else sMh L H
theorem absP9_ (a b:Nat) (L H:Int) (hx:Rd a b L H) (w:World):Calls Tryz.prog 35 #[.agg #[.float .f64 a,.float .f64 b]] w fun e w'=>e = .returned (.agg #[.float .f64 (pw (bsLo L H)),.float .f64 (pw (bsHi L H))])∧Kp w w':=by
 have hv:=fun w=>voidP9_ L H hx.vd w
 have hd:=hx.vd
 unfold bsLo bsHi
 by_cases c:L = 9218868437227405312
 ·have eH:H = -9218868437227405312:=by unfold VdZ at hd;omega
  rw [decide_eq_true c] at hv
  rw [if_pos c,if_pos c]
  have h:=absV_ a b _ _ hx.call hv w
  rw [c,eH] at h
  exact h
 ·rw [decide_eq_false c] at hv
  rw [if_neg c,if_neg c]
  have e1:max (max L (-H)) 0 = sMl L H:=by unfold sMl;unfold VdZ at hd;split <;> omega
  have e2:max H (-L) = sMh L H:=by unfold sMh;unfold VdZ at hd;omega
  have m1:=fun ts t w=>max3_9 L (-H) hd.lo (bd_neg H hd.hi) ts t w
  have m2:=fun ts t w=>max9_ H (-L) hd.hi (bd_neg L hd.lo) ts t w
  rw [e1] at m1
  rw [e2] at m2
  exact absS_ a b _ _ hx.call hv _ _ _ _ (neg9_ _ _ L H (Rd.of hd)) m1 m2 w
theorem rempty9_ (w:World):Calls Tryz.prog 24 #[] w fun e w'=>e = .returned (.agg #[.int .u64 9218868437227405312,.int .u64 18442240474082181120])∧Kp w w':=by
 refine (Fq.rempty_ w).mono ?_
 rintro e w' ⟨rfl,rfl⟩
 exact ⟨rfl,(Kp.refl w).alloc _⟩
set_option linter.unusedVariables false
theorem single_ s p l c q k d (w:World):Calls Tryz.prog 95 #[.agg #[.bool s,.slice p l c,.slice q k d]] w fun e w'=>e = .returned (.agg #[.bool false,.int .i64 0,.bool s,.slice p l c,.slice q k d,.int .i64 0,.bool s,.slice p l c,.slice q k d])∧Kp w w':=by
 go_enter Tryz.func95,Tryz.ntmps95
 go_wp2
 exact bodyPost_ret (v:=.agg #[.bool false,.int .i64 0,.bool s,.slice p l c,.slice q k d,.int .i64 0,.bool s,.slice p l c,.slice q k d]) (by simp [results,Tryz.results95,go_sem]) rfl ⟨rfl,(by repeat (with_reducible (first | assumption | exact Kp.refl _ | apply Kp.drew | apply Kp.alloc | apply Kp.drewN | (refine Kp.setCell ?_ (by first | omega | (simp <;> omega)) _) | (refine Kp.trans ?_ (by assumption)))))⟩
theorem pws0_ (i j:Int) s p l c q k d s2 p2 l2 c2 q2 k2 d2 (w:World):Calls Tryz.prog 63 #[.agg #[.bool false,.int .i64 i,.bool s,.slice p l c,.slice q k d,.int .i64 j,.bool s2,.slice p2 l2 c2,.slice q2 k2 d2],.int .i64 0] w fun e w'=>∃ v,e = .returned v∧TX 0 1500 0 1 1 0 1 1 w' v∧Kp w w':=by
 go_enter Tryz.func63,Tryz.ntmps63
 go_wp2_with (first | (go_at_call 32;refine (int1X_ _).mono ?_;rintro e w1 ⟨s3,p3,l3,c3,q3,k3,d3,rfl,hp,g1⟩;obtain ⟨r0,rz0,r1,rz1,r2,rz2,r3,rz3,r4,rz4,r5,rz5,r6,rz6,r7,rz7,r8,rz8⟩:=FK9 g1 (w.heap.size + 1) (.bool false) (.int .i64 0) (.bool false) (.slice none 0 0) (.slice none 0 0) (.int .i64 0) (.bool false) (.slice none 0 0) (.slice none 0 0) (by simp [go_sem])) | (go_at_call 95;refine (single_ s3 p3 l3 c3 q3 k3 d3 _).mono ?_;rintro e w2 ⟨rfl,g2⟩;obtain ⟨R0,Rz0,R1,Rz1,R2,Rz2,R3,Rz3,R4,Rz4,R5,Rz5,R6,Rz6,R7,Rz7,R8,Rz8⟩:=AK9 g2 ⟨r0,rz0,r1,rz1,r2,rz2,r3,rz3,r4,rz4,r5,rz5,r6,rz6,r7,rz7,r8,rz8⟩))
 have hq:=(((((((((((hp.kp g2)).set (x:=⟨w.heap.size + 1,0,none⟩) (by simp) (.bool false)).set (x:=⟨w.heap.size + 1,1,none⟩) (by simp) (.int .i64 0)).set (x:=⟨w.heap.size + 1,2,none⟩) (by simp) (.bool s3)).set (x:=⟨w.heap.size + 1,3,none⟩) (by simp) (.slice p3 l3 c3)).set (x:=⟨w.heap.size + 1,4,none⟩) (by simp) (.slice q3 k3 d3)).set (x:=⟨w.heap.size + 1,5,none⟩) (by simp) (.int .i64 0)).set (x:=⟨w.heap.size + 1,6,none⟩) (by simp) (.bool s3)).set (x:=⟨w.heap.size + 1,7,none⟩) (by simp) (.slice p3 l3 c3)).set (x:=⟨w.heap.size + 1,8,none⟩) (by simp) (.slice q3 k3 d3)).mono (Nat.zero_le _)
 exact bodyPost_ret (v:=.agg #[.bool false,.int .i64 0,.bool s3,.slice p3 l3 c3,.slice q3 k3 d3,.int .i64 0,.bool s3,.slice p3 l3 c3,.slice q3 k3 d3]) (by simp [results,Tryz.results63,go_sem,R0,R1,R2,R3,R4,R5,R6,R7,R8]) rfl ⟨_,rfl,⟨s3,p3,l3,c3,q3,k3,d3,s3,p3,l3,c3,q3,k3,d3,rfl,hq,hq⟩,KS9 ((Kp.trans (Kp.trans (((Kp.refl w).alloc _).alloc _) g1) g2)) (by first | omega | (simp <;> omega))⟩
theorem pwsN_ (i j N:Int) s p l c q k d s2 p2 l2 c2 q2 k2 d2 (w:World):Calls Tryz.prog 63 #[.agg #[.bool true,.int .i64 i,.bool s,.slice p l c,.slice q k d,.int .i64 j,.bool s2,.slice p2 l2 c2,.slice q2 k2 d2],.int .i64 N] w fun e w'=>∃ v,e = .returned v∧SV0 true v∧Kp w w':=by
 go_enter Tryz.func63,Tryz.ntmps63
 go_wp2
 exact bodyPost_ret (v:=.agg #[.bool true,.int .i64 i,.bool s,.slice p l c,.slice q k d,.int .i64 j,.bool s2,.slice p2 l2 c2,.slice q2 k2 d2]) (by simp [results,Tryz.results63,go_sem]) rfl ⟨_,rfl,⟨i,j,s,p,l,c,q,k,d,s2,p2,l2,c2,q2,k2,d2,rfl⟩,(by repeat (with_reducible (first | assumption | exact Kp.refl _ | apply Kp.drew | apply Kp.alloc | apply Kp.drewN | (refine Kp.setCell ?_ (by first | omega | (simp <;> omega)) _) | (refine Kp.trans ?_ (by assumption)))))⟩
theorem pownW_ (X Y N LO HI i j:Int) (F9:Bool) (P1 P2:World→Value→Prop) (b1:¬ (N < -1024)) (b2:¬ (1024 < N)) (w:World) (hk1:∀ (W W':World) (v:Value),Kp W W'→P1 W v→P1 W' v) (hO:∀ W:World,Kp w W→Calls Tryz.prog 60 #[.agg #[.int .u64 X,.int .u64 Y]] W fun e w'=>∃ (s:Bool) (p:Option Addr) (l c:Nat) (q:Option Addr) (k d:Nat) (s2:Bool) (p2:Option Addr) (l2 c2:Nat) (q2:Option Addr) (k2 d2:Nat),e = .returned (.agg #[.bool F9,.int .i64 i,.bool s,.slice p l c,.slice q k d,.int .i64 j,.bool s2,.slice p2 l2 c2,.slice q2 k2 d2])∧P1 w' (.agg #[.bool F9,.int .i64 i,.bool s,.slice p l c,.slice q k d,.int .i64 j,.bool s2,.slice p2 l2 c2,.slice q2 k2 d2])∧Kp W w') (hPo:∀ (W:World) s p l c q k d s2 p2 l2 c2 q2 k2 d2,P1 W (.agg #[.bool F9,.int .i64 i,.bool s,.slice p l c,.slice q k d,.int .i64 j,.bool s2,.slice p2 l2 c2,.slice q2 k2 d2])→Calls Tryz.prog 63 #[.agg #[.bool F9,.int .i64 i,.bool s,.slice p l c,.slice q k d,.int .i64 j,.bool s2,.slice p2 l2 c2,.slice q2 k2 d2],.int .i64 N] W fun e w'=>∃ v,e = .returned v∧P2 w' v∧Kp W w') (hLe:∀ (W:World) (v:Value),P2 W v→Calls Tryz.prog 62 #[v] W fun e w'=>e = .returned (.agg #[.int .u64 LO,.int .u64 HI])∧Kp W w'):Calls Tryz.prog 21 #[.agg #[.int .u64 X,.int .u64 Y],.int .i64 N] w fun e w'=>e = .returned (.agg #[.int .u64 LO,.int .u64 HI])∧Kp w w':=by
 go_enter Tryz.func21,Tryz.ntmps21
 go_wp2_with (first | (go_at_call 60;refine (hO _ (((Kp.refl w).alloc _).alloc _)).mono ?_;rintro e w1 ⟨s,p,l,c,q,k,d,s2,p2,l2,c2,q2,k2,d2,rfl,h1,g1⟩;obtain ⟨r0,rz0,r1,rz1⟩:=FK2 g1 (w.heap.size + 1) (.int .u64 0) (.int .u64 0) (by simp [go_sem])) | (go_at_call 63;refine (hPo _ s p l c q k d s2 p2 l2 c2 q2 k2 d2 (hk1 _ _ _ ((Kp.refl w1).alloc _) h1)).mono ?_;rintro e w2 ⟨v2,rfl,h2,g2⟩;have kk:Kp w1 w2:=Kp.trans ((Kp.refl w1).alloc _) g2;obtain ⟨x0,xz0,x1,xz1⟩:=AK2 kk ⟨r0,rz0,r1,rz1⟩) | (go_at_call 62;refine (hLe _ v2 h2).mono ?_;rintro e w3 ⟨rfl,g3⟩;obtain ⟨R0,Rz0,R1,Rz1⟩:=AK2 g3 ⟨x0,xz0,x1,xz1⟩))
 exact bodyPost_ret (v:=.agg #[.int .u64 LO,.int .u64 HI]) (by simp [results,Tryz.results21,go_sem,R0,R1]) rfl ⟨rfl,KS2 ((Kp.trans (Kp.trans (Kp.trans (((Kp.refl w).alloc _).alloc _) g1) kk) g3)) (by first | omega | (simp <;> omega))⟩
theorem rentireK_ (w:World):Calls Tryz.prog 61 #[] w fun e w'=>e = .returned (.agg #[.int .u64 18442240474082181120,.int .u64 9218868437227405312])∧Kp w w':=by
 refine (Fq.rentire_ w).mono ?_
 rintro e w' ⟨rfl,rfl⟩
 exact ⟨rfl,(Kp.refl w).alloc _⟩
theorem pownLE1_ (X Y N:Int) (b1:N < -1024) (w:World) (hO:∀ W:World,Kp w W→Calls Tryz.prog 60 #[.agg #[.int .u64 X,.int .u64 Y]] W fun e w'=>∃ (i j:Int) (s:Bool) (p:Option Addr) (l c:Nat) (q:Option Addr) (k d:Nat) (s2:Bool) (p2:Option Addr) (l2 c2:Nat) (q2:Option Addr) (k2 d2:Nat),e = .returned (.agg #[.bool true,.int .i64 i,.bool s,.slice p l c,.slice q k d,.int .i64 j,.bool s2,.slice p2 l2 c2,.slice q2 k2 d2])∧Kp W w'):Calls Tryz.prog 21 #[.agg #[.int .u64 X,.int .u64 Y],.int .i64 N] w fun e w'=>e = .returned (.agg #[.int .u64 9218868437227405312,.int .u64 18442240474082181120])∧Kp w w':=by
 go_enter Tryz.func21,Tryz.ntmps21
 go_wp2_with (first | (go_at_call 60;refine (hO _ (((Kp.refl w).alloc _).alloc _)).mono ?_;rintro e w1 ⟨i,j,s,p,l,c,q,k,d,s2,p2,l2,c2,q2,k2,d2,rfl,g1⟩;obtain ⟨r0,rz0,r1,rz1⟩:=FK2 g1 (w.heap.size + 1) (.int .u64 0) (.int .u64 0) (by simp [go_sem])) | (go_at_call 24;refine (rempty9_ _).mono ?_;rintro e w2 ⟨rfl,g2⟩;have kk:Kp w1 w2:=Kp.trans ((Kp.refl w1).alloc _) g2;obtain ⟨R0,Rz0,R1,Rz1⟩:=AK2 kk ⟨r0,rz0,r1,rz1⟩))
 exact bodyPost_ret (v:=.agg #[.int .u64 9218868437227405312,.int .u64 18442240474082181120]) (by simp [results,Tryz.results21,go_sem,R0,R1]) rfl ⟨rfl,KS2 ((Kp.trans (Kp.trans (((Kp.refl w).alloc _).alloc _) g1) kk)) (by first | omega | (simp <;> omega))⟩
theorem pownLE2_ (X Y N:Int) (b1:¬ (N < -1024)) (b2:1024 < N) (w:World) (hO:∀ W:World,Kp w W→Calls Tryz.prog 60 #[.agg #[.int .u64 X,.int .u64 Y]] W fun e w'=>∃ (i j:Int) (s:Bool) (p:Option Addr) (l c:Nat) (q:Option Addr) (k d:Nat) (s2:Bool) (p2:Option Addr) (l2 c2:Nat) (q2:Option Addr) (k2 d2:Nat),e = .returned (.agg #[.bool true,.int .i64 i,.bool s,.slice p l c,.slice q k d,.int .i64 j,.bool s2,.slice p2 l2 c2,.slice q2 k2 d2])∧Kp W w'):Calls Tryz.prog 21 #[.agg #[.int .u64 X,.int .u64 Y],.int .i64 N] w fun e w'=>e = .returned (.agg #[.int .u64 9218868437227405312,.int .u64 18442240474082181120])∧Kp w w':=by
 go_enter Tryz.func21,Tryz.ntmps21
 go_wp2_with (first | (go_at_call 60;refine (hO _ (((Kp.refl w).alloc _).alloc _)).mono ?_;rintro e w1 ⟨i,j,s,p,l,c,q,k,d,s2,p2,l2,c2,q2,k2,d2,rfl,g1⟩;obtain ⟨r0,rz0,r1,rz1⟩:=FK2 g1 (w.heap.size + 1) (.int .u64 0) (.int .u64 0) (by simp [go_sem])) | (go_at_call 24;refine (rempty9_ _).mono ?_;rintro e w2 ⟨rfl,g2⟩;have kk:Kp w1 w2:=Kp.trans ((Kp.refl w1).alloc _) g2;obtain ⟨R0,Rz0,R1,Rz1⟩:=AK2 kk ⟨r0,rz0,r1,rz1⟩))
 exact bodyPost_ret (v:=.agg #[.int .u64 9218868437227405312,.int .u64 18442240474082181120]) (by simp [results,Tryz.results21,go_sem,R0,R1]) rfl ⟨rfl,KS2 ((Kp.trans (Kp.trans (((Kp.refl w).alloc _).alloc _) g1) kk)) (by first | omega | (simp <;> omega))⟩
theorem pownLS1_ (X Y N:Int) (b1:N < -1024) (w:World) (hO:∀ W:World,Kp w W→Calls Tryz.prog 60 #[.agg #[.int .u64 X,.int .u64 Y]] W fun e w'=>∃ (i j:Int) (s:Bool) (p:Option Addr) (l c:Nat) (q:Option Addr) (k d:Nat) (s2:Bool) (p2:Option Addr) (l2 c2:Nat) (q2:Option Addr) (k2 d2:Nat),e = .returned (.agg #[.bool false,.int .i64 i,.bool s,.slice p l c,.slice q k d,.int .i64 j,.bool s2,.slice p2 l2 c2,.slice q2 k2 d2])∧Kp W w'):Calls Tryz.prog 21 #[.agg #[.int .u64 X,.int .u64 Y],.int .i64 N] w fun e w'=>e = .returned (.agg #[.int .u64 18442240474082181120,.int .u64 9218868437227405312])∧Kp w w':=by
 go_enter Tryz.func21,Tryz.ntmps21
 go_wp2_with (first | (go_at_call 60;refine (hO _ (((Kp.refl w).alloc _).alloc _)).mono ?_;rintro e w1 ⟨i,j,s,p,l,c,q,k,d,s2,p2,l2,c2,q2,k2,d2,rfl,g1⟩;obtain ⟨r0,rz0,r1,rz1⟩:=FK2 g1 (w.heap.size + 1) (.int .u64 0) (.int .u64 0) (by simp [go_sem])) | (go_at_call 61;refine (rentireK_ _).mono ?_;rintro e w2 ⟨rfl,g2⟩;have kk:Kp w1 w2:=Kp.trans ((Kp.refl w1).alloc _) g2;obtain ⟨R0,Rz0,R1,Rz1⟩:=AK2 kk ⟨r0,rz0,r1,rz1⟩))
 exact bodyPost_ret (v:=.agg #[.int .u64 18442240474082181120,.int .u64 9218868437227405312]) (by simp [results,Tryz.results21,go_sem,R0,R1]) rfl ⟨rfl,KS2 ((Kp.trans (Kp.trans (((Kp.refl w).alloc _).alloc _) g1) kk)) (by first | omega | (simp <;> omega))⟩
theorem pownLS2_ (X Y N:Int) (b1:¬ (N < -1024)) (b2:1024 < N) (w:World) (hO:∀ W:World,Kp w W→Calls Tryz.prog 60 #[.agg #[.int .u64 X,.int .u64 Y]] W fun e w'=>∃ (i j:Int) (s:Bool) (p:Option Addr) (l c:Nat) (q:Option Addr) (k d:Nat) (s2:Bool) (p2:Option Addr) (l2 c2:Nat) (q2:Option Addr) (k2 d2:Nat),e = .returned (.agg #[.bool false,.int .i64 i,.bool s,.slice p l c,.slice q k d,.int .i64 j,.bool s2,.slice p2 l2 c2,.slice q2 k2 d2])∧Kp W w'):Calls Tryz.prog 21 #[.agg #[.int .u64 X,.int .u64 Y],.int .i64 N] w fun e w'=>e = .returned (.agg #[.int .u64 18442240474082181120,.int .u64 9218868437227405312])∧Kp w w':=by
 go_enter Tryz.func21,Tryz.ntmps21
 go_wp2_with (first | (go_at_call 60;refine (hO _ (((Kp.refl w).alloc _).alloc _)).mono ?_;rintro e w1 ⟨i,j,s,p,l,c,q,k,d,s2,p2,l2,c2,q2,k2,d2,rfl,g1⟩;obtain ⟨r0,rz0,r1,rz1⟩:=FK2 g1 (w.heap.size + 1) (.int .u64 0) (.int .u64 0) (by simp [go_sem])) | (go_at_call 61;refine (rentireK_ _).mono ?_;rintro e w2 ⟨rfl,g2⟩;have kk:Kp w1 w2:=Kp.trans ((Kp.refl w1).alloc _) g2;obtain ⟨R0,Rz0,R1,Rz1⟩:=AK2 kk ⟨r0,rz0,r1,rz1⟩))
 exact bodyPost_ret (v:=.agg #[.int .u64 18442240474082181120,.int .u64 9218868437227405312]) (by simp [results,Tryz.results21,go_sem,R0,R1]) rfl ⟨rfl,KS2 ((Kp.trans (Kp.trans (((Kp.refl w).alloc _).alloc _) g1) kk)) (by first | omega | (simp <;> omega))⟩
def pU (K:Nat) (d:Int) (k:Nat) (z:Int):Int:=if z = 9218868437227405312 then 9218868437227405312 else if z = -9218868437227405312 then (if k % 2 = 1 then -9218868437227405312 else 9218868437227405312) else g53 d 1 (2 ^ (K * (k - 1))) (vZ z ^ k)
def pD (K:Nat) (d:Int) (k:Nat) (z:Int):Int:=if z = 9218868437227405312∨z = -9218868437227405312 then 0 else if z = 0 then 9218868437227405312 else g53 d (2 ^ (K * (k + 1))) ((vZ z).natAbs ^ k) (if z < 0∧k % 2 = 1 then -1 else 1)
def pnZ (K:Nat) (d N:Int) (z:Int):Int:=if N = 0 then 4607182418800017408 else if 0 < N then pU K d N.natAbs z else pD K d N.natAbs z
theorem iv_pow (n:Bool) (m k:Nat):Iv n m ^ k = if (n && decide (k % 2 = 1)) then -((Fq.vV Ieee.double m ^ k:Nat):Int) else ((Fq.vV Ieee.double m ^ k:Nat):Int):=by
 have e:∀ (a:Int) (k:Nat),(-a) ^ k = if k % 2 = 1 then -(a ^ k) else a ^ k:=by
  intro a k
  induction k with
  | zero=>simp
  | succ j ih =>
    rw [Int.pow_succ,Int.pow_succ,ih]
    by_cases c:j % 2 = 1
    ·rw [if_pos c,if_neg (by omega)];simp [Int.mul_neg,Int.neg_mul]
    ·rw [if_neg c,if_pos (by omega)];simp [Int.mul_neg]
 unfold Iv
 cases n
 ·simp [Int.natCast_pow]
 ·rw [if_pos rfl,e]
  by_cases c:k % 2 = 1
  ·rw [if_pos c,show (true && decide (k % 2 = 1)) = true from by simp [c],if_pos rfl,Int.natCast_pow]
  ·rw [if_neg c,show (true && decide (k % 2 = 1)) = false from by simp [c],if_neg (by decide),Int.natCast_pow]
theorem upW_g (K:Nat) (hK:K = 1074) (d:Int) (s:Bool) (A k:Nat) (hk:0 < k) (hA:A≠0) (V:Int) (hV:V = if s then -((A ^ k:Nat):Int) else ((A ^ k:Nat):Int)):upW d s A k = pz (g53 d 1 (2 ^ (K * (k - 1))) V):=by
 have hp:0 < A ^ k:=Nat.pow_pos (Nat.pos_of_ne_zero hA)
 unfold upW g53 gpl
 have et:(1074 - 1074 * (k:Int)) = -((K * (k - 1):Nat):Int):=by
  obtain ⟨j,rfl⟩:∃ j,k = j + 1:=⟨k - 1,by omega⟩
  rw [Nat.add_sub_cancel,hK];omega
 rw [et,rV_neg,mdW_pz]
 generalize A ^ k = P at *
 cases s
 ·have h2:V = (P:Int):=hV
  rw [if_neg (show ¬ V = 0 by omega),if_neg (show ¬ V < 0 by omega),h2,show ((P:Int)).natAbs = P from by omega];rfl
 ·have h2:V = -(P:Int):=hV
  rw [if_neg (show ¬ V = 0 by omega),if_pos (show V < 0 by omega),h2,show (-(P:Int)).natAbs = P from by omega];rfl
theorem dnW_g (K:Nat) (hK:K = 1074) (d:Int) (s:Bool) (A k:Nat):dnW d s A k = pz (g53 d (2 ^ (K * (k + 1))) (A ^ k) (if s then -1 else 1)):=by
 unfold dnW g53 gpl
 have et:(1074 + 1074 * (k:Int)) = ((K * (k + 1):Nat):Int):=by
  rw [Nat.mul_add,hK];omega
 rw [et,rV_pos,mdW_pz]
 cases s
 ·rw [if_neg (by decide),if_neg (by decide),if_neg (by decide)];rfl
 ·rw [if_pos rfl,if_neg (by decide),if_pos (by decide)];rfl
theorem odd_i (N:Int) (k:Nat) (hk:N = (k:Int)∨N = -(k:Int)):(N.tmod 2 != 0) = decide (k % 2 = 1)∧(N.tmod 2 == 0) = !decide (k % 2 = 1):=by
 have h:N.tmod 2 = 0 ↔ k % 2 = 0:=by
  rcases hk with h | h
  ·rw [h,Int.tmod_eq_emod_of_nonneg (by omega)];omega
  ·rw [h,Int.neg_tmod,Int.tmod_eq_emod_of_nonneg (by omega)];omega
 by_cases c:k % 2 = 1
 ·rw [decide_eq_true c]
  have:N.tmod 2≠0:=fun h0=>by have:=h.1 h0;omega
  simp [this]
 ·rw [decide_eq_false c]
  have:N.tmod 2 = 0:=h.2 (by omega)
  simp [this]
end Go.Proofs.YtaldmbeomdfafaaGreatDoor
