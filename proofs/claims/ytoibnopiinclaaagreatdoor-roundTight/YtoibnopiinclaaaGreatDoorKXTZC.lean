import Derived.Test.YtoibnopiinclaaaGreatDoorKXGM
import Derived.Test.YtoibnopiinclaaaGreatDoorKXTQ
import Derived.Test.YtoibnopiinclaaaGreatDoorKXTYZ
set_option maxHeartbeats 1000000
set_option maxRecDepth 20000
namespace Go.Proofs.YtoibnopiinclaaaGreatDoor
open Go.RowKit
set_option linter.unusedVariables false
set_option linter.unusedSimpArgs false
theorem lawB1_ (X Y Z:Int) (w:World) (fi0:∀ W:World,Calls Tryz.prog 4 #[.int .u64 X] W fun e w'=>e = .returned (.bool true)∧w' = W) (fi1:∀ W:World,Calls Tryz.prog 4 #[.int .u64 Y] W fun e w'=>e = .returned (.bool false)∧w' = W) (li9:∀ W:World,Kp w W→Calls Tryz.prog 5 #[] W fun e w'=>e = .returned (.bool true)∧Kp W w') (f0 f1:Nat) (Q:Int) (PF:Int→Nat→Prop) (p0:PF X f0) (p1:PF Y f1) (fl9:∀ X Y,PF X Y→∀ W:World,Calls Tryz.prog 8 #[.int .u64 X] W fun e w'=>e = .returned (.float .f64 Y)∧w' = W) (PA:Nat→Nat→Prop) (q1:PA f0 f1) (q2:PA f1 f0) (ad9:∀ x y,PA x y→∀ W:World,Kp w W→Calls Tryz.prog 7 #[.int .i64 1,.float .f64 x,.float .f64 y] W fun e w'=>∃ R,e = .returned (.float .f64 R)∧(∀ w1:World,Calls Tryz.prog 6 #[.float .f64 R] w1 fun e w'=>e = .returned (.int .u64 Q)∧w' = w1)∧Kp W w'):Calls Tryz.prog 3 #[.agg #[.int .u64 X,.int .u64 Y,.int .u64 Z]] w fun e w'=>e = .returned (.bool true)∧Kp w w':=by
  have HX:=H3c.new w (.int .u64 X) (.int .u64 Y) (.int .u64 Z) 23
  have kW:Kp w (w.alloc (.cells #[.int .u64 X,.int .u64 Y,.int .u64 Z] 23)):=(Kp.refl w).alloc _
  go_enter Tryz.func3,Tryz.ntmps3
  go_upto_region 2 with fail
  generalize w.alloc (.cells #[.int .u64 X,.int .u64 Y,.int .u64 Z] 23) = W0 at HX kW ⊢
  go_loopw [3] (fun s3 wr=>(s3 = .int .i64 0∨s3 = .int .i64 1)∧wr = W0) (fun s3 _=>(3 - intOf s3).toNat)
  case atStart=>exact ⟨Or.inl rfl,rfl⟩
  case round =>
    obtain ⟨hk,hwr⟩:=hrel
    subst hwr
    rcases hk with hk | hk
    · subst hk
      obtain ⟨x0,x1,x2,-,-,-⟩:=id HX
      go_wp2_with (first | (go_at_call 4;refine (fi0 _).mono ?_;rintro e wn ⟨rfl,hw9⟩;obtain rfl:=hw9.symm;clear hw9))
      exact ⟨⟨Or.inr ((by go_num)),trivial⟩,by simp [intOf]⟩
    · subst hk
      obtain ⟨x0,x1,x2,-,-,-⟩:=id HX
      go_wp2_with (first | (go_at_call 4;refine (fi1 _).mono ?_;rintro e wn ⟨rfl,hw9⟩;obtain rfl:=hw9.symm;clear hw9))
      have dx0:wr.drew.cell? ⟨w.heap.size,0,none⟩ = some (.int .u64 X):=x0
      have dx1:wr.drew.cell? ⟨w.heap.size,1,none⟩ = some (.int .u64 Y):=x1
      have dx2:wr.drew.cell? ⟨w.heap.size,2,none⟩ = some (.int .u64 Z):=x2
      go_region_held3 (fun w'=>w'.cell? ⟨w.heap.size,0,none⟩ = some (.int .u64 X)∧w'.cell? ⟨w.heap.size,1,none⟩ = some (.int .u64 Y)∧w'.cell? ⟨w.heap.size,2,none⟩ = some (.int .u64 Z)) (first | (with_reducible exact ⟨x0,x1,x2⟩) | (with_reducible exact ⟨dx0,dx1,dx2⟩) | (with_reducible exact ⟨y0,y1,y2⟩)) (first | (go_at_call 5;refine (li9 _ ?q0).mono ?_;(case q0=>exact kW.drew);rintro e wl ⟨rfl,gl⟩;have kl:Kp wr wl:=Kp.trans (Kp.drew (Kp.refl _)) gl;have y0:=kkeep kl x0;have y1:=kkeep kl x1;have y2:=kkeep kl x2) | (go_at_call 8;refine (fl9 _ _ (by with_reducible first | exact p0 | exact p1) _).mono ?_;rintro e wn ⟨rfl,hw9⟩;obtain rfl:=hw9.symm;clear hw9) | (go_at_call 7;refine (ad9 _ _ (by with_reducible first | exact q1 | exact q2) _ (kW.trans kl)).mono ?_;rintro e wn ⟨R,rfl,hbt,gn⟩;replace kl:=Kp.trans kl gn;replace y0:=kkeep kl x0;replace y1:=kkeep kl x1;replace y2:=kkeep kl x2) | (go_at_call 6;refine (hbt _).mono ?_;rintro e wn ⟨rfl,hw9⟩;obtain rfl:=hw9.symm;clear hw9 hbt))
      go_wp2
      exact bodyPost_ret (v:=.bool true) (by simp [results,Tryz.results3,go_sem]) rfl ⟨rfl,(kW.trans kl)⟩
set_option linter.unusedVariables false
set_option linter.unusedSimpArgs false
theorem lawB2_ (X Y Z:Int) (w:World) (fi0:∀ W:World,Calls Tryz.prog 4 #[.int .u64 X] W fun e w'=>e = .returned (.bool true)∧w' = W) (fi1:∀ W:World,Calls Tryz.prog 4 #[.int .u64 Y] W fun e w'=>e = .returned (.bool true)∧w' = W) (fi2:∀ W:World,Calls Tryz.prog 4 #[.int .u64 Z] W fun e w'=>e = .returned (.bool false)∧w' = W) (li9:∀ W:World,Kp w W→Calls Tryz.prog 5 #[] W fun e w'=>e = .returned (.bool true)∧Kp W w') (f0 f1:Nat) (Q:Int) (PF:Int→Nat→Prop) (p0:PF X f0) (p1:PF Y f1) (fl9:∀ X Y,PF X Y→∀ W:World,Calls Tryz.prog 8 #[.int .u64 X] W fun e w'=>e = .returned (.float .f64 Y)∧w' = W) (PA:Nat→Nat→Prop) (q1:PA f0 f1) (q2:PA f1 f0) (ad9:∀ x y,PA x y→∀ W:World,Kp w W→Calls Tryz.prog 7 #[.int .i64 1,.float .f64 x,.float .f64 y] W fun e w'=>∃ R,e = .returned (.float .f64 R)∧(∀ w1:World,Calls Tryz.prog 6 #[.float .f64 R] w1 fun e w'=>e = .returned (.int .u64 Q)∧w' = w1)∧Kp W w'):Calls Tryz.prog 3 #[.agg #[.int .u64 X,.int .u64 Y,.int .u64 Z]] w fun e w'=>e = .returned (.bool true)∧Kp w w':=by
  have HX:=H3c.new w (.int .u64 X) (.int .u64 Y) (.int .u64 Z) 23
  have kW:Kp w (w.alloc (.cells #[.int .u64 X,.int .u64 Y,.int .u64 Z] 23)):=(Kp.refl w).alloc _
  go_enter Tryz.func3,Tryz.ntmps3
  go_upto_region 2 with fail
  generalize w.alloc (.cells #[.int .u64 X,.int .u64 Y,.int .u64 Z] 23) = W0 at HX kW ⊢
  go_loopw [3] (fun s3 wr=>(s3 = .int .i64 0∨s3 = .int .i64 1∨s3 = .int .i64 2)∧wr = W0) (fun s3 _=>(3 - intOf s3).toNat)
  case atStart=>exact ⟨Or.inl rfl,rfl⟩
  case round =>
    obtain ⟨hk,hwr⟩:=hrel
    subst hwr
    rcases hk with hk | hk | hk
    · subst hk
      obtain ⟨x0,x1,x2,-,-,-⟩:=id HX
      go_wp2_with (first | (go_at_call 4;refine (fi0 _).mono ?_;rintro e wn ⟨rfl,hw9⟩;obtain rfl:=hw9.symm;clear hw9))
      exact ⟨⟨Or.inr (Or.inl (by go_num)),trivial⟩,by simp [intOf]⟩
    · subst hk
      obtain ⟨x0,x1,x2,-,-,-⟩:=id HX
      go_wp2_with (first | (go_at_call 4;refine (fi1 _).mono ?_;rintro e wn ⟨rfl,hw9⟩;obtain rfl:=hw9.symm;clear hw9))
      exact ⟨⟨Or.inr (Or.inr ((by go_num))),trivial⟩,by simp [intOf]⟩
    · subst hk
      obtain ⟨x0,x1,x2,-,-,-⟩:=id HX
      go_wp2_with (first | (go_at_call 4;refine (fi2 _).mono ?_;rintro e wn ⟨rfl,hw9⟩;obtain rfl:=hw9.symm;clear hw9))
      have dx0:wr.drew.cell? ⟨w.heap.size,0,none⟩ = some (.int .u64 X):=x0
      have dx1:wr.drew.cell? ⟨w.heap.size,1,none⟩ = some (.int .u64 Y):=x1
      have dx2:wr.drew.cell? ⟨w.heap.size,2,none⟩ = some (.int .u64 Z):=x2
      go_region_held3 (fun w'=>w'.cell? ⟨w.heap.size,0,none⟩ = some (.int .u64 X)∧w'.cell? ⟨w.heap.size,1,none⟩ = some (.int .u64 Y)∧w'.cell? ⟨w.heap.size,2,none⟩ = some (.int .u64 Z)) (first | (with_reducible exact ⟨x0,x1,x2⟩) | (with_reducible exact ⟨dx0,dx1,dx2⟩) | (with_reducible exact ⟨y0,y1,y2⟩)) (first | (go_at_call 5;refine (li9 _ ?q0).mono ?_;(case q0=>exact kW.drew);rintro e wl ⟨rfl,gl⟩;have kl:Kp wr wl:=Kp.trans (Kp.drew (Kp.refl _)) gl;have y0:=kkeep kl x0;have y1:=kkeep kl x1;have y2:=kkeep kl x2) | (go_at_call 8;refine (fl9 _ _ (by with_reducible first | exact p0 | exact p1) _).mono ?_;rintro e wn ⟨rfl,hw9⟩;obtain rfl:=hw9.symm;clear hw9) | (go_at_call 7;refine (ad9 _ _ (by with_reducible first | exact q1 | exact q2) _ (kW.trans kl)).mono ?_;rintro e wn ⟨R,rfl,hbt,gn⟩;replace kl:=Kp.trans kl gn;replace y0:=kkeep kl x0;replace y1:=kkeep kl x1;replace y2:=kkeep kl x2) | (go_at_call 6;refine (hbt _).mono ?_;rintro e wn ⟨rfl,hw9⟩;obtain rfl:=hw9.symm;clear hw9 hbt))
      go_wp2
      exact bodyPost_ret (v:=.bool true) (by simp [results,Tryz.results3,go_sem]) rfl ⟨rfl,(kW.trans kl)⟩
set_option linter.unusedVariables false
set_option linter.unusedSimpArgs false
set_option linter.unusedVariables false
set_option linter.unusedSimpArgs false
theorem asked0_ (d:Int) (x y z:Nat) (Z:Int) (w:World) (ho:Calls Tryz.prog 7 #[.int .i64 d,.float .f64 x,.float .f64 y] w fun e w'=>∃ R,e = .returned (.float .f64 R)∧(∀ w1:World,Calls Tryz.prog 6 #[.float .f64 R] w1 fun e w'=>e = .returned (.int .u64 Z)∧w' = w1)∧Kp w w'):Calls Tryz.prog 11 #[.int .i64 0,.int .i64 d,.float .f64 x,.float .f64 y,.float .f64 z] w fun e w'=>e = .returned (.int .u64 Z)∧Kp w w':=by
  go_enter Tryz.func11,Tryz.ntmps11
  go_wp2_with (first | (go_at_call 7;refine ho.mono ?_;rintro e w1 ⟨R,rfl,hb,g1⟩) | (go_at_call 6;refine (hb _).mono ?_;rintro e w2 ⟨rfl,hw9⟩;obtain rfl:=hw9.symm;clear hw9))
  exact bodyPost_ret (v:=.int .u64 Z) (by simp [results,Tryz.results11,go_sem]) rfl ⟨rfl,g1⟩
theorem asked1_ (d:Int) (x y z:Nat) (Z:Int) (w:World) (ho:Calls Tryz.prog 29 #[.int .i64 d,.float .f64 x,.float .f64 y] w fun e w'=>∃ R,e = .returned (.float .f64 R)∧(∀ w1:World,Calls Tryz.prog 6 #[.float .f64 R] w1 fun e w'=>e = .returned (.int .u64 Z)∧w' = w1)∧Kp w w'):Calls Tryz.prog 11 #[.int .i64 1,.int .i64 d,.float .f64 x,.float .f64 y,.float .f64 z] w fun e w'=>e = .returned (.int .u64 Z)∧Kp w w':=by
  go_enter Tryz.func11,Tryz.ntmps11
  go_wp2_with (first | (go_at_call 29;refine ho.mono ?_;rintro e w1 ⟨R,rfl,hb,g1⟩) | (go_at_call 6;refine (hb _).mono ?_;rintro e w2 ⟨rfl,hw9⟩;obtain rfl:=hw9.symm;clear hw9))
  exact bodyPost_ret (v:=.int .u64 Z) (by simp [results,Tryz.results11,go_sem]) rfl ⟨rfl,g1⟩
theorem asked2_ (d:Int) (x y z:Nat) (Z:Int) (w:World) (ho:Calls Tryz.prog 16 #[.int .i64 d,.float .f64 x,.float .f64 y] w fun e w'=>∃ R,e = .returned (.float .f64 R)∧(∀ w1:World,Calls Tryz.prog 6 #[.float .f64 R] w1 fun e w'=>e = .returned (.int .u64 Z)∧w' = w1)∧Kp w w'):Calls Tryz.prog 11 #[.int .i64 2,.int .i64 d,.float .f64 x,.float .f64 y,.float .f64 z] w fun e w'=>e = .returned (.int .u64 Z)∧Kp w w':=by
  go_enter Tryz.func11,Tryz.ntmps11
  go_wp2_with (first | (go_at_call 16;refine ho.mono ?_;rintro e w1 ⟨R,rfl,hb,g1⟩) | (go_at_call 6;refine (hb _).mono ?_;rintro e w2 ⟨rfl,hw9⟩;obtain rfl:=hw9.symm;clear hw9))
  exact bodyPost_ret (v:=.int .u64 Z) (by simp [results,Tryz.results11,go_sem]) rfl ⟨rfl,g1⟩
theorem asked3_ (d:Int) (x y z:Nat) (Z:Int) (w:World) (ho:Calls Tryz.prog 14 #[.int .i64 d,.float .f64 x,.float .f64 y] w fun e w'=>∃ R,e = .returned (.float .f64 R)∧(∀ w1:World,Calls Tryz.prog 6 #[.float .f64 R] w1 fun e w'=>e = .returned (.int .u64 Z)∧w' = w1)∧Kp w w'):Calls Tryz.prog 11 #[.int .i64 3,.int .i64 d,.float .f64 x,.float .f64 y,.float .f64 z] w fun e w'=>e = .returned (.int .u64 Z)∧Kp w w':=by
  go_enter Tryz.func11,Tryz.ntmps11
  go_wp2_with (first | (go_at_call 14;refine ho.mono ?_;rintro e w1 ⟨R,rfl,hb,g1⟩) | (go_at_call 6;refine (hb _).mono ?_;rintro e w2 ⟨rfl,hw9⟩;obtain rfl:=hw9.symm;clear hw9))
  exact bodyPost_ret (v:=.int .u64 Z) (by simp [results,Tryz.results11,go_sem]) rfl ⟨rfl,g1⟩
theorem asked4_ (d:Int) (x y z:Nat) (Z:Int) (w:World) (ho:Calls Tryz.prog 30 #[.int .i64 d,.float .f64 x,.float .f64 y,.float .f64 z] w fun e w'=>∃ R,e = .returned (.float .f64 R)∧(∀ w1:World,Calls Tryz.prog 6 #[.float .f64 R] w1 fun e w'=>e = .returned (.int .u64 Z)∧w' = w1)∧Kp w w'):Calls Tryz.prog 11 #[.int .i64 4,.int .i64 d,.float .f64 x,.float .f64 y,.float .f64 z] w fun e w'=>e = .returned (.int .u64 Z)∧Kp w w':=by
  go_enter Tryz.func11,Tryz.ntmps11
  go_wp2_with (first | (go_at_call 30;refine ho.mono ?_;rintro e w1 ⟨R,rfl,hb,g1⟩) | (go_at_call 6;refine (hb _).mono ?_;rintro e w2 ⟨rfl,hw9⟩;obtain rfl:=hw9.symm;clear hw9))
  exact bodyPost_ret (v:=.int .u64 Z) (by simp [results,Tryz.results11,go_sem]) rfl ⟨rfl,g1⟩

set_option linter.unusedVariables false
def oX (K:Nat) (op d:Int) (n:Bool) (m:Nat) (n':Bool) (m':Nat) (nz:Bool) (mz:Nat):Option Int:=if op = 0 then oA d n m n' m' else if op = 1 then oA d n m (!n') m' else if op = 2 then oM K d n m n' m' else if op = 3 then oD K d n m n' m' else oF K d n m n' m' nz mz
theorem askX_ (K:Nat) (hK:K = 1074) (op d:Int) (h5:0≤op∧op < 5) (n n' nz:Bool) (m m' mz:Nat) (hm:m < 9223372036854775808) (hm':m' < 9223372036854775808) (hmz:mz < 9223372036854775808) (hd1:-9223372036854775808≤d) (hd2:d < 9223372036854775808) (w:World) (hT:Tab w) (hQ:Fq.Tab w):Calls Tryz.prog 11 #[.int .i64 op,.int .i64 d,.float .f64 (Fq.wD n m),.float .f64 (Fq.wD n' m'),.float .f64 (Fq.wD nz mz)] w fun e w'=>e = .returned (.int .u64 ((zc (oX K op d n m n' m' nz mz):Nat):Int))∧Kp w w':=by
  unfold oX
  by_cases c0:op = 0
  · rw [if_pos c0,c0];exact asked0_ d _ _ _ _ w (addO_ d n n' m m' hm hm' hd1 hd2 w hT hQ)
  rw [if_neg c0]
  by_cases c1:op = 1
  · rw [if_pos c1,c1];exact asked1_ d _ _ _ _ w (subO_ d n n' m m' hm hm' hd1 hd2 w hT hQ)
  rw [if_neg c1]
  by_cases c2:op = 2
  · rw [if_pos c2,c2];exact asked2_ d _ _ _ _ w (mulO_ K hK d n n' m m' hm hm' hd1 hd2 w hT hQ)
  rw [if_neg c2]
  by_cases c3:op = 3
  · rw [if_pos c3,c3];exact asked3_ d _ _ _ _ w (divO_ K hK d n n' m m' hm hm' hd1 hd2 w hT hQ)
  rw [if_neg c3,show op = 4 from by omega]
  exact asked4_ d _ _ _ _ w (fmaO_ K hK d n n' nz m m' mz hm hm' hmz hd1 hd2 w hT hQ)

theorem xsign_ s p l c q k d (V:Int) (C N:Nat) (hN:N≤100000) (B1:Nat) (w:World) (h:XP B1 w s p l c q k d V C N):Calls Tryz.prog 10 #[.agg #[.bool s,.slice p l c,.slice q k d]] w fun e w'=>e = .returned (.int .i64 (cmI V 0))∧Kp w w':=by
  obtain ⟨a,b,u1,u2,f1,f2,f3,f4,f5⟩:=h
  have h:=rsign_ s (.slice p l c) (.slice q k d) a w u1.ls (by omega)
  have e:(if a = 0 then 0 else if s then (-1:Int) else 1) = cmI V 0:=by
    have hc:(0:Int) < (C:Int):=by omega
    have hb:(0:Int) < (b:Int):=by omega
    have k:cmI (rvI s a) 0 = cmI V 0:=by
      rw [← cmI_scale (rvI s a) 0 _ hc,f3,Int.zero_mul]
      have:=cmI_scale V 0 _ hb
      rw [Int.zero_mul] at this
      exact this
    rw [← k]
    unfold rvI
    by_cases z:a = 0
    · rw [if_pos z,z];cases s <;> simp [cmI]
    · rw [if_neg z]
      cases s
      · rw [if_neg (by decide),if_neg (by decide)];exact (cmX_gt _ _ (by omega)).symm
      · rw [if_pos rfl,if_pos rfl];exact (cmX_lt _ _ (by omega)).symm
  rw [e] at h
  exact h
def PQ9 (K:Nat) (L:Int→Int→Int) (op:Int) (W:World) (v:Value):Prop:=∃ (s3:Bool) (p3:Option Addr) (l3 c3:Nat) (q3:Option Addr) (k3 d3:Nat) (A9:Int) (B9:Nat) (lo hi ne:Int),v = .agg #[.bool s3,.slice p3 l3 c3,.slice q3 k3 d3]∧XP 0 W s3 p3 l3 c3 q3 k3 d3 A9 (B9 * 2 ^ K) 20000∧0 < B9∧TS 9218868437227405312 (Fq.vV Ieee.double) A9 (B9:Int) lo hi ne∧L op (-1) = ((pz lo:Nat):Int)∧L op 1 = ((pz hi:Nat):Int)∧L op 0 = ((pz ne:Nat):Int)
theorem oX0f (K:Nat) (d:Int) (n0 n1 n2:Bool) (m0 m1 m2:Nat) (r0:m0 < 9218868437227405312) (r1:m1 < 9218868437227405312) (r2:m2 < 9218868437227405312):oX K 0 d n0 m0 n1 m1 n2 m2 = some (g53 d 1 1 (Iv n0 m0 + Iv n1 m1)):=by
  unfold oX oA;rw [if_pos rfl,if_neg (by omega),if_neg (by omega),if_neg (by omega)]
theorem exL0_ (K:Nat) (n0 n1 n2:Bool) (m0 m1 m2:Nat) (r0:m0 < 9218868437227405312) (r1:m1 < 9218868437227405312) (r2:m2 < 9218868437227405312) (w:World) s p l c q k d s2 p2 l2 c2 q2 k2 d2 s4 p4 l4 c4 q4 k4 d4 (h1:XP 0 w s p l c q k d (Iv n0 m0) (2 ^ K) 1500) (h2:XP 0 w s2 p2 l2 c2 q2 k2 d2 (Iv n1 m1) (2 ^ K) 1500) (h4:XP 0 w s4 p4 l4 c4 q4 k4 d4 (Iv n2 m2) (2 ^ K) 1500):Calls Tryz.prog 13 #[.int .i64 0,.agg #[.bool s,.slice p l c,.slice q k d],.agg #[.bool s2,.slice p2 l2 c2,.slice q2 k2 d2],.agg #[.bool s4,.slice p4 l4 c4,.slice q4 k4 d4]] w fun e w'=>∃ s3 p3 l3 c3 q3 k3 d3,e = .returned (.agg #[.bool s3,.slice p3 l3 c3,.slice q3 k3 d3])∧PQ9 K (fun op d=>((zc (oX K op d n0 m0 n1 m1 n2 m2):Nat):Int)) 0 w' (.agg #[.bool s3,.slice p3 l3 c3,.slice q3 k3 d3])∧Kp w w':=by
  have hP:=Nat.two_pow_pos K
  refine (exacX0_ K n0 n1 n2 m0 m1 m2 s p l c q k d s2 p2 l2 c2 q2 k2 d2 s4 p4 l4 c4 q4 k4 d4 w h1 h2 h4).mono ?_
  rintro e w' ⟨s3,p3,l3,c3,q3,k3,d3,rfl,hp,g⟩
  refine ⟨s3,p3,l3,c3,q3,k3,d3,rfl,⟨s3,p3,l3,c3,q3,k3,d3,_,1,g53 (-1) 1 1 (Iv n0 m0 + Iv n1 m1),g53 1 1 1 (Iv n0 m0 + Iv n1 m1),g53 0 1 1 (Iv n0 m0 + Iv n1 m1),rfl,hp,by omega,g53_tight 1 1 (by omega) (Iv n0 m0 + Iv n1 m1), ?_, ?_, ?_⟩,g⟩
  · show ((zc (oX K 0 (-1) n0 m0 n1 m1 n2 m2):Nat):Int) = _;rw [oX0f K _ n0 n1 n2 m0 m1 m2 r0 r1 r2];rfl
  · show ((zc (oX K 0 1 n0 m0 n1 m1 n2 m2):Nat):Int) = _;rw [oX0f K _ n0 n1 n2 m0 m1 m2 r0 r1 r2];rfl
  · show ((zc (oX K 0 0 n0 m0 n1 m1 n2 m2):Nat):Int) = _;rw [oX0f K _ n0 n1 n2 m0 m1 m2 r0 r1 r2];rfl
theorem oX1f (K:Nat) (d:Int) (n0 n1 n2:Bool) (m0 m1 m2:Nat) (r0:m0 < 9218868437227405312) (r1:m1 < 9218868437227405312) (r2:m2 < 9218868437227405312):oX K 1 d n0 m0 n1 m1 n2 m2 = some (g53 d 1 1 (Iv n0 m0 - Iv n1 m1)):=by
  unfold oX oA;rw [if_neg (by decide),if_pos rfl,if_neg (by omega),if_neg (by omega),if_neg (by omega),iv_not,show Iv n0 m0 + -Iv n1 m1 = Iv n0 m0 - Iv n1 m1 from by omega]
theorem exL1_ (K:Nat) (n0 n1 n2:Bool) (m0 m1 m2:Nat) (r0:m0 < 9218868437227405312) (r1:m1 < 9218868437227405312) (r2:m2 < 9218868437227405312) (w:World) s p l c q k d s2 p2 l2 c2 q2 k2 d2 s4 p4 l4 c4 q4 k4 d4 (h1:XP 0 w s p l c q k d (Iv n0 m0) (2 ^ K) 1500) (h2:XP 0 w s2 p2 l2 c2 q2 k2 d2 (Iv n1 m1) (2 ^ K) 1500) (h4:XP 0 w s4 p4 l4 c4 q4 k4 d4 (Iv n2 m2) (2 ^ K) 1500):Calls Tryz.prog 13 #[.int .i64 1,.agg #[.bool s,.slice p l c,.slice q k d],.agg #[.bool s2,.slice p2 l2 c2,.slice q2 k2 d2],.agg #[.bool s4,.slice p4 l4 c4,.slice q4 k4 d4]] w fun e w'=>∃ s3 p3 l3 c3 q3 k3 d3,e = .returned (.agg #[.bool s3,.slice p3 l3 c3,.slice q3 k3 d3])∧PQ9 K (fun op d=>((zc (oX K op d n0 m0 n1 m1 n2 m2):Nat):Int)) 1 w' (.agg #[.bool s3,.slice p3 l3 c3,.slice q3 k3 d3])∧Kp w w':=by
  have hP:=Nat.two_pow_pos K
  refine (exacX1_ K n0 n1 n2 m0 m1 m2 s p l c q k d s2 p2 l2 c2 q2 k2 d2 s4 p4 l4 c4 q4 k4 d4 w h1 h2 h4).mono ?_
  rintro e w' ⟨s3,p3,l3,c3,q3,k3,d3,rfl,hp,g⟩
  refine ⟨s3,p3,l3,c3,q3,k3,d3,rfl,⟨s3,p3,l3,c3,q3,k3,d3,_,1,g53 (-1) 1 1 (Iv n0 m0 - Iv n1 m1),g53 1 1 1 (Iv n0 m0 - Iv n1 m1),g53 0 1 1 (Iv n0 m0 - Iv n1 m1),rfl,hp,by omega,g53_tight 1 1 (by omega) (Iv n0 m0 - Iv n1 m1), ?_, ?_, ?_⟩,g⟩
  · show ((zc (oX K 1 (-1) n0 m0 n1 m1 n2 m2):Nat):Int) = _;rw [oX1f K _ n0 n1 n2 m0 m1 m2 r0 r1 r2];rfl
  · show ((zc (oX K 1 1 n0 m0 n1 m1 n2 m2):Nat):Int) = _;rw [oX1f K _ n0 n1 n2 m0 m1 m2 r0 r1 r2];rfl
  · show ((zc (oX K 1 0 n0 m0 n1 m1 n2 m2):Nat):Int) = _;rw [oX1f K _ n0 n1 n2 m0 m1 m2 r0 r1 r2];rfl
theorem oX2f (K:Nat) (d:Int) (n0 n1 n2:Bool) (m0 m1 m2:Nat) (r0:m0 < 9218868437227405312) (r1:m1 < 9218868437227405312) (r2:m2 < 9218868437227405312):oX K 2 d n0 m0 n1 m1 n2 m2 = some (g53 d 1 (2 ^ K) (Iv n0 m0 * Iv n1 m1)):=by
  unfold oX oM;rw [if_neg (by decide),if_neg (by decide),if_pos rfl,if_neg (by omega),if_neg (by omega)]
theorem exL2_ (K:Nat) (n0 n1 n2:Bool) (m0 m1 m2:Nat) (r0:m0 < 9218868437227405312) (r1:m1 < 9218868437227405312) (r2:m2 < 9218868437227405312) (w:World) s p l c q k d s2 p2 l2 c2 q2 k2 d2 s4 p4 l4 c4 q4 k4 d4 (h1:XP 0 w s p l c q k d (Iv n0 m0) (2 ^ K) 1500) (h2:XP 0 w s2 p2 l2 c2 q2 k2 d2 (Iv n1 m1) (2 ^ K) 1500) (h4:XP 0 w s4 p4 l4 c4 q4 k4 d4 (Iv n2 m2) (2 ^ K) 1500):Calls Tryz.prog 13 #[.int .i64 2,.agg #[.bool s,.slice p l c,.slice q k d],.agg #[.bool s2,.slice p2 l2 c2,.slice q2 k2 d2],.agg #[.bool s4,.slice p4 l4 c4,.slice q4 k4 d4]] w fun e w'=>∃ s3 p3 l3 c3 q3 k3 d3,e = .returned (.agg #[.bool s3,.slice p3 l3 c3,.slice q3 k3 d3])∧PQ9 K (fun op d=>((zc (oX K op d n0 m0 n1 m1 n2 m2):Nat):Int)) 2 w' (.agg #[.bool s3,.slice p3 l3 c3,.slice q3 k3 d3])∧Kp w w':=by
  have hP:=Nat.two_pow_pos K
  refine (exacX2_ K n0 n1 n2 m0 m1 m2 s p l c q k d s2 p2 l2 c2 q2 k2 d2 s4 p4 l4 c4 q4 k4 d4 w h1 h2 h4).mono ?_
  rintro e w' ⟨s3,p3,l3,c3,q3,k3,d3,rfl,hp,g⟩
  refine ⟨s3,p3,l3,c3,q3,k3,d3,rfl,⟨s3,p3,l3,c3,q3,k3,d3,_,(2 ^ K),g53 (-1) 1 (2 ^ K) (Iv n0 m0 * Iv n1 m1),g53 1 1 (2 ^ K) (Iv n0 m0 * Iv n1 m1),g53 0 1 (2 ^ K) (Iv n0 m0 * Iv n1 m1),rfl,hp,by omega,g53_tight 1 (2 ^ K) (by omega) (Iv n0 m0 * Iv n1 m1), ?_, ?_, ?_⟩,g⟩
  · show ((zc (oX K 2 (-1) n0 m0 n1 m1 n2 m2):Nat):Int) = _;rw [oX2f K _ n0 n1 n2 m0 m1 m2 r0 r1 r2];rfl
  · show ((zc (oX K 2 1 n0 m0 n1 m1 n2 m2):Nat):Int) = _;rw [oX2f K _ n0 n1 n2 m0 m1 m2 r0 r1 r2];rfl
  · show ((zc (oX K 2 0 n0 m0 n1 m1 n2 m2):Nat):Int) = _;rw [oX2f K _ n0 n1 n2 m0 m1 m2 r0 r1 r2];rfl
theorem oX3f (K:Nat) (d:Int) (n0 n1 n2:Bool) (m0 m1 m2:Nat) (r0:m0 < 9218868437227405312) (r1:m1 < 9218868437227405312) (r2:m2 < 9218868437227405312) (z1:m1≠0):oX K 3 d n0 m0 n1 m1 n2 m2 = some (g53 d (2 ^ K) (Fq.vV Ieee.double m1) (Iv (n0 ^^ n1) m0)):=by
  unfold oX oD;rw [if_neg (by decide),if_neg (by decide),if_neg (by decide),if_pos rfl,if_neg z1,if_neg (by omega),if_neg (by omega),if_neg (by omega)]
theorem exL3_ (K:Nat) (n0 n1 n2:Bool) (m0 m1 m2:Nat) (r0:m0 < 9218868437227405312) (r1:m1 < 9218868437227405312) (r2:m2 < 9218868437227405312) (z1:m1≠0) (w:World) s p l c q k d s2 p2 l2 c2 q2 k2 d2 s4 p4 l4 c4 q4 k4 d4 (h1:XP 0 w s p l c q k d (Iv n0 m0) (2 ^ K) 1500) (h2:XP 0 w s2 p2 l2 c2 q2 k2 d2 (Iv n1 m1) (2 ^ K) 1500) (h4:XP 0 w s4 p4 l4 c4 q4 k4 d4 (Iv n2 m2) (2 ^ K) 1500):Calls Tryz.prog 13 #[.int .i64 3,.agg #[.bool s,.slice p l c,.slice q k d],.agg #[.bool s2,.slice p2 l2 c2,.slice q2 k2 d2],.agg #[.bool s4,.slice p4 l4 c4,.slice q4 k4 d4]] w fun e w'=>∃ s3 p3 l3 c3 q3 k3 d3,e = .returned (.agg #[.bool s3,.slice p3 l3 c3,.slice q3 k3 d3])∧PQ9 K (fun op d=>((zc (oX K op d n0 m0 n1 m1 n2 m2):Nat):Int)) 3 w' (.agg #[.bool s3,.slice p3 l3 c3,.slice q3 k3 d3])∧Kp w w':=by
  have hP:=Nat.two_pow_pos K
  have z2:Fq.vV Ieee.double m1≠0:=fun h=>z1 ((vV_zero m1).1 h)
  refine (exacX3_ K n0 n1 n2 m0 m1 m2 z2 s p l c q k d s2 p2 l2 c2 q2 k2 d2 s4 p4 l4 c4 q4 k4 d4 w h1 h2 h4).mono ?_
  rintro e w' ⟨s3,p3,l3,c3,q3,k3,d3,rfl,hp,g⟩
  refine ⟨s3,p3,l3,c3,q3,k3,d3,rfl,⟨s3,p3,l3,c3,q3,k3,d3,_,(Fq.vV Ieee.double m1),g53 (-1) (2 ^ K) (Fq.vV Ieee.double m1) (Iv (n0 ^^ n1) m0),g53 1 (2 ^ K) (Fq.vV Ieee.double m1) (Iv (n0 ^^ n1) m0),g53 0 (2 ^ K) (Fq.vV Ieee.double m1) (Iv (n0 ^^ n1) m0),rfl,hp,by omega,g53_tight (2 ^ K) (Fq.vV Ieee.double m1) (by omega) (Iv (n0 ^^ n1) m0), ?_, ?_, ?_⟩,g⟩
  · show ((zc (oX K 3 (-1) n0 m0 n1 m1 n2 m2):Nat):Int) = _;rw [oX3f K _ n0 n1 n2 m0 m1 m2 r0 r1 r2 z1];rfl
  · show ((zc (oX K 3 1 n0 m0 n1 m1 n2 m2):Nat):Int) = _;rw [oX3f K _ n0 n1 n2 m0 m1 m2 r0 r1 r2 z1];rfl
  · show ((zc (oX K 3 0 n0 m0 n1 m1 n2 m2):Nat):Int) = _;rw [oX3f K _ n0 n1 n2 m0 m1 m2 r0 r1 r2 z1];rfl
theorem oX4f (K:Nat) (d:Int) (n0 n1 n2:Bool) (m0 m1 m2:Nat) (r0:m0 < 9218868437227405312) (r1:m1 < 9218868437227405312) (r2:m2 < 9218868437227405312):oX K 4 d n0 m0 n1 m1 n2 m2 = some (g53 d 1 (2 ^ K) (Iv n0 m0 * Iv n1 m1 + Iv n2 m2 * ((2 ^ K:Nat):Int))):=by
  unfold oX oF;rw [if_neg (by decide),if_neg (by decide),if_neg (by decide),if_neg (by decide),if_pos ⟨r0,r1⟩,if_pos r2]
theorem exL4_ (K:Nat) (n0 n1 n2:Bool) (m0 m1 m2:Nat) (r0:m0 < 9218868437227405312) (r1:m1 < 9218868437227405312) (r2:m2 < 9218868437227405312) (w:World) s p l c q k d s2 p2 l2 c2 q2 k2 d2 s4 p4 l4 c4 q4 k4 d4 (h1:XP 0 w s p l c q k d (Iv n0 m0) (2 ^ K) 1500) (h2:XP 0 w s2 p2 l2 c2 q2 k2 d2 (Iv n1 m1) (2 ^ K) 1500) (h4:XP 0 w s4 p4 l4 c4 q4 k4 d4 (Iv n2 m2) (2 ^ K) 1500):Calls Tryz.prog 13 #[.int .i64 4,.agg #[.bool s,.slice p l c,.slice q k d],.agg #[.bool s2,.slice p2 l2 c2,.slice q2 k2 d2],.agg #[.bool s4,.slice p4 l4 c4,.slice q4 k4 d4]] w fun e w'=>∃ s3 p3 l3 c3 q3 k3 d3,e = .returned (.agg #[.bool s3,.slice p3 l3 c3,.slice q3 k3 d3])∧PQ9 K (fun op d=>((zc (oX K op d n0 m0 n1 m1 n2 m2):Nat):Int)) 4 w' (.agg #[.bool s3,.slice p3 l3 c3,.slice q3 k3 d3])∧Kp w w':=by
  have hP:=Nat.two_pow_pos K
  refine (exacX4_ K n0 n1 n2 m0 m1 m2 s p l c q k d s2 p2 l2 c2 q2 k2 d2 s4 p4 l4 c4 q4 k4 d4 w h1 h2 h4).mono ?_
  rintro e w' ⟨s3,p3,l3,c3,q3,k3,d3,rfl,hp,g⟩
  refine ⟨s3,p3,l3,c3,q3,k3,d3,rfl,⟨s3,p3,l3,c3,q3,k3,d3,_,(2 ^ K),g53 (-1) 1 (2 ^ K) (Iv n0 m0 * Iv n1 m1 + Iv n2 m2 * ((2 ^ K:Nat):Int)),g53 1 1 (2 ^ K) (Iv n0 m0 * Iv n1 m1 + Iv n2 m2 * ((2 ^ K:Nat):Int)),g53 0 1 (2 ^ K) (Iv n0 m0 * Iv n1 m1 + Iv n2 m2 * ((2 ^ K:Nat):Int)),rfl,hp,by omega,g53_tight 1 (2 ^ K) (by omega) (Iv n0 m0 * Iv n1 m1 + Iv n2 m2 * ((2 ^ K:Nat):Int)), ?_, ?_, ?_⟩,g⟩
  · show ((zc (oX K 4 (-1) n0 m0 n1 m1 n2 m2):Nat):Int) = _;rw [oX4f K _ n0 n1 n2 m0 m1 m2 r0 r1 r2];rfl
  · show ((zc (oX K 4 1 n0 m0 n1 m1 n2 m2):Nat):Int) = _;rw [oX4f K _ n0 n1 n2 m0 m1 m2 r0 r1 r2];rfl
  · show ((zc (oX K 4 0 n0 m0 n1 m1 n2 m2):Nat):Int) = _;rw [oX4f K _ n0 n1 n2 m0 m1 m2 r0 r1 r2];rfl
theorem tights_ (X Y Z:Nat) (w:World) (hT:Tab w) (hQ:Fq.Tab w) (hX:X < 18446744073709551616) (hY:Y < 18446744073709551616) (hZ:Z < 18446744073709551616):Calls Tryz.prog 3 #[.agg #[.int .u64 (X:Int),.int .u64 (Y:Int),.int .u64 (Z:Int)]] w fun e w'=>e = .returned (.bool true)∧Kp w w':=by
  obtain ⟨n0,m0,h0,e0⟩:=Fq.exD X hX
  obtain ⟨n1,m1,h1,e1⟩:=Fq.exD Y hY
  obtain ⟨n2,m2,h2,e2⟩:=Fq.exD Z hZ
  obtain ⟨K,hK⟩:∃ K:Nat,K = 1074:=⟨_,rfl⟩
  have li9:∀ W:World,Kp w W→Calls Tryz.prog 5 #[] W fun e w'=>e = .returned (.bool true)∧Kp W w':=fun W g=>lives_ W (Tab.grown hT g) (Fq.Tab.grown hQ g)
  have fl9:∀ (X:Int) (Y:Nat),X = ((Y:Nat):Int)→∀ W:World,Calls Tryz.prog 8 #[.int .u64 X] W fun e w'=>e = .returned (.float .f64 Y)∧w' = W:=fun X Y h W=>by rw [h];exact fl_ Y W
  have p0:(X:Int) = ((Fq.wD n0 m0:Nat):Int):=by rw [e0]
  have p1:(Y:Int) = ((Fq.wD n1 m1:Nat):Int):=by rw [e1]
  have p2:(Z:Int) = ((Fq.wD n2 m2:Nat):Int):=by rw [e2]
  obtain ⟨PA,hPA⟩:∃ PA:Nat→Nat→Prop,PA = fun x y=>∀ W:World,Kp w W→Calls Tryz.prog 7 #[.int .i64 1,.float .f64 x,.float .f64 y] W fun e w'=>∃ R,e = .returned (.float .f64 R)∧(∀ w1:World,Calls Tryz.prog 6 #[.float .f64 R] w1 fun e w'=>e = .returned (.int .u64 ((zc (oA 1 n0 m0 n1 m1):Nat):Int))∧w' = w1)∧Kp W w':=⟨_,rfl⟩
  have q1:PA (Fq.wD n0 m0) (Fq.wD n1 m1):=by rw [hPA];exact fun W g=>addO_ 1 n0 n1 m0 m1 h0 h1 (by decide) (by decide) W (Tab.grown hT g) (Fq.Tab.grown hQ g)
  have q2:PA (Fq.wD n1 m1) (Fq.wD n0 m0):=by rw [hPA,oA_sym];exact fun W g=>addO_ 1 n1 n0 m1 m0 h1 h0 (by decide) (by decide) W (Tab.grown hT g) (Fq.Tab.grown hQ g)
  have ad9:∀ x y,PA x y→∀ W:World,Kp w W→Calls Tryz.prog 7 #[.int .i64 1,.float .f64 x,.float .f64 y] W fun e w'=>∃ R,e = .returned (.float .f64 R)∧(∀ w1:World,Calls Tryz.prog 6 #[.float .f64 R] w1 fun e w'=>e = .returned (.int .u64 ((zc (oA 1 n0 m0 n1 m1):Nat):Int))∧w' = w1)∧Kp W w':=fun x y h=>by rw [hPA] at h;exact h
  by_cases c0:m0 < 9218868437227405312
  · by_cases c1:m1 < 9218868437227405312
    · by_cases c2:m2 < 9218868437227405312
      · refine lawA_ (X:Int) (Y:Int) (Z:Int) (Iv n0 m0) (Iv n1 m1) (Iv n2 m2) (2 ^ K) w (fun W=>by have g:=fin_ n0 m0 h0 W;rw [decide_eq_true c0,← e0] at g;exact g) (fun W=>by have g:=fin_ n1 m1 h1 W;rw [decide_eq_true c1,← e1] at g;exact g) (fun W=>by have g:=fin_ n2 m2 h2 W;rw [decide_eq_true c2,← e2] at g;exact g) (fun W g=>by refine (show Calls Tryz.prog 9 #[.int .u64 (X:Int)] W _ from by rw [e0];exact fromR_ n0 m0 c0 W).mono ?_;rintro e w' ⟨s3,p3,l3,c3,q3,k3,d3,rfl,hp,g3⟩;exact ⟨s3,p3,l3,c3,q3,k3,d3,rfl,(hp.xp K hK).mono (Nat.zero_le _),g3⟩) (fun W g=>by refine (show Calls Tryz.prog 9 #[.int .u64 (Y:Int)] W _ from by rw [e1];exact fromR_ n1 m1 c1 W).mono ?_;rintro e w' ⟨s3,p3,l3,c3,q3,k3,d3,rfl,hp,g3⟩;exact ⟨s3,p3,l3,c3,q3,k3,d3,rfl,(hp.xp K hK).mono (Nat.zero_le _),g3⟩) (fun W g=>by refine (show Calls Tryz.prog 9 #[.int .u64 (Z:Int)] W _ from by rw [e2];exact fromR_ n2 m2 c2 W).mono ?_;rintro e w' ⟨s3,p3,l3,c3,q3,k3,d3,rfl,hp,g3⟩;exact ⟨s3,p3,l3,c3,q3,k3,d3,rfl,(hp.xp K hK).mono (Nat.zero_le _),g3⟩) (cmI (Iv n1 m1) 0) (fun W sb pb lb cb qb kb db g hp=>xsign_ sb pb lb cb qb kb db (Iv n1 m1) (2 ^ K) 1500 (by decide) 0 W hp) li9 (Fq.wD n0 m0) (Fq.wD n1 m1) (Fq.wD n2 m2) (fun op d=>((zc (oX K op d n0 m0 n1 m1 n2 m2):Nat):Int)) (fun X Y=>X = ((Y:Nat):Int)) (PQ9 K (fun op d=>((zc (oX K op d n0 m0 n1 m1 n2 m2):Nat):Int))) p0 p1 p2 fl9 (fun op d h5 d1 d2 W g=>askX_ K hK op d h5 n0 n1 n2 m0 m1 m2 h0 h1 h2 (by omega) (by omega) W (Tab.grown hT g) (Fq.Tab.grown hQ g)) ?_ ?_
        · intro op o1 o2 h3 W sa pa la ca qa ka da sb pb lb cb qb kb db sc pc lc cc qc kc dc g pa9 pb9 pc9
          have ho:op = 0∨op = 1∨op = 2∨op = 3∨op = 4:=by omega
          rcases ho with ho | ho | ho | ho | ho
          · subst ho
            exact exL0_ K n0 n1 n2 m0 m1 m2 c0 c1 c2 W sa pa la ca qa ka da sb pb lb cb qb kb db sc pc lc cc qc kc dc pa9 pb9 pc9
          · subst ho
            exact exL1_ K n0 n1 n2 m0 m1 m2 c0 c1 c2 W sa pa la ca qa ka da sb pb lb cb qb kb db sc pc lc cc qc kc dc pa9 pb9 pc9
          · subst ho
            exact exL2_ K n0 n1 n2 m0 m1 m2 c0 c1 c2 W sa pa la ca qa ka da sb pb lb cb qb kb db sc pc lc cc qc kc dc pa9 pb9 pc9
          · subst ho
            exact exL3_ K n0 n1 n2 m0 m1 m2 c0 c1 c2 (fun z=>h3 rfl (by rw [z];simp [Iv,Fq.vV_zero,cmI])) W sa pa la ca qa ka da sb pb lb cb qb kb db sc pc lc cc qc kc dc pa9 pb9 pc9
          · subst ho
            exact exL4_ K n0 n1 n2 m0 m1 m2 c0 c1 c2 W sa pa la ca qa ka da sb pb lb cb qb kb db sc pc lc cc qc kc dc pa9 pb9 pc9
        · intro op o1 o2 h3 W s3 p3 l3 c3 q3 k3 d3 g hq
          obtain ⟨s4,p4,l4,c4,q4,k4,d4,A9,B9,lo,hi,ne,e4,hp,hB,hts,t1,t2,t3⟩:=hq
          simp at e4
          obtain ⟨rfl,⟨rfl,rfl,rfl⟩,rfl,rfl,rfl⟩:=e4
          dsimp only at t1 t2 t3
          rw [t1,t2,t3]
          exact tightX_ K hK A9 B9 20000 hB (by decide) lo hi ne hts s3 p3 l3 c3 q3 k3 d3 W hp
      · exact lawB2_ (X:Int) (Y:Int) (Z:Int) w (fun W=>by have g:=fin_ n0 m0 h0 W;rw [decide_eq_true c0,← e0] at g;exact g) (fun W=>by have g:=fin_ n1 m1 h1 W;rw [decide_eq_true c1,← e1] at g;exact g) (fun W=>by have g:=fin_ n2 m2 h2 W;rw [decide_eq_false c2,← e2] at g;exact g) li9 (Fq.wD n0 m0) (Fq.wD n1 m1) ((zc (oA 1 n0 m0 n1 m1):Nat):Int) (fun X Y=>X = ((Y:Nat):Int)) p0 p1 fl9 PA q1 q2 ad9
    · exact lawB1_ (X:Int) (Y:Int) (Z:Int) w (fun W=>by have g:=fin_ n0 m0 h0 W;rw [decide_eq_true c0,← e0] at g;exact g) (fun W=>by have g:=fin_ n1 m1 h1 W;rw [decide_eq_false c1,← e1] at g;exact g) li9 (Fq.wD n0 m0) (Fq.wD n1 m1) ((zc (oA 1 n0 m0 n1 m1):Nat):Int) (fun X Y=>X = ((Y:Nat):Int)) p0 p1 fl9 PA q1 q2 ad9
  · exact lawB0_ (X:Int) (Y:Int) (Z:Int) w (fun W=>by have g:=fin_ n0 m0 h0 W;rw [decide_eq_false c0,← e0] at g;exact g) li9 (Fq.wD n0 m0) (Fq.wD n1 m1) ((zc (oA 1 n0 m0 n1 m1):Nat):Int) (fun X Y=>X = ((Y:Nat):Int)) p0 p1 fl9 PA q1 q2 ad9
end Go.Proofs.YtoibnopiinclaaaGreatDoor
