import Derived.Test.YtnileplkkmhdgaaGreatDoorKEX
import Derived.Test.YtnileplkkmhdgaaGreatDoorKU4
import Derived.Deep.CutRange
set_option maxHeartbeats 4000000
set_option maxRecDepth 20000
namespace Go.Proofs.YtnileplkkmhdgaaGreatDoor
open Go.RowKit
set_option linter.unusedVariables false
set_option linter.unusedSimpArgs false
theorem if_no {c:Bool} {p q:Prop} (h:c = false) (hq:q):if c = true then p else q:=by subst h;exact hq
theorem exL {P:Program} {ρ:Operand→Value} {op:Oper} {t:TypeId} {x:Operand} {w:World} {v:Value} (ho:op.op = .load t x) (p:Value) (hx:ρ x = p) (hr:(Instr.loadAt t p).run P w = .ok v w):(execOp ρ op).run P w = .ok (.value v) w:=by
  unfold execOp
  simp only [ho,hx,Sem.run_bind,Sem.run_pure,Result.andThen_ok,hr]
theorem load43 (w:World) (B0:Nat) s p l c q k d (c0:w.cell? ⟨B0,0,none⟩ = some (.bool s)) (c1:w.cell? ⟨B0,1,none⟩ = some (.slice p l c)) (c2:w.cell? ⟨B0,2,none⟩ = some (.slice q k d)):(Instr.loadAt 27 (.pointer (some ⟨B0,0,none⟩))).run Tryz.prog w = .ok (.agg #[.bool s,.slice p l c,.slice q k d]) w:=by
  simp only [Instr.loadAt,Instr.sureAddr,Sem.run_bind,Sem.run_pure,Result.andThen]
  exact run_loadVar_mid (P:=Tryz.prog) w B0 0 27 [.bool s,.slice p l c,.slice q k d] _ (fun j v hv=>by
    match j,hv with
    | 0,hv=>simp at hv;rw [← hv];exact c0
    | 1,hv=>simp at hv;rw [← hv];exact c1
    | 2,hv=>simp at hv;rw [← hv];exact c2
    | n + 3,hv=>simp at hv) Tryz.underlying27 rfl (by kernel_rfl)
theorem loadI (w:World) (b o:Nat) (x0 x1:Value) (e0:w.cell? ⟨b,o,none⟩ = some x0) (e1:w.cell? ⟨b,o + 1,none⟩ = some x1):(loadVar 24 ⟨b,o,none⟩).run Tryz.prog w = .ok (.agg #[x0,x1]) w :=
  run_loadVar_mid (P:=Tryz.prog) w b o 24 [x0,x1] _ (fun j v hv=>by
  match j,hv with
  | 0,hv=>simp at hv;rw [← hv];exact e0
  | 1,hv=>simp at hv;rw [← hv];exact e1
  | n + 2,hv=>simp at hv) Tryz.underlying24 rfl (by kernel_rfl)
theorem loadIa (w:World) (b o:Nat) (x0 x1:Value) (e0:w.cell? ⟨b,o,none⟩ = some x0) (e1:w.cell? ⟨b,o + 1,none⟩ = some x1):(Instr.loadAt 24 (.pointer (some ⟨b,o,none⟩))).run Tryz.prog w = .ok (.agg #[x0,x1]) w:=by
  simp only [Instr.loadAt,Instr.sureAddr,Sem.run_bind,Sem.run_pure,Result.andThen]
  exact loadI w b o x0 x1 e0 e1
theorem rootN_ (x0 x1:Int) s p l c q k d (w:World) (hawk:∀ W:World,Kp w W→Calls Tryz.prog 5 #[] W fun e w'=>e = .returned (.bool true)∧Kp W w') (hrat:∀ W:World,Kp w W→Calls Tryz.prog 6 #[.agg #[.bool s,.slice p l c,.slice q k d]] W fun e w'=>∃ s5 p5 l5 c5 q5 k5 d5,e = .returned (.tuple #[.agg #[.bool s5,.slice p5 l5 c5,.slice q5 k5 d5],.bool false])∧Kp W w'):Calls Tryz.prog 4 #[.agg #[.int .u64 x0,.int .u64 x1,.bool s,.slice p l c,.slice q k d]] w fun e w'=>e = .returned (.bool true)∧Kp w w':=by
  go_enter Tryz.func4,Tryz.ntmps4
  go_upto_region 1 with fail
  have kw:Kp w (w.alloc (.cells #[.int .u64 x0,.int .u64 x1,.bool s,.slice p l c,.slice q k d] 48)):=(Kp.refl w).alloc _
  have hA:BK (w.alloc (.cells #[.int .u64 x0,.int .u64 x1,.bool s,.slice p l c,.slice q k d] 48)) w.heap.size #[.int .u64 x0,.int .u64 x1,.bool s,.slice p l c,.slice q k d] 48:=BK.new w _ _
  generalize (w.alloc (.cells #[.int .u64 x0,.int .u64 x1,.bool s,.slice p l c,.slice q k d] 48)) = W at kw hA ⊢
  go_wp2_with (first | (have z9:=k1;clear z9;go_at_call 6;refine (hrat _ k1).mono ?_;rintro e w2 ⟨s5,p5,l5,c5,q5,k5,d5,rfl,g2⟩;have k2:Kp w w2:=Kp.trans k1 g2) | (go_at_call 5;refine (hawk _ kw).mono ?_;rintro e w1 ⟨rfl,g1⟩;have k1:Kp w w1:=Kp.trans kw g1;have hA1:=hA.kp g1;obtain ⟨a0,az0,a1,az1,a2,az2,a3,az3,a4,az4⟩:=(show BK w1 (w.heap.size) #[.int .u64 x0,.int .u64 x1,.bool s,.slice p l c,.slice q k d] _ from hA1).c5;skip))
  exact bodyPost_ret (v:=.bool true) (by simp [results,Tryz.results4,go_sem]) rfl ⟨rfl,(k2.alloc _)⟩
theorem rootF_ (x0 x1 R1 R2 S9:Int) (A1 A2 Q1 Q2:Nat) (VV:Int) (CC M9:Nat) s p l c q k d (w:World) (hawk:∀ W:World,Kp w W→Calls Tryz.prog 5 #[] W fun e w'=>e = .returned (.bool true)∧Kp W w') (N9:Nat) (hrat:∀ W:World,Kp w W→Calls Tryz.prog 6 #[.agg #[.bool s,.slice p l c,.slice q k d]] W fun e w'=>∃ (s5:Bool) (p5:Option Addr) (l5 c5:Nat) (q5:Option Addr) (k5 d5:Nat) (V5:Int) (C5:Nat),e = .returned (.tuple #[.agg #[.bool s5,.slice p5 l5 c5,.slice q5 k5 d5],.bool true])∧(XP 0 w' s5 p5 l5 c5 q5 k5 d5 V5 C5 N9∧V5 = VV∧C5 = CC)∧Kp W w') (hin:∀ W:World,Calls Tryz.prog 8 #[.agg #[.int .u64 x0,.int .u64 x1]] W fun e w'=>e = .returned (.agg #[.float .f64 A1,.float .f64 A2])∧Kp W w') (hsq:∀ W:World,Kp w W→Calls Tryz.prog 24 #[.agg #[.float .f64 A1,.float .f64 A2]] W fun e w'=>e = .returned (.agg #[.float .f64 Q1,.float .f64 Q2])∧Kp W w') (hou:∀ W:World,Calls Tryz.prog 9 #[.agg #[.float .f64 Q1,.float .f64 Q2]] W fun e w'=>e = .returned (.agg #[.int .u64 R1,.int .u64 R2])∧Kp W w') (hsg:∀ (W:World) s5 p5 l5 c5 q5 k5 d5,XP 0 W s5 p5 l5 c5 q5 k5 d5 VV CC N9→Calls Tryz.prog 19 #[.agg #[.bool s5,.slice p5 l5 c5,.slice q5 k5 d5]] W fun e w'=>e = .returned (.int .i64 S9)∧Kp W w') (tS:S9 < 0) (hh3:∀ (W:World) s5 p5 l5 c5 q5 k5 d5,XP 0 W s5 p5 l5 c5 q5 k5 d5 (VV) (CC) (N9)→Calls Tryz.prog 7 #[.agg #[.int .u64 R1,.int .u64 R2],.agg #[.bool s5,.slice p5 l5 c5,.slice q5 k5 d5]] W fun e w'=>e = .returned (.bool false)∧Kp W w'):Calls Tryz.prog 4 #[.agg #[.int .u64 x0,.int .u64 x1,.bool s,.slice p l c,.slice q k d]] w fun e w'=>e = .returned (.bool true)∧Kp w w':=by
  go_enter Tryz.func4,Tryz.ntmps4
  go_upto_region 1 with fail
  have kw:Kp w (w.alloc (.cells #[.int .u64 x0,.int .u64 x1,.bool s,.slice p l c,.slice q k d] 48)):=(Kp.refl w).alloc _
  have hA:BK (w.alloc (.cells #[.int .u64 x0,.int .u64 x1,.bool s,.slice p l c,.slice q k d] 48)) w.heap.size #[.int .u64 x0,.int .u64 x1,.bool s,.slice p l c,.slice q k d] 48:=BK.new w _ _
  generalize (w.alloc (.cells #[.int .u64 x0,.int .u64 x1,.bool s,.slice p l c,.slice q k d] 48)) = W at kw hA ⊢
  go_upto_region 4 with (first | (have z9:=k1;clear z9;go_at_call 6;refine (hrat _ k1).mono ?_;rintro e w2 ⟨s5,p5,l5,c5,q5,k5,d5,V5,C5,rfl,hp,g2⟩;have k2:Kp w w2:=Kp.trans k1 g2) | (go_at_call 5;refine (hawk _ kw).mono ?_;rintro e w1 ⟨rfl,g1⟩;have k1:Kp w w1:=Kp.trans kw g1;have hA1:=hA.kp g1;obtain ⟨a0,az0,a1,az1,a2,az2,a3,az3,a4,az4⟩:=(show BK w1 (w.heap.size) #[.int .u64 x0,.int .u64 x1,.bool s,.slice p l c,.slice q k d] _ from hA1).c5;skip))
  obtain ⟨hp,rfl,rfl⟩:=hp
  have kw3:Kp w (w2.alloc (.cells #[.bool s5,.slice p5 l5 c5,.slice q5 k5 d5] 27)):=k2.alloc _
  have hA3:BK (w2.alloc (.cells #[.bool s5,.slice p5 l5 c5,.slice q5 k5 d5] 27)) w.heap.size #[.int .u64 x0,.int .u64 x1,.bool s,.slice p l c,.slice q k d] 48:=(hA1.kp g2).kp ((Kp.refl _).alloc _)
  have hR3:BK (w2.alloc (.cells #[.bool s5,.slice p5 l5 c5,.slice q5 k5 d5] 27)) w2.heap.size #[.bool s5,.slice p5 l5 c5,.slice q5 k5 d5] 27:=BK.new _ _ _
  have hp3:XP 0 (w2.alloc (.cells #[.bool s5,.slice p5 l5 c5,.slice q5 k5 d5] 27)) s5 p5 l5 c5 q5 k5 d5 V5 C5 N9:=hp.kp ((Kp.refl _).alloc _)
  clear hp g2 k2 hA1 g1 k1 hA kw a0 a1 a2 a3 a4 az0 az1 az2 az3 az4
  generalize (w2.alloc (.cells #[.bool s5,.slice p5 l5 c5,.slice q5 k5 d5] 27)) = W3 at kw3 hA3 hR3 hp3 ⊢
  generalize w2.heap.size = rb at hR3 ⊢
  obtain ⟨a0,az0,a1,az1,a2,az2,a3,az3,a4,az4⟩:=(show BK W3 (w.heap.size) #[.int .u64 x0,.int .u64 x1,.bool s,.slice p l c,.slice q k d] _ from hA3).c5;skip
  go_upto_region 7 with (first | (go_at_call 9;refine (hou _).mono ?_;rintro e w5 ⟨rfl,g5⟩) | (go_at_call 24;refine (hsq _ (Kp.trans kw3 g3)).mono ?_;rintro e w4 ⟨rfl,g4⟩) | (go_at_call 8;refine (hin _).mono ?_;rintro e w3 ⟨rfl,g3⟩))
  have kx:Kp W3 (w5.alloc (.cells #[.int .u64 R1,.int .u64 R2] 24)):=(Kp.trans (Kp.trans g3 g4) g5).alloc _
  have hO:BK (w5.alloc (.cells #[.int .u64 R1,.int .u64 R2] 24)) w5.heap.size #[.int .u64 R1,.int .u64 R2] 24:=BK.new _ _ _
  have hA6:=hA3.kp kx
  have hR6:=hR3.kp kx
  have hp6:=hp3.kp kx
  have kw6:=Kp.trans kw3 kx
  clear g3 g4 g5 kx hA3 hR3 hp3 kw3 a0 a1 a2 a3 a4 az0 az1 az2 az3 az4
  generalize (w5.alloc (.cells #[.int .u64 R1,.int .u64 R2] 24)) = W6 at hO hA6 hR6 hp6 kw6 ⊢
  generalize w5.heap.size = ob at hO ⊢
  obtain ⟨a0,az0,a1,az1,a2,az2,a3,az3,a4,az4⟩:=(show BK W6 (w.heap.size) #[.int .u64 x0,.int .u64 x1,.bool s,.slice p l c,.slice q k d] _ from hA6).c5;obtain ⟨v0,vz0,v1,vz1,v2,vz2⟩:=(show BK W6 (rb) #[.bool s5,.slice p5 l5 c5,.slice q5 k5 d5] _ from hR6).c3;obtain ⟨r0,rz0,r1,rz1⟩:=(show BK W6 (ob) #[.int .u64 R1,.int .u64 R2] _ from hO).c2;skip
  go_wp2_with (first | (go_at_call 7;refine (hh3 _ s5 p5 l5 c5 q5 k5 d5 hp7).mono ?_;rintro e w8 ⟨rfl,g8⟩) | (go_at_call 19;refine (hsg _ s5 p5 l5 c5 q5 k5 d5 hp6).mono ?_;rintro e w7 ⟨rfl,g7⟩;have k7:=Kp.trans kw6 g7;have hR7:=hR6.kp g7;have hO7:=hO.kp g7;have hp7:=hp6.kp g7;obtain ⟨y0,yz0,y1,yz1,y2,yz2⟩:=(show BK w7 (rb) #[.bool s5,.slice p5 l5 c5,.slice q5 k5 d5] _ from hR7).c3;obtain ⟨t0,tz0,t1,tz1⟩:=(show BK w7 (ob) #[.int .u64 R1,.int .u64 R2] _ from hO7).c2;skip))
  exact bodyPost_ret (v:=.bool true) (by simp [results,Tryz.results4,go_sem]) rfl ⟨rfl,(Kp.trans k7 g8)⟩
theorem rootT_ (x0 x1 R1 R2 S9:Int) (A1 A2 Q1 Q2:Nat) (VV:Int) (CC M9:Nat) s p l c q k d (w:World) (hawk:∀ W:World,Kp w W→Calls Tryz.prog 5 #[] W fun e w'=>e = .returned (.bool true)∧Kp W w') (N9:Nat) (hrat:∀ W:World,Kp w W→Calls Tryz.prog 6 #[.agg #[.bool s,.slice p l c,.slice q k d]] W fun e w'=>∃ (s5:Bool) (p5:Option Addr) (l5 c5:Nat) (q5:Option Addr) (k5 d5:Nat) (V5:Int) (C5:Nat),e = .returned (.tuple #[.agg #[.bool s5,.slice p5 l5 c5,.slice q5 k5 d5],.bool true])∧(XP 0 w' s5 p5 l5 c5 q5 k5 d5 V5 C5 N9∧V5 = VV∧C5 = CC)∧Kp W w') (hin:∀ W:World,Calls Tryz.prog 8 #[.agg #[.int .u64 x0,.int .u64 x1]] W fun e w'=>e = .returned (.agg #[.float .f64 A1,.float .f64 A2])∧Kp W w') (hsq:∀ W:World,Kp w W→Calls Tryz.prog 24 #[.agg #[.float .f64 A1,.float .f64 A2]] W fun e w'=>e = .returned (.agg #[.float .f64 Q1,.float .f64 Q2])∧Kp W w') (hou:∀ W:World,Calls Tryz.prog 9 #[.agg #[.float .f64 Q1,.float .f64 Q2]] W fun e w'=>e = .returned (.agg #[.int .u64 R1,.int .u64 R2])∧Kp W w') (hsg:∀ (W:World) s5 p5 l5 c5 q5 k5 d5,XP 0 W s5 p5 l5 c5 q5 k5 d5 VV CC N9→Calls Tryz.prog 19 #[.agg #[.bool s5,.slice p5 l5 c5,.slice q5 k5 d5]] W fun e w'=>e = .returned (.int .i64 S9)∧Kp W w') (tS:¬ S9 < 0) (hmu:∀ (W:World) s5 p5 l5 c5 q5 k5 d5,XP 0 W s5 p5 l5 c5 q5 k5 d5 VV CC N9→Calls Tryz.prog 14 #[.agg #[.bool s5,.slice p5 l5 c5,.slice q5 k5 d5],.agg #[.bool s5,.slice p5 l5 c5,.slice q5 k5 d5]] W fun e w'=>∃ s6 p6 l6 c6 q6 k6 d6,e = .returned (.agg #[.bool s6,.slice p6 l6 c6,.slice q6 k6 d6])∧XP 0 w' s6 p6 l6 c6 q6 k6 d6 (VV * VV) (CC * CC) M9∧Kp W w') (hh2:∀ (W:World) s5 p5 l5 c5 q5 k5 d5,XP 0 W s5 p5 l5 c5 q5 k5 d5 (VV * VV) (CC * CC) (M9)→Calls Tryz.prog 7 #[.agg #[.int .u64 x0,.int .u64 x1],.agg #[.bool s5,.slice p5 l5 c5,.slice q5 k5 d5]] W fun e w'=>e = .returned (.bool true)∧Kp W w') (hh3:∀ (W:World) s5 p5 l5 c5 q5 k5 d5,XP 0 W s5 p5 l5 c5 q5 k5 d5 (VV) (CC) (N9)→Calls Tryz.prog 7 #[.agg #[.int .u64 R1,.int .u64 R2],.agg #[.bool s5,.slice p5 l5 c5,.slice q5 k5 d5]] W fun e w'=>e = .returned (.bool true)∧Kp W w'):Calls Tryz.prog 4 #[.agg #[.int .u64 x0,.int .u64 x1,.bool s,.slice p l c,.slice q k d]] w fun e w'=>e = .returned (.bool true)∧Kp w w':=by
  go_enter Tryz.func4,Tryz.ntmps4
  go_upto_region 1 with fail
  have kw:Kp w (w.alloc (.cells #[.int .u64 x0,.int .u64 x1,.bool s,.slice p l c,.slice q k d] 48)):=(Kp.refl w).alloc _
  have hA:BK (w.alloc (.cells #[.int .u64 x0,.int .u64 x1,.bool s,.slice p l c,.slice q k d] 48)) w.heap.size #[.int .u64 x0,.int .u64 x1,.bool s,.slice p l c,.slice q k d] 48:=BK.new w _ _
  generalize (w.alloc (.cells #[.int .u64 x0,.int .u64 x1,.bool s,.slice p l c,.slice q k d] 48)) = W at kw hA ⊢
  go_upto_region 4 with (first | (have z9:=k1;clear z9;go_at_call 6;refine (hrat _ k1).mono ?_;rintro e w2 ⟨s5,p5,l5,c5,q5,k5,d5,V5,C5,rfl,hp,g2⟩;have k2:Kp w w2:=Kp.trans k1 g2) | (go_at_call 5;refine (hawk _ kw).mono ?_;rintro e w1 ⟨rfl,g1⟩;have k1:Kp w w1:=Kp.trans kw g1;have hA1:=hA.kp g1;obtain ⟨a0,az0,a1,az1,a2,az2,a3,az3,a4,az4⟩:=(show BK w1 (w.heap.size) #[.int .u64 x0,.int .u64 x1,.bool s,.slice p l c,.slice q k d] _ from hA1).c5;skip))
  obtain ⟨hp,rfl,rfl⟩:=hp
  have kw3:Kp w (w2.alloc (.cells #[.bool s5,.slice p5 l5 c5,.slice q5 k5 d5] 27)):=k2.alloc _
  have hA3:BK (w2.alloc (.cells #[.bool s5,.slice p5 l5 c5,.slice q5 k5 d5] 27)) w.heap.size #[.int .u64 x0,.int .u64 x1,.bool s,.slice p l c,.slice q k d] 48:=(hA1.kp g2).kp ((Kp.refl _).alloc _)
  have hR3:BK (w2.alloc (.cells #[.bool s5,.slice p5 l5 c5,.slice q5 k5 d5] 27)) w2.heap.size #[.bool s5,.slice p5 l5 c5,.slice q5 k5 d5] 27:=BK.new _ _ _
  have hp3:XP 0 (w2.alloc (.cells #[.bool s5,.slice p5 l5 c5,.slice q5 k5 d5] 27)) s5 p5 l5 c5 q5 k5 d5 V5 C5 N9:=hp.kp ((Kp.refl _).alloc _)
  clear hp g2 k2 hA1 g1 k1 hA kw a0 a1 a2 a3 a4 az0 az1 az2 az3 az4
  generalize (w2.alloc (.cells #[.bool s5,.slice p5 l5 c5,.slice q5 k5 d5] 27)) = W3 at kw3 hA3 hR3 hp3 ⊢
  generalize w2.heap.size = rb at hR3 ⊢
  obtain ⟨a0,az0,a1,az1,a2,az2,a3,az3,a4,az4⟩:=(show BK W3 (w.heap.size) #[.int .u64 x0,.int .u64 x1,.bool s,.slice p l c,.slice q k d] _ from hA3).c5;skip
  go_upto_region 7 with (first | (go_at_call 9;refine (hou _).mono ?_;rintro e w5 ⟨rfl,g5⟩) | (go_at_call 24;refine (hsq _ (Kp.trans kw3 g3)).mono ?_;rintro e w4 ⟨rfl,g4⟩) | (go_at_call 8;refine (hin _).mono ?_;rintro e w3 ⟨rfl,g3⟩))
  have kx:Kp W3 (w5.alloc (.cells #[.int .u64 R1,.int .u64 R2] 24)):=(Kp.trans (Kp.trans g3 g4) g5).alloc _
  have hO:BK (w5.alloc (.cells #[.int .u64 R1,.int .u64 R2] 24)) w5.heap.size #[.int .u64 R1,.int .u64 R2] 24:=BK.new _ _ _
  have hA6:=hA3.kp kx
  have hR6:=hR3.kp kx
  have hp6:=hp3.kp kx
  have kw6:=Kp.trans kw3 kx
  clear g3 g4 g5 kx hA3 hR3 hp3 kw3 a0 a1 a2 a3 a4 az0 az1 az2 az3 az4
  generalize (w5.alloc (.cells #[.int .u64 R1,.int .u64 R2] 24)) = W6 at hO hA6 hR6 hp6 kw6 ⊢
  generalize w5.heap.size = ob at hO ⊢
  obtain ⟨a0,az0,a1,az1,a2,az2,a3,az3,a4,az4⟩:=(show BK W6 (w.heap.size) #[.int .u64 x0,.int .u64 x1,.bool s,.slice p l c,.slice q k d] _ from hA6).c5;obtain ⟨v0,vz0,v1,vz1,v2,vz2⟩:=(show BK W6 (rb) #[.bool s5,.slice p5 l5 c5,.slice q5 k5 d5] _ from hR6).c3;obtain ⟨r0,rz0,r1,rz1⟩:=(show BK W6 (ob) #[.int .u64 R1,.int .u64 R2] _ from hO).c2;skip
  go_upto_region 9 with (first | (go_at_call 19;refine (hsg _ s5 p5 l5 c5 q5 k5 d5 hp6).mono ?_;rintro e w7 ⟨rfl,g7⟩;have k7:=Kp.trans kw6 g7;have hR7:=hR6.kp g7;have hO7:=hO.kp g7;have hp7:=hp6.kp g7;obtain ⟨y0,yz0,y1,yz1,y2,yz2⟩:=(show BK w7 (rb) #[.bool s5,.slice p5 l5 c5,.slice q5 k5 d5] _ from hR7).c3;obtain ⟨t0,tz0,t1,tz1⟩:=(show BK w7 (ob) #[.int .u64 R1,.int .u64 R2] _ from hO7).c2;skip))
  have hA7:=hA6.kp g7
  clear a0 a1 a2 a3 a4 az0 az1 az2 az3 az4 v0 v1 v2 vz0 vz1 vz2 r0 r1 rz0 rz1 y0 y1 y2 yz0 yz1 yz2 t0 t1 tz0 tz1 hR6 hO hA6 hp6
  generalize w7 = W7 at k7 hA7 hR7 hO7 hp7 ⊢
  obtain ⟨a0,az0,a1,az1,a2,az2,a3,az3,a4,az4⟩:=(show BK W7 (w.heap.size) #[.int .u64 x0,.int .u64 x1,.bool s,.slice p l c,.slice q k d] _ from hA7).c5;obtain ⟨v0,vz0,v1,vz1,v2,vz2⟩:=(show BK W7 (rb) #[.bool s5,.slice p5 l5 c5,.slice q5 k5 d5] _ from hR7).c3;obtain ⟨r0,rz0,r1,rz1⟩:=(show BK W7 (ob) #[.int .u64 R1,.int .u64 R2] _ from hO7).c2;skip
  have jd:Kp W7 W7.drew:=(Kp.refl _).drew
  refine wp_region_held_drew (S:=(fun w':World=>w'.cell? ⟨w.heap.size,0,none⟩ = some (.int .u64 x0)∧w'.cell? ⟨w.heap.size,1,none⟩ = some (.int .u64 x1)∧w'.cell? ⟨rb,0,none⟩ = some (.bool s5)∧w'.cell? ⟨rb,1,none⟩ = some (.slice p5 l5 c5)∧w'.cell? ⟨rb,2,none⟩ = some (.slice q5 k5 d5)∧w'.cell? ⟨ob,0,none⟩ = some (.int .u64 R1)∧w'.cell? ⟨ob,1,none⟩ = some (.int .u64 R2))) (by kernel_rfl) ⟨kkeep jd a0,kkeep jd a1,kkeep jd v0,kkeep jd v1,kkeep jd v2,kkeep jd r0,kkeep jd r1⟩ (fun _=>?_)
  refine wpAnyH_take (i:=0) (v:=.pointer (some ⟨w.heap.size,0,none⟩)) rfl (by kernel_rfl) (by kernel_rfl) (by kernel_rfl) (fun _ _ _ h=>h) (Or.inl ⟨by rfl,fun w _hS=>rfl⟩) ⟨kkeep jd a0,kkeep jd a1,kkeep jd v0,kkeep jd v1,kkeep jd v2,kkeep jd r0,kkeep jd r1⟩ ?_
  try simp only [Act.put,List.getElem_toArray,List.getElem_cons_zero,List.getElem_cons_succ,List.setIfInBounds_toArray,List.set_cons_zero,List.set_cons_succ]
  refine wpAnyH_take (i:=1) (v:=.agg #[.int .u64 x0,.int .u64 x1]) rfl (by kernel_rfl) (by kernel_rfl) (by kernel_rfl) (fun _ _ _ h=>h) (Or.inl ⟨by rfl,fun w _hS=>exL rfl _ rfl (loadIa _ _ 0 _ _ _hS.1 _hS.2.1)⟩) ⟨kkeep jd a0,kkeep jd a1,kkeep jd v0,kkeep jd v1,kkeep jd v2,kkeep jd r0,kkeep jd r1⟩ ?_
  try simp only [Act.put,List.getElem_toArray,List.getElem_cons_zero,List.getElem_cons_succ,List.setIfInBounds_toArray,List.set_cons_zero,List.set_cons_succ]
  refine wpAnyH_take (i:=2) (v:=.agg #[.bool s5,.slice p5 l5 c5,.slice q5 k5 d5]) rfl (by kernel_rfl) (by kernel_rfl) (by kernel_rfl) (fun _ _ _ h=>h) (Or.inl ⟨by rfl,fun w _hS=>exL rfl _ rfl (load43 _ _ s5 p5 l5 c5 q5 k5 d5 _hS.2.2.1 _hS.2.2.2.1 _hS.2.2.2.2.1)⟩) ⟨kkeep jd a0,kkeep jd a1,kkeep jd v0,kkeep jd v1,kkeep jd v2,kkeep jd r0,kkeep jd r1⟩ ?_
  try simp only [Act.put,List.getElem_toArray,List.getElem_cons_zero,List.getElem_cons_succ,List.setIfInBounds_toArray,List.set_cons_zero,List.set_cons_succ]
  refine wpAnyH_take (i:=3) (v:=.agg #[.bool s5,.slice p5 l5 c5,.slice q5 k5 d5]) rfl (by kernel_rfl) (by kernel_rfl) (by kernel_rfl) (fun _ _ _ h=>h) (Or.inl ⟨by rfl,fun w _hS=>exL rfl _ rfl (load43 _ _ s5 p5 l5 c5 q5 k5 d5 _hS.2.2.1 _hS.2.2.2.1 _hS.2.2.2.2.1)⟩) ⟨kkeep jd a0,kkeep jd a1,kkeep jd v0,kkeep jd v1,kkeep jd v2,kkeep jd r0,kkeep jd r1⟩ ?_
  try simp only [Act.put,List.getElem_toArray,List.getElem_cons_zero,List.getElem_cons_succ,List.setIfInBounds_toArray,List.set_cons_zero,List.set_cons_succ]
  refine wpAnyH_ready (rs:=[4]) (by kernel_rfl) (by simp) ?_
  refine AllReadyH.cons rfl (fun K hK=>?_) AllReadyH.nil
  go_simp
  refine (hmu _ s5 p5 l5 c5 q5 k5 d5 (hp7.kp jd)).mono ?_
  rintro e Wa ⟨s6,p6,l6,c6,q6,k6,d6,rfl,hm,ga⟩
  have ja:=jd.trans ga
  go_wp2_with fail
  refine hK.out _ _ ⟨kkeep ja a0,kkeep ja a1,kkeep ja v0,kkeep ja v1,kkeep ja v2,kkeep ja r0,kkeep ja r1⟩ (fun _=>?_)
  clear hK K
  try simp only [Act.put,List.getElem_toArray,List.getElem_cons_zero,List.getElem_cons_succ,List.setIfInBounds_toArray,List.set_cons_zero,List.set_cons_succ]
  refine wpAnyH_ready (rs:=[5]) (by kernel_rfl) (by simp) ?_
  refine AllReadyH.cons rfl (fun K hK=>?_) AllReadyH.nil
  go_simp
  refine (hh2 _ s6 p6 l6 c6 q6 k6 d6 hm).mono ?_
  rintro e Wb ⟨rfl,gb⟩
  have jb:=ja.trans gb
  go_wp2_with fail
  refine hK.out _ _ ⟨kkeep jb a0,kkeep jb a1,kkeep jb v0,kkeep jb v1,kkeep jb v2,kkeep jb r0,kkeep jb r1⟩ (fun _=>?_)
  clear hK K
  try simp only [Act.put,List.getElem_toArray,List.getElem_cons_zero,List.getElem_cons_succ,List.setIfInBounds_toArray,List.set_cons_zero,List.set_cons_succ]
  refine wpAnyH_take (i:=6) (v:=.bool false) rfl (by kernel_rfl) (by kernel_rfl) (by kernel_rfl) (fun _ _ _ h=>h) (Or.inl ⟨by rfl,fun w _hS=>by simp [go_sem]⟩) ⟨kkeep jb a0,kkeep jb a1,kkeep jb v0,kkeep jb v1,kkeep jb v2,kkeep jb r0,kkeep jb r1⟩ ?_
  try simp only [Act.put,List.getElem_toArray,List.getElem_cons_zero,List.getElem_cons_succ,List.setIfInBounds_toArray,List.set_cons_zero,List.set_cons_succ]
  refine wpAnyH_take (i:=7) (v:=.bool false) rfl (by kernel_rfl) (by kernel_rfl) (by kernel_rfl) (fun _ _ _ h=>h) (Or.inl ⟨by rfl,fun w _hS=>rfl⟩) ⟨kkeep jb a0,kkeep jb a1,kkeep jb v0,kkeep jb v1,kkeep jb v2,kkeep jb r0,kkeep jb r1⟩ ?_
  try simp only [Act.put,List.getElem_toArray,List.getElem_cons_zero,List.getElem_cons_succ,List.setIfInBounds_toArray,List.set_cons_zero,List.set_cons_succ]
  refine wpAnyH_take (i:=8) (v:=.agg #[.int .u64 R1,.int .u64 R2]) rfl (by kernel_rfl) (by kernel_rfl) (by kernel_rfl) (fun _ _ _ h=>h) (Or.inl ⟨by rfl,fun w _hS=>exL rfl _ rfl (loadIa _ _ 0 _ _ _hS.2.2.2.2.2.1 _hS.2.2.2.2.2.2)⟩) ⟨kkeep jb a0,kkeep jb a1,kkeep jb v0,kkeep jb v1,kkeep jb v2,kkeep jb r0,kkeep jb r1⟩ ?_
  try simp only [Act.put,List.getElem_toArray,List.getElem_cons_zero,List.getElem_cons_succ,List.setIfInBounds_toArray,List.set_cons_zero,List.set_cons_succ]
  refine wpAnyH_take (i:=9) (v:=.agg #[.bool s5,.slice p5 l5 c5,.slice q5 k5 d5]) rfl (by kernel_rfl) (by kernel_rfl) (by kernel_rfl) (fun _ _ _ h=>h) (Or.inl ⟨by rfl,fun w _hS=>exL rfl _ rfl (load43 _ _ s5 p5 l5 c5 q5 k5 d5 _hS.2.2.1 _hS.2.2.2.1 _hS.2.2.2.2.1)⟩) ⟨kkeep jb a0,kkeep jb a1,kkeep jb v0,kkeep jb v1,kkeep jb v2,kkeep jb r0,kkeep jb r1⟩ ?_
  try simp only [Act.put,List.getElem_toArray,List.getElem_cons_zero,List.getElem_cons_succ,List.setIfInBounds_toArray,List.set_cons_zero,List.set_cons_succ]
  refine wpAnyH_ready (rs:=[10]) (by kernel_rfl) (by simp) ?_
  refine AllReadyH.cons rfl (fun K hK=>?_) AllReadyH.nil
  rw [if_pos (by rfl)]
  go_simp
  refine (hh3 _ s5 p5 l5 c5 q5 k5 d5 (hp7.kp jb)).mono ?_
  rintro e Wc ⟨rfl,gc⟩
  have jc:=jb.trans gc
  go_wp2_with fail
  refine hK.out _ _ ⟨kkeep jc a0,kkeep jc a1,kkeep jc v0,kkeep jc v1,kkeep jc v2,kkeep jc r0,kkeep jc r1⟩ (fun _=>?_)
  clear hK K
  try simp only [Act.put,List.getElem_toArray,List.getElem_cons_zero,List.getElem_cons_succ,List.setIfInBounds_toArray,List.set_cons_zero,List.set_cons_succ]
  refine wpAnyH_take (i:=11) (v:=.bool true) rfl (by kernel_rfl) (by kernel_rfl) (by kernel_rfl) (fun _ _ _ h=>h) (Or.inl ⟨by rfl,fun w _hS=>rfl⟩) ⟨kkeep jc a0,kkeep jc a1,kkeep jc v0,kkeep jc v1,kkeep jc v2,kkeep jc r0,kkeep jc r1⟩ ?_
  try simp only [Act.put,List.getElem_toArray,List.getElem_cons_zero,List.getElem_cons_succ,List.setIfInBounds_toArray,List.set_cons_zero,List.set_cons_succ]
  refine wpAnyH_take (i:=12) (v:=.bool true) rfl (by kernel_rfl) (by kernel_rfl) (by kernel_rfl) (fun _ _ _ h=>h) (Or.inl ⟨by rfl,fun w _hS=>rfl⟩) ⟨kkeep jc a0,kkeep jc a1,kkeep jc v0,kkeep jc v1,kkeep jc v2,kkeep jc r0,kkeep jc r1⟩ ?_
  try simp only [Act.put,List.getElem_toArray,List.getElem_cons_zero,List.getElem_cons_succ,List.setIfInBounds_toArray,List.set_cons_zero,List.set_cons_succ]
  refine wpAnyH_done (by kernel_rfl) ?_ _
  go_wp2
  exact bodyPost_ret (v:=.bool true) (by simp [results,Tryz.results4,go_sem]) rfl ⟨rfl,(Kp.trans k7 jc)⟩
theorem rootU_ (x0 x1 R1 R2 S9:Int) (A1 A2 Q1 Q2:Nat) (VV:Int) (CC M9:Nat) s p l c q k d (w:World) (hawk:∀ W:World,Kp w W→Calls Tryz.prog 5 #[] W fun e w'=>e = .returned (.bool true)∧Kp W w') (N9:Nat) (hrat:∀ W:World,Kp w W→Calls Tryz.prog 6 #[.agg #[.bool s,.slice p l c,.slice q k d]] W fun e w'=>∃ (s5:Bool) (p5:Option Addr) (l5 c5:Nat) (q5:Option Addr) (k5 d5:Nat) (V5:Int) (C5:Nat),e = .returned (.tuple #[.agg #[.bool s5,.slice p5 l5 c5,.slice q5 k5 d5],.bool true])∧(XP 0 w' s5 p5 l5 c5 q5 k5 d5 V5 C5 N9∧V5 = VV∧C5 = CC)∧Kp W w') (hin:∀ W:World,Calls Tryz.prog 8 #[.agg #[.int .u64 x0,.int .u64 x1]] W fun e w'=>e = .returned (.agg #[.float .f64 A1,.float .f64 A2])∧Kp W w') (hsq:∀ W:World,Kp w W→Calls Tryz.prog 24 #[.agg #[.float .f64 A1,.float .f64 A2]] W fun e w'=>e = .returned (.agg #[.float .f64 Q1,.float .f64 Q2])∧Kp W w') (hou:∀ W:World,Calls Tryz.prog 9 #[.agg #[.float .f64 Q1,.float .f64 Q2]] W fun e w'=>e = .returned (.agg #[.int .u64 R1,.int .u64 R2])∧Kp W w') (hsg:∀ (W:World) s5 p5 l5 c5 q5 k5 d5,XP 0 W s5 p5 l5 c5 q5 k5 d5 VV CC N9→Calls Tryz.prog 19 #[.agg #[.bool s5,.slice p5 l5 c5,.slice q5 k5 d5]] W fun e w'=>e = .returned (.int .i64 S9)∧Kp W w') (tS:¬ S9 < 0) (hmu:∀ (W:World) s5 p5 l5 c5 q5 k5 d5,XP 0 W s5 p5 l5 c5 q5 k5 d5 VV CC N9→Calls Tryz.prog 14 #[.agg #[.bool s5,.slice p5 l5 c5,.slice q5 k5 d5],.agg #[.bool s5,.slice p5 l5 c5,.slice q5 k5 d5]] W fun e w'=>∃ s6 p6 l6 c6 q6 k6 d6,e = .returned (.agg #[.bool s6,.slice p6 l6 c6,.slice q6 k6 d6])∧XP 0 w' s6 p6 l6 c6 q6 k6 d6 (VV * VV) (CC * CC) M9∧Kp W w') (hh2:∀ (W:World) s5 p5 l5 c5 q5 k5 d5,XP 0 W s5 p5 l5 c5 q5 k5 d5 (VV * VV) (CC * CC) (M9)→Calls Tryz.prog 7 #[.agg #[.int .u64 x0,.int .u64 x1],.agg #[.bool s5,.slice p5 l5 c5,.slice q5 k5 d5]] W fun e w'=>e = .returned (.bool false)∧Kp W w')  : Calls Tryz.prog 4 #[.agg #[.int .u64 x0,.int .u64 x1,.bool s,.slice p l c,.slice q k d]] w fun e w'=>e = .returned (.bool true)∧Kp w w':=by
  go_enter Tryz.func4,Tryz.ntmps4
  go_upto_region 1 with fail
  have kw:Kp w (w.alloc (.cells #[.int .u64 x0,.int .u64 x1,.bool s,.slice p l c,.slice q k d] 48)):=(Kp.refl w).alloc _
  have hA:BK (w.alloc (.cells #[.int .u64 x0,.int .u64 x1,.bool s,.slice p l c,.slice q k d] 48)) w.heap.size #[.int .u64 x0,.int .u64 x1,.bool s,.slice p l c,.slice q k d] 48:=BK.new w _ _
  generalize (w.alloc (.cells #[.int .u64 x0,.int .u64 x1,.bool s,.slice p l c,.slice q k d] 48)) = W at kw hA ⊢
  go_upto_region 4 with (first | (have z9:=k1;clear z9;go_at_call 6;refine (hrat _ k1).mono ?_;rintro e w2 ⟨s5,p5,l5,c5,q5,k5,d5,V5,C5,rfl,hp,g2⟩;have k2:Kp w w2:=Kp.trans k1 g2) | (go_at_call 5;refine (hawk _ kw).mono ?_;rintro e w1 ⟨rfl,g1⟩;have k1:Kp w w1:=Kp.trans kw g1;have hA1:=hA.kp g1;obtain ⟨a0,az0,a1,az1,a2,az2,a3,az3,a4,az4⟩:=(show BK w1 (w.heap.size) #[.int .u64 x0,.int .u64 x1,.bool s,.slice p l c,.slice q k d] _ from hA1).c5;skip))
  obtain ⟨hp,rfl,rfl⟩:=hp
  have kw3:Kp w (w2.alloc (.cells #[.bool s5,.slice p5 l5 c5,.slice q5 k5 d5] 27)):=k2.alloc _
  have hA3:BK (w2.alloc (.cells #[.bool s5,.slice p5 l5 c5,.slice q5 k5 d5] 27)) w.heap.size #[.int .u64 x0,.int .u64 x1,.bool s,.slice p l c,.slice q k d] 48:=(hA1.kp g2).kp ((Kp.refl _).alloc _)
  have hR3:BK (w2.alloc (.cells #[.bool s5,.slice p5 l5 c5,.slice q5 k5 d5] 27)) w2.heap.size #[.bool s5,.slice p5 l5 c5,.slice q5 k5 d5] 27:=BK.new _ _ _
  have hp3:XP 0 (w2.alloc (.cells #[.bool s5,.slice p5 l5 c5,.slice q5 k5 d5] 27)) s5 p5 l5 c5 q5 k5 d5 V5 C5 N9:=hp.kp ((Kp.refl _).alloc _)
  clear hp g2 k2 hA1 g1 k1 hA kw a0 a1 a2 a3 a4 az0 az1 az2 az3 az4
  generalize (w2.alloc (.cells #[.bool s5,.slice p5 l5 c5,.slice q5 k5 d5] 27)) = W3 at kw3 hA3 hR3 hp3 ⊢
  generalize w2.heap.size = rb at hR3 ⊢
  obtain ⟨a0,az0,a1,az1,a2,az2,a3,az3,a4,az4⟩:=(show BK W3 (w.heap.size) #[.int .u64 x0,.int .u64 x1,.bool s,.slice p l c,.slice q k d] _ from hA3).c5;skip
  go_upto_region 7 with (first | (go_at_call 9;refine (hou _).mono ?_;rintro e w5 ⟨rfl,g5⟩) | (go_at_call 24;refine (hsq _ (Kp.trans kw3 g3)).mono ?_;rintro e w4 ⟨rfl,g4⟩) | (go_at_call 8;refine (hin _).mono ?_;rintro e w3 ⟨rfl,g3⟩))
  have kx:Kp W3 (w5.alloc (.cells #[.int .u64 R1,.int .u64 R2] 24)):=(Kp.trans (Kp.trans g3 g4) g5).alloc _
  have hO:BK (w5.alloc (.cells #[.int .u64 R1,.int .u64 R2] 24)) w5.heap.size #[.int .u64 R1,.int .u64 R2] 24:=BK.new _ _ _
  have hA6:=hA3.kp kx
  have hR6:=hR3.kp kx
  have hp6:=hp3.kp kx
  have kw6:=Kp.trans kw3 kx
  clear g3 g4 g5 kx hA3 hR3 hp3 kw3 a0 a1 a2 a3 a4 az0 az1 az2 az3 az4
  generalize (w5.alloc (.cells #[.int .u64 R1,.int .u64 R2] 24)) = W6 at hO hA6 hR6 hp6 kw6 ⊢
  generalize w5.heap.size = ob at hO ⊢
  obtain ⟨a0,az0,a1,az1,a2,az2,a3,az3,a4,az4⟩:=(show BK W6 (w.heap.size) #[.int .u64 x0,.int .u64 x1,.bool s,.slice p l c,.slice q k d] _ from hA6).c5;obtain ⟨v0,vz0,v1,vz1,v2,vz2⟩:=(show BK W6 (rb) #[.bool s5,.slice p5 l5 c5,.slice q5 k5 d5] _ from hR6).c3;obtain ⟨r0,rz0,r1,rz1⟩:=(show BK W6 (ob) #[.int .u64 R1,.int .u64 R2] _ from hO).c2;skip
  go_upto_region 9 with (first | (go_at_call 19;refine (hsg _ s5 p5 l5 c5 q5 k5 d5 hp6).mono ?_;rintro e w7 ⟨rfl,g7⟩;have k7:=Kp.trans kw6 g7;have hR7:=hR6.kp g7;have hO7:=hO.kp g7;have hp7:=hp6.kp g7;obtain ⟨y0,yz0,y1,yz1,y2,yz2⟩:=(show BK w7 (rb) #[.bool s5,.slice p5 l5 c5,.slice q5 k5 d5] _ from hR7).c3;obtain ⟨t0,tz0,t1,tz1⟩:=(show BK w7 (ob) #[.int .u64 R1,.int .u64 R2] _ from hO7).c2;skip))
  have hA7:=hA6.kp g7
  clear a0 a1 a2 a3 a4 az0 az1 az2 az3 az4 v0 v1 v2 vz0 vz1 vz2 r0 r1 rz0 rz1 y0 y1 y2 yz0 yz1 yz2 t0 t1 tz0 tz1 hR6 hO hA6 hp6
  generalize w7 = W7 at k7 hA7 hR7 hO7 hp7 ⊢
  obtain ⟨a0,az0,a1,az1,a2,az2,a3,az3,a4,az4⟩:=(show BK W7 (w.heap.size) #[.int .u64 x0,.int .u64 x1,.bool s,.slice p l c,.slice q k d] _ from hA7).c5;obtain ⟨v0,vz0,v1,vz1,v2,vz2⟩:=(show BK W7 (rb) #[.bool s5,.slice p5 l5 c5,.slice q5 k5 d5] _ from hR7).c3;obtain ⟨r0,rz0,r1,rz1⟩:=(show BK W7 (ob) #[.int .u64 R1,.int .u64 R2] _ from hO7).c2;skip
  have jd:Kp W7 W7.drew:=(Kp.refl _).drew
  refine wp_region_held_drew (S:=(fun w':World=>w'.cell? ⟨w.heap.size,0,none⟩ = some (.int .u64 x0)∧w'.cell? ⟨w.heap.size,1,none⟩ = some (.int .u64 x1)∧w'.cell? ⟨rb,0,none⟩ = some (.bool s5)∧w'.cell? ⟨rb,1,none⟩ = some (.slice p5 l5 c5)∧w'.cell? ⟨rb,2,none⟩ = some (.slice q5 k5 d5)∧w'.cell? ⟨ob,0,none⟩ = some (.int .u64 R1)∧w'.cell? ⟨ob,1,none⟩ = some (.int .u64 R2))) (by kernel_rfl) ⟨kkeep jd a0,kkeep jd a1,kkeep jd v0,kkeep jd v1,kkeep jd v2,kkeep jd r0,kkeep jd r1⟩ (fun _=>?_)
  refine wpAnyH_take (i:=0) (v:=.pointer (some ⟨w.heap.size,0,none⟩)) rfl (by kernel_rfl) (by kernel_rfl) (by kernel_rfl) (fun _ _ _ h=>h) (Or.inl ⟨by rfl,fun w _hS=>rfl⟩) ⟨kkeep jd a0,kkeep jd a1,kkeep jd v0,kkeep jd v1,kkeep jd v2,kkeep jd r0,kkeep jd r1⟩ ?_
  try simp only [Act.put,List.getElem_toArray,List.getElem_cons_zero,List.getElem_cons_succ,List.setIfInBounds_toArray,List.set_cons_zero,List.set_cons_succ]
  refine wpAnyH_take (i:=1) (v:=.agg #[.int .u64 x0,.int .u64 x1]) rfl (by kernel_rfl) (by kernel_rfl) (by kernel_rfl) (fun _ _ _ h=>h) (Or.inl ⟨by rfl,fun w _hS=>exL rfl _ rfl (loadIa _ _ 0 _ _ _hS.1 _hS.2.1)⟩) ⟨kkeep jd a0,kkeep jd a1,kkeep jd v0,kkeep jd v1,kkeep jd v2,kkeep jd r0,kkeep jd r1⟩ ?_
  try simp only [Act.put,List.getElem_toArray,List.getElem_cons_zero,List.getElem_cons_succ,List.setIfInBounds_toArray,List.set_cons_zero,List.set_cons_succ]
  refine wpAnyH_take (i:=2) (v:=.agg #[.bool s5,.slice p5 l5 c5,.slice q5 k5 d5]) rfl (by kernel_rfl) (by kernel_rfl) (by kernel_rfl) (fun _ _ _ h=>h) (Or.inl ⟨by rfl,fun w _hS=>exL rfl _ rfl (load43 _ _ s5 p5 l5 c5 q5 k5 d5 _hS.2.2.1 _hS.2.2.2.1 _hS.2.2.2.2.1)⟩) ⟨kkeep jd a0,kkeep jd a1,kkeep jd v0,kkeep jd v1,kkeep jd v2,kkeep jd r0,kkeep jd r1⟩ ?_
  try simp only [Act.put,List.getElem_toArray,List.getElem_cons_zero,List.getElem_cons_succ,List.setIfInBounds_toArray,List.set_cons_zero,List.set_cons_succ]
  refine wpAnyH_take (i:=3) (v:=.agg #[.bool s5,.slice p5 l5 c5,.slice q5 k5 d5]) rfl (by kernel_rfl) (by kernel_rfl) (by kernel_rfl) (fun _ _ _ h=>h) (Or.inl ⟨by rfl,fun w _hS=>exL rfl _ rfl (load43 _ _ s5 p5 l5 c5 q5 k5 d5 _hS.2.2.1 _hS.2.2.2.1 _hS.2.2.2.2.1)⟩) ⟨kkeep jd a0,kkeep jd a1,kkeep jd v0,kkeep jd v1,kkeep jd v2,kkeep jd r0,kkeep jd r1⟩ ?_
  try simp only [Act.put,List.getElem_toArray,List.getElem_cons_zero,List.getElem_cons_succ,List.setIfInBounds_toArray,List.set_cons_zero,List.set_cons_succ]
  refine wpAnyH_ready (rs:=[4]) (by kernel_rfl) (by simp) ?_
  refine AllReadyH.cons rfl (fun K hK=>?_) AllReadyH.nil
  go_simp
  refine (hmu _ s5 p5 l5 c5 q5 k5 d5 (hp7.kp jd)).mono ?_
  rintro e Wa ⟨s6,p6,l6,c6,q6,k6,d6,rfl,hm,ga⟩
  have ja:=jd.trans ga
  go_wp2_with fail
  refine hK.out _ _ ⟨kkeep ja a0,kkeep ja a1,kkeep ja v0,kkeep ja v1,kkeep ja v2,kkeep ja r0,kkeep ja r1⟩ (fun _=>?_)
  clear hK K
  try simp only [Act.put,List.getElem_toArray,List.getElem_cons_zero,List.getElem_cons_succ,List.setIfInBounds_toArray,List.set_cons_zero,List.set_cons_succ]
  refine wpAnyH_ready (rs:=[5]) (by kernel_rfl) (by simp) ?_
  refine AllReadyH.cons rfl (fun K hK=>?_) AllReadyH.nil
  go_simp
  refine (hh2 _ s6 p6 l6 c6 q6 k6 d6 hm).mono ?_
  rintro e Wb ⟨rfl,gb⟩
  have jb:=ja.trans gb
  go_wp2_with fail
  refine hK.out _ _ ⟨kkeep jb a0,kkeep jb a1,kkeep jb v0,kkeep jb v1,kkeep jb v2,kkeep jb r0,kkeep jb r1⟩ (fun _=>?_)
  clear hK K
  try simp only [Act.put,List.getElem_toArray,List.getElem_cons_zero,List.getElem_cons_succ,List.setIfInBounds_toArray,List.set_cons_zero,List.set_cons_succ]
  refine wpAnyH_take (i:=6) (v:=.bool true) rfl (by kernel_rfl) (by kernel_rfl) (by kernel_rfl) (fun _ _ _ h=>h) (Or.inl ⟨by rfl,fun w _hS=>by simp [go_sem]⟩) ⟨kkeep jb a0,kkeep jb a1,kkeep jb v0,kkeep jb v1,kkeep jb v2,kkeep jb r0,kkeep jb r1⟩ ?_
  try simp only [Act.put,List.getElem_toArray,List.getElem_cons_zero,List.getElem_cons_succ,List.setIfInBounds_toArray,List.set_cons_zero,List.set_cons_succ]
  refine wpAnyH_take (i:=7) (v:=.bool true) rfl (by kernel_rfl) (by kernel_rfl) (by kernel_rfl) (fun _ _ _ h=>h) (Or.inl ⟨by rfl,fun w _hS=>rfl⟩) ⟨kkeep jb a0,kkeep jb a1,kkeep jb v0,kkeep jb v1,kkeep jb v2,kkeep jb r0,kkeep jb r1⟩ ?_
  try simp only [Act.put,List.getElem_toArray,List.getElem_cons_zero,List.getElem_cons_succ,List.setIfInBounds_toArray,List.set_cons_zero,List.set_cons_succ]
  refine wpAnyH_take (i:=8) (v:=undef) rfl (by kernel_rfl) (by kernel_rfl) (by kernel_rfl) (fun _ _ _ h=>h) (Or.inr ⟨by rfl,rfl⟩) ⟨kkeep jb a0,kkeep jb a1,kkeep jb v0,kkeep jb v1,kkeep jb v2,kkeep jb r0,kkeep jb r1⟩ ?_
  try simp only [Act.put,List.getElem_toArray,List.getElem_cons_zero,List.getElem_cons_succ,List.setIfInBounds_toArray,List.set_cons_zero,List.set_cons_succ]
  refine wpAnyH_take (i:=9) (v:=undef) rfl (by kernel_rfl) (by kernel_rfl) (by kernel_rfl) (fun _ _ _ h=>h) (Or.inr ⟨by rfl,rfl⟩) ⟨kkeep jb a0,kkeep jb a1,kkeep jb v0,kkeep jb v1,kkeep jb v2,kkeep jb r0,kkeep jb r1⟩ ?_
  try simp only [Act.put,List.getElem_toArray,List.getElem_cons_zero,List.getElem_cons_succ,List.setIfInBounds_toArray,List.set_cons_zero,List.set_cons_succ]
  refine wpAnyH_ready (rs:=[10]) (by kernel_rfl) (by simp) ?_
  refine AllReadyH.cons rfl (fun K hK=>?_) AllReadyH.nil
  refine if_no (by rfl) ?_
  refine hK.out _ _ ⟨kkeep jb a0,kkeep jb a1,kkeep jb v0,kkeep jb v1,kkeep jb v2,kkeep jb r0,kkeep jb r1⟩ (fun _=>?_)
  clear hK K
  try simp only [Act.put,List.getElem_toArray,List.getElem_cons_zero,List.getElem_cons_succ,List.setIfInBounds_toArray,List.set_cons_zero,List.set_cons_succ]
  refine wpAnyH_take (i:=11) (v:=.bool true) rfl (by kernel_rfl) (by kernel_rfl) (by kernel_rfl) (fun _ _ _ h=>h) (Or.inl ⟨by rfl,fun w _hS=>rfl⟩) ⟨kkeep jb a0,kkeep jb a1,kkeep jb v0,kkeep jb v1,kkeep jb v2,kkeep jb r0,kkeep jb r1⟩ ?_
  try simp only [Act.put,List.getElem_toArray,List.getElem_cons_zero,List.getElem_cons_succ,List.setIfInBounds_toArray,List.set_cons_zero,List.set_cons_succ]
  refine wpAnyH_take (i:=12) (v:=.bool true) rfl (by kernel_rfl) (by kernel_rfl) (by kernel_rfl) (fun _ _ _ h=>h) (Or.inl ⟨by rfl,fun w _hS=>rfl⟩) ⟨kkeep jb a0,kkeep jb a1,kkeep jb v0,kkeep jb v1,kkeep jb v2,kkeep jb r0,kkeep jb r1⟩ ?_
  try simp only [Act.put,List.getElem_toArray,List.getElem_cons_zero,List.getElem_cons_succ,List.setIfInBounds_toArray,List.set_cons_zero,List.set_cons_succ]
  refine wpAnyH_done (by kernel_rfl) ?_ _
  go_wp2
  exact bodyPost_ret (v:=.bool true) (by simp [results,Tryz.results4,go_sem]) rfl ⟨rfl,(Kp.trans k7 jb)⟩
end Go.Proofs.YtnileplkkmhdgaaGreatDoor
