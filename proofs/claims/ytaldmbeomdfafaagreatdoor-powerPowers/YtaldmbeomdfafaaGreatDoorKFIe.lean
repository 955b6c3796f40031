import Derived.Test.YtaldmbeomdfafaaGreatDoorKFIa
import Derived.Deep.CutRange
set_option maxHeartbeats 4000000
set_option maxRecDepth 20000
namespace Go.Proofs.YtaldmbeomdfafaaGreatDoor
open Go.RowKit
set_option linter.unusedVariables false
theorem inv6c_ (N:Bool) (i j:Int) s p l c q k d s2 p2 l2 c2 q2 k2 d2 (P1 P2 P3 P4 P5 P6 P7:World→Value→Prop) (w:World) (hset:∀ (W:World) (v:Value) (x:Addr) (u:Value),x.block < w.heap.size + 2→P7 W v→P7 (W.setCell x u) v) (hk2:∀ (W W':World) (v:Value),Kp W W'→P2 W v→P2 W' v) (hU1:∀ W:World,Kp w W→w.heap.size + 2≤W.heap.size→Calls Tryz.prog 133 #[.agg #[.bool N,.int .i64 i,.bool s,.slice p l c,.slice q k d,.int .i64 j,.bool s2,.slice p2 l2 c2,.slice q2 k2 d2]] W fun e w'=>∃ v,e = .returned v∧P1 w' v∧Kp W w') (hV1:∀ (W:World) (v:Value),Kp w W→w.heap.size + 2≤W.heap.size→P1 W v→Calls Tryz.prog 132 #[v] W fun e w'=>∃ v',e = .returned v'∧P2 w' v'∧Kp W w') (hM1:∀ W:World,Kp w W→w.heap.size + 2≤W.heap.size→Calls Tryz.prog 134 #[.agg #[.bool N,.int .i64 i,.bool s,.slice p l c,.slice q k d,.int .i64 j,.bool s2,.slice p2 l2 c2,.slice q2 k2 d2]] W fun e w'=>∃ v,e = .returned v∧P3 w' v∧Kp W w') (hU2:∀ (W:World) (v:Value),Kp w W→w.heap.size + 2≤W.heap.size→P3 W v→Calls Tryz.prog 133 #[v] W fun e w'=>∃ v',e = .returned v'∧P4 w' v'∧Kp W w') (hV2:∀ (W:World) (v:Value),Kp w W→w.heap.size + 2≤W.heap.size→P4 W v→Calls Tryz.prog 132 #[v] W fun e w'=>∃ v',e = .returned v'∧P5 w' v'∧Kp W w') (hM2:∀ (W:World) (v:Value),Kp w W→w.heap.size + 2≤W.heap.size→P5 W v→Calls Tryz.prog 134 #[v] W fun e w'=>∃ v',e = .returned v'∧P6 w' v'∧Kp W w') (hH:∀ (W:World) (u v:Value),Kp w W→w.heap.size + 2≤W.heap.size→P2 W u→P6 W v→Calls Tryz.prog 131 #[u,v] W fun e w'=>∃ (N7:Bool) (i7 j7:Int) (s5:Bool) (p5:Option Addr) (l5 c5:Nat) (q5:Option Addr) (k5 d5:Nat) (s6:Bool) (p6:Option Addr) (l6 c6:Nat) (q6:Option Addr) (k6 d6:Nat),e = .returned (.agg #[.bool N7,.int .i64 i7,.bool s5,.slice p5 l5 c5,.slice q5 k5 d5,.int .i64 j7,.bool s6,.slice p6 l6 c6,.slice q6 k6 d6])∧P7 w' (.agg #[.bool N7,.int .i64 i7,.bool s5,.slice p5 l5 c5,.slice q5 k5 d5,.int .i64 j7,.bool s6,.slice p6 l6 c6,.slice q6 k6 d6])∧Kp W w'):Calls Tryz.prog 98 #[.agg #[.bool N,.int .i64 i,.bool s,.slice p l c,.slice q k d,.int .i64 j,.bool s2,.slice p2 l2 c2,.slice q2 k2 d2]] w fun e w'=>∃ v,e = .returned v∧P7 w' v∧Kp w w':=by
 go_enter Tryz.func98,Tryz.ntmps98
 go_wp2
 generalize hW:((w.alloc (.cells #[.bool N,.int .i64 i,.bool s,.slice p l c,.slice q k d,.int .i64 j,.bool s2,.slice p2 l2 c2,.slice q2 k2 d2] 74)).alloc (.cells #[.bool false,.int .i64 0,.bool false,.slice none 0 0,.slice none 0 0,.int .i64 0,.bool false,.slice none 0 0,.slice none 0 0] 74)) = W
 have kw:Kp w W:=by rw [← hW];exact ((Kp.refl w).alloc _).alloc _
 have xw0:W.cell? ⟨w.heap.size,0,none⟩ = some (.bool N):=by rw [← hW];simp [go_sem]
 have dw0:W.drew.cell? ⟨w.heap.size,0,none⟩ = some (.bool N):=xw0
 have xw1:W.cell? ⟨w.heap.size,1,none⟩ = some (.int .i64 i):=by rw [← hW];simp [go_sem]
 have dw1:W.drew.cell? ⟨w.heap.size,1,none⟩ = some (.int .i64 i):=xw1
 have xw2:W.cell? ⟨w.heap.size,2,none⟩ = some (.bool s):=by rw [← hW];simp [go_sem]
 have dw2:W.drew.cell? ⟨w.heap.size,2,none⟩ = some (.bool s):=xw2
 have xw3:W.cell? ⟨w.heap.size,3,none⟩ = some (.slice p l c):=by rw [← hW];simp [go_sem]
 have dw3:W.drew.cell? ⟨w.heap.size,3,none⟩ = some (.slice p l c):=xw3
 have xw4:W.cell? ⟨w.heap.size,4,none⟩ = some (.slice q k d):=by rw [← hW];simp [go_sem]
 have dw4:W.drew.cell? ⟨w.heap.size,4,none⟩ = some (.slice q k d):=xw4
 have xw5:W.cell? ⟨w.heap.size,5,none⟩ = some (.int .i64 j):=by rw [← hW];simp [go_sem]
 have dw5:W.drew.cell? ⟨w.heap.size,5,none⟩ = some (.int .i64 j):=xw5
 have xw6:W.cell? ⟨w.heap.size,6,none⟩ = some (.bool s2):=by rw [← hW];simp [go_sem]
 have dw6:W.drew.cell? ⟨w.heap.size,6,none⟩ = some (.bool s2):=xw6
 have xw7:W.cell? ⟨w.heap.size,7,none⟩ = some (.slice p2 l2 c2):=by rw [← hW];simp [go_sem]
 have dw7:W.drew.cell? ⟨w.heap.size,7,none⟩ = some (.slice p2 l2 c2):=xw7
 have xw8:W.cell? ⟨w.heap.size,8,none⟩ = some (.slice q2 k2 d2):=by rw [← hW];simp [go_sem]
 have dw8:W.drew.cell? ⟨w.heap.size,8,none⟩ = some (.slice q2 k2 d2):=xw8
 obtain ⟨r0,rz0,r1,rz1,r2,rz2,r3,rz3,r4,rz4,r5,rz5,r6,rz6,r7,rz7,r8,rz8⟩:W.cell? ⟨w.heap.size + 1,0,none⟩ = some (.bool false)∧W.frozen? ⟨w.heap.size + 1,0,none⟩ = false∧W.cell? ⟨w.heap.size + 1,1,none⟩ = some (.int .i64 0)∧W.frozen? ⟨w.heap.size + 1,1,none⟩ = false∧W.cell? ⟨w.heap.size + 1,2,none⟩ = some (.bool false)∧W.frozen? ⟨w.heap.size + 1,2,none⟩ = false∧W.cell? ⟨w.heap.size + 1,3,none⟩ = some (.slice none 0 0)∧W.frozen? ⟨w.heap.size + 1,3,none⟩ = false∧W.cell? ⟨w.heap.size + 1,4,none⟩ = some (.slice none 0 0)∧W.frozen? ⟨w.heap.size + 1,4,none⟩ = false∧W.cell? ⟨w.heap.size + 1,5,none⟩ = some (.int .i64 0)∧W.frozen? ⟨w.heap.size + 1,5,none⟩ = false∧W.cell? ⟨w.heap.size + 1,6,none⟩ = some (.bool false)∧W.frozen? ⟨w.heap.size + 1,6,none⟩ = false∧W.cell? ⟨w.heap.size + 1,7,none⟩ = some (.slice none 0 0)∧W.frozen? ⟨w.heap.size + 1,7,none⟩ = false∧W.cell? ⟨w.heap.size + 1,8,none⟩ = some (.slice none 0 0)∧W.frozen? ⟨w.heap.size + 1,8,none⟩ = false:=by rw [← hW];simp [go_sem]
 have hn1:w.heap.size + 1≠w.heap.size:=by omega
 have hsz:w.heap.size + 2≤W.heap.size:=cell_lt r0
 clear hW
 go_region_held3 (fun w'=>w'.cell? ⟨w.heap.size,0,none⟩ = some (.bool N)∧w'.cell? ⟨w.heap.size,1,none⟩ = some (.int .i64 i)∧w'.cell? ⟨w.heap.size,2,none⟩ = some (.bool s)∧w'.cell? ⟨w.heap.size,3,none⟩ = some (.slice p l c)∧w'.cell? ⟨w.heap.size,4,none⟩ = some (.slice q k d)∧w'.cell? ⟨w.heap.size,5,none⟩ = some (.int .i64 j)∧w'.cell? ⟨w.heap.size,6,none⟩ = some (.bool s2)∧w'.cell? ⟨w.heap.size,7,none⟩ = some (.slice p2 l2 c2)∧w'.cell? ⟨w.heap.size,8,none⟩ = some (.slice q2 k2 d2)) (first | (with_reducible exact ⟨xw0,xw1,xw2,xw3,xw4,xw5,xw6,xw7,xw8⟩) | (with_reducible exact ⟨dw0,dw1,dw2,dw3,dw4,dw5,dw6,dw7,dw8⟩) | (with_reducible exact ⟨wA0,wA1,wA2,wA3,wA4,wA5,wA6,wA7,wA8⟩) | (with_reducible exact ⟨wB0,wB1,wB2,wB3,wB4,wB5,wB6,wB7,wB8⟩) | (with_reducible exact ⟨wC0,wC1,wC2,wC3,wC4,wC5,wC6,wC7,wC8⟩) | (with_reducible exact ⟨wD0,wD1,wD2,wD3,wD4,wD5,wD6,wD7,wD8⟩) | (with_reducible exact ⟨wE0,wE1,wE2,wE3,wE4,wE5,wE6,wE7,wE8⟩) | (with_reducible exact ⟨wF0,wF1,wF2,wF3,wF4,wF5,wF6,wF7,wF8⟩) | (with_reducible exact ⟨wG0,wG1,wG2,wG3,wG4,wG5,wG6,wG7,wG8⟩) | (exact ⟨(CF9 hn1 wG0),(CF9 hn1 wG1),(CF9 hn1 wG2),(CF9 hn1 wG3),(CF9 hn1 wG4),(CF9 hn1 wG5),(CF9 hn1 wG6),(CF9 hn1 wG7),(CF9 hn1 wG8)⟩)) (first | (go_at_call_of 133 (Value.slice p l c);refine (hU1 _ kw.drew hsz).mono ?_;rintro e wA ⟨v1,rfl,hv1,gA⟩;have kA:Kp W wA:=Kp.trans (Kp.drew (Kp.refl _)) gA;have wA0:=kkeep kA xw0;have wA1:=kkeep kA xw1;have wA2:=kkeep kA xw2;have wA3:=kkeep kA xw3;have wA4:=kkeep kA xw4;have wA5:=kkeep kA xw5;have wA6:=kkeep kA xw6;have wA7:=kkeep kA xw7;have wA8:=kkeep kA xw8) | (go_at_call_of 132 v1;refine (hV1 _ v1 (kw.trans kA) (Nat.le_trans hsz (Below.size kA)) hv1).mono ?_;rintro e wB ⟨v2,rfl,hv2,gB⟩;have kB:Kp W wB:=Kp.trans kA gB;have wB0:=kkeep kB xw0;have wB1:=kkeep kB xw1;have wB2:=kkeep kB xw2;have wB3:=kkeep kB xw3;have wB4:=kkeep kB xw4;have wB5:=kkeep kB xw5;have wB6:=kkeep kB xw6;have wB7:=kkeep kB xw7;have wB8:=kkeep kB xw8) | (go_at_call_of 134 (Value.slice p l c);refine (hM1 _ (kw.trans kB) (Nat.le_trans hsz (Below.size kB))).mono ?_;rintro e wC ⟨v3,rfl,hv3,gC⟩;have kC:Kp W wC:=Kp.trans kB gC;have h2C:=hk2 _ _ _ gC hv2;have wC0:=kkeep kC xw0;have wC1:=kkeep kC xw1;have wC2:=kkeep kC xw2;have wC3:=kkeep kC xw3;have wC4:=kkeep kC xw4;have wC5:=kkeep kC xw5;have wC6:=kkeep kC xw6;have wC7:=kkeep kC xw7;have wC8:=kkeep kC xw8) | (go_at_call_of 133 v3;refine (hU2 _ v3 (kw.trans kC) (Nat.le_trans hsz (Below.size kC)) hv3).mono ?_;rintro e wD ⟨v4,rfl,hv4,gD⟩;have kD:Kp W wD:=Kp.trans kC gD;have h2D:=hk2 _ _ _ gD h2C;have wD0:=kkeep kD xw0;have wD1:=kkeep kD xw1;have wD2:=kkeep kD xw2;have wD3:=kkeep kD xw3;have wD4:=kkeep kD xw4;have wD5:=kkeep kD xw5;have wD6:=kkeep kD xw6;have wD7:=kkeep kD xw7;have wD8:=kkeep kD xw8) | (go_at_call_of 132 v4;refine (hV2 _ v4 (kw.trans kD) (Nat.le_trans hsz (Below.size kD)) hv4).mono ?_;rintro e wE ⟨v5,rfl,hv5,gE⟩;have kE:Kp W wE:=Kp.trans kD gE;have h2E:=hk2 _ _ _ gE h2D;have wE0:=kkeep kE xw0;have wE1:=kkeep kE xw1;have wE2:=kkeep kE xw2;have wE3:=kkeep kE xw3;have wE4:=kkeep kE xw4;have wE5:=kkeep kE xw5;have wE6:=kkeep kE xw6;have wE7:=kkeep kE xw7;have wE8:=kkeep kE xw8) | (go_at_call_of 134 v5;refine (hM2 _ v5 (kw.trans kE) (Nat.le_trans hsz (Below.size kE)) hv5).mono ?_;rintro e wF ⟨v6,rfl,hv6,gF⟩;have kF:Kp W wF:=Kp.trans kE gF;have h2F:=hk2 _ _ _ gF h2E;have wF0:=kkeep kF xw0;have wF1:=kkeep kF xw1;have wF2:=kkeep kF xw2;have wF3:=kkeep kF xw3;have wF4:=kkeep kF xw4;have wF5:=kkeep kF xw5;have wF6:=kkeep kF xw6;have wF7:=kkeep kF xw7;have wF8:=kkeep kF xw8) | (go_at_call 131;refine (hH _ v2 v6 (kw.trans kF) (Nat.le_trans hsz (Below.size kF)) h2F hv6).mono ?_;rintro e wG ⟨N7,i7,j7,s5,p5,l5,c5,q5,k5,d5,s6,p6,l6,c6,q6,k6,d6,rfl,hv7,gG⟩;have kG:Kp W wG:=Kp.trans kF gG;have wG0:=kkeep kG xw0;have wG1:=kkeep kG xw1;have wG2:=kkeep kG xw2;have wG3:=kkeep kG xw3;have wG4:=kkeep kG xw4;have wG5:=kkeep kG xw5;have wG6:=kkeep kG xw6;have wG7:=kkeep kG xw7;have wG8:=kkeep kG xw8;obtain ⟨R0,Rz0,R1,Rz1,R2,Rz2,R3,Rz3,R4,Rz4,R5,Rz5,R6,Rz6,R7,Rz7,R8,Rz8⟩:=AK9 kG ⟨r0,rz0,r1,rz1,r2,rz2,r3,rz3,r4,rz4,r5,rz5,r6,rz6,r7,rz7,r8,rz8⟩))
 go_wp2
 exact bodyPost_ret (v:=.agg #[.bool N7,.int .i64 i7,.bool s5,.slice p5 l5 c5,.slice q5 k5 d5,.int .i64 j7,.bool s6,.slice p6 l6 c6,.slice q6 k6 d6]) (by simp [results,Tryz.results98,go_sem,R0,R1,R2,R3,R4,R5,R6,R7,R8]) rfl ⟨_,rfl,(hset _ _ ⟨w.heap.size + 1,8,none⟩ (.slice q6 k6 d6) (by simp) (hset _ _ ⟨w.heap.size + 1,7,none⟩ (.slice p6 l6 c6) (by simp) (hset _ _ ⟨w.heap.size + 1,6,none⟩ (.bool s6) (by simp) (hset _ _ ⟨w.heap.size + 1,5,none⟩ (.int .i64 j7) (by simp) (hset _ _ ⟨w.heap.size + 1,4,none⟩ (.slice q5 k5 d5) (by simp) (hset _ _ ⟨w.heap.size + 1,3,none⟩ (.slice p5 l5 c5) (by simp) (hset _ _ ⟨w.heap.size + 1,2,none⟩ (.bool s5) (by simp) (hset _ _ ⟨w.heap.size + 1,1,none⟩ (.int .i64 i7) (by simp) (hset _ _ ⟨w.heap.size + 1,0,none⟩ (.bool N7) (by simp) hv7))))))))),KS9 ((Kp.trans kw kG)) (by first | omega | (simp <;> omega))⟩
set_option linter.unusedVariables false
set_option linter.unusedSimpArgs false
theorem hullE1_ (i j i2 j2:Int) s p l c q k d s2 p2 l2 c2 q2 k2 d2 s5 p5 l5 c5 q5 k5 d5 s6 p6 l6 c6 q6 k6 d6 (N2:Bool) (w:World):Calls Tryz.prog 131 #[.agg #[.bool true,.int .i64 i,.bool s,.slice p l c,.slice q k d,.int .i64 j,.bool s2,.slice p2 l2 c2,.slice q2 k2 d2],.agg #[.bool N2,.int .i64 i2,.bool s5,.slice p5 l5 c5,.slice q5 k5 d5,.int .i64 j2,.bool s6,.slice p6 l6 c6,.slice q6 k6 d6]] w fun e w'=>e = .returned (.agg #[.bool N2,.int .i64 i2,.bool s5,.slice p5 l5 c5,.slice q5 k5 d5,.int .i64 j2,.bool s6,.slice p6 l6 c6,.slice q6 k6 d6])∧Kp w w':=by
 go_enter Tryz.func131,Tryz.ntmps131
 go_wp2
 exact bodyPost_ret (v:=.agg #[.bool N2,.int .i64 i2,.bool s5,.slice p5 l5 c5,.slice q5 k5 d5,.int .i64 j2,.bool s6,.slice p6 l6 c6,.slice q6 k6 d6]) (by simp [results,Tryz.results131,go_sem]) rfl ⟨rfl,(by repeat (with_reducible (first | assumption | exact Kp.refl _ | apply Kp.drew | apply Kp.alloc | apply Kp.drewN | (refine Kp.setCell ?_ (by first | omega | (simp <;> omega)) _) | (refine Kp.trans ?_ (by assumption)))))⟩
theorem hullE2_ (i j i2 j2:Int) s p l c q k d s2 p2 l2 c2 q2 k2 d2 s5 p5 l5 c5 q5 k5 d5 s6 p6 l6 c6 q6 k6 d6 (w:World):Calls Tryz.prog 131 #[.agg #[.bool false,.int .i64 i,.bool s,.slice p l c,.slice q k d,.int .i64 j,.bool s2,.slice p2 l2 c2,.slice q2 k2 d2],.agg #[.bool true,.int .i64 i2,.bool s5,.slice p5 l5 c5,.slice q5 k5 d5,.int .i64 j2,.bool s6,.slice p6 l6 c6,.slice q6 k6 d6]] w fun e w'=>e = .returned (.agg #[.bool false,.int .i64 i,.bool s,.slice p l c,.slice q k d,.int .i64 j,.bool s2,.slice p2 l2 c2,.slice q2 k2 d2])∧Kp w w':=by
 go_enter Tryz.func131,Tryz.ntmps131
 go_wp2
 exact bodyPost_ret (v:=.agg #[.bool false,.int .i64 i,.bool s,.slice p l c,.slice q k d,.int .i64 j,.bool s2,.slice p2 l2 c2,.slice q2 k2 d2]) (by simp [results,Tryz.results131,go_sem]) rfl ⟨rfl,(by repeat (with_reducible (first | assumption | exact Kp.refl _ | apply Kp.drew | apply Kp.alloc | apply Kp.drewN | (refine Kp.setCell ?_ (by first | omega | (simp <;> omega)) _) | (refine Kp.trans ?_ (by assumption)))))⟩
theorem hullG_ (i j i2 j2:Int) s p l c q k d s2 p2 l2 c2 q2 k2 d2 s5 p5 l5 c5 q5 k5 d5 s6 p6 l6 c6 q6 k6 d6 (i3 j3:Int) s7 p7 l7 c7 q7 k7 d7 s8 p8 l8 c8 q8 k8 d8 (w:World) (hl:∀ W:World,Kp w W→Calls Tryz.prog 156 #[.agg #[.int .i64 i,.bool s,.slice p l c,.slice q k d],.agg #[.int .i64 i2,.bool s5,.slice p5 l5 c5,.slice q5 k5 d5]] W fun e w'=>e = .returned (.agg #[.int .i64 i3,.bool s7,.slice p7 l7 c7,.slice q7 k7 d7])∧Kp W w') (hg:∀ W:World,Kp w W→Calls Tryz.prog 157 #[.agg #[.int .i64 j,.bool s2,.slice p2 l2 c2,.slice q2 k2 d2],.agg #[.int .i64 j2,.bool s6,.slice p6 l6 c6,.slice q6 k6 d6]] W fun e w'=>e = .returned (.agg #[.int .i64 j3,.bool s8,.slice p8 l8 c8,.slice q8 k8 d8])∧Kp W w'):Calls Tryz.prog 131 #[.agg #[.bool false,.int .i64 i,.bool s,.slice p l c,.slice q k d,.int .i64 j,.bool s2,.slice p2 l2 c2,.slice q2 k2 d2],.agg #[.bool false,.int .i64 i2,.bool s5,.slice p5 l5 c5,.slice q5 k5 d5,.int .i64 j2,.bool s6,.slice p6 l6 c6,.slice q6 k6 d6]] w fun e w'=>e = .returned (.agg #[.bool false,.int .i64 i3,.bool s7,.slice p7 l7 c7,.slice q7 k7 d7,.int .i64 j3,.bool s8,.slice p8 l8 c8,.slice q8 k8 d8])∧Kp w w':=by
 go_enter Tryz.func131,Tryz.ntmps131
 go_upto_region 5 with fail
 have kw:Kp w (((w.alloc (.cells #[.bool false,.int .i64 i,.bool s,.slice p l c,.slice q k d,.int .i64 j,.bool s2,.slice p2 l2 c2,.slice q2 k2 d2] 74)).alloc (.cells #[.bool false,.int .i64 i2,.bool s5,.slice p5 l5 c5,.slice q5 k5 d5,.int .i64 j2,.bool s6,.slice p6 l6 c6,.slice q6 k6 d6] 74)).alloc (.cells #[.bool false,.int .i64 0,.bool false,.slice none 0 0,.slice none 0 0,.int .i64 0,.bool false,.slice none 0 0,.slice none 0 0] 74)):=(((Kp.refl w).alloc _).alloc _).alloc _
 generalize hW:(((w.alloc (.cells #[.bool false,.int .i64 i,.bool s,.slice p l c,.slice q k d,.int .i64 j,.bool s2,.slice p2 l2 c2,.slice q2 k2 d2] 74)).alloc (.cells #[.bool false,.int .i64 i2,.bool s5,.slice p5 l5 c5,.slice q5 k5 d5,.int .i64 j2,.bool s6,.slice p6 l6 c6,.slice q6 k6 d6] 74)).alloc (.cells #[.bool false,.int .i64 0,.bool false,.slice none 0 0,.slice none 0 0,.int .i64 0,.bool false,.slice none 0 0,.slice none 0 0] 74)) = W at kw ⊢
 have xw0:W.cell? ⟨w.heap.size,1,none⟩ = some (.int .i64 i):=by rw [← hW];simp [go_sem]
 have dw0:W.drew.cell? ⟨w.heap.size,1,none⟩ = some (.int .i64 i):=xw0
 have xw1:W.cell? ⟨w.heap.size,2,none⟩ = some (.bool s):=by rw [← hW];simp [go_sem]
 have dw1:W.drew.cell? ⟨w.heap.size,2,none⟩ = some (.bool s):=xw1
 have xw2:W.cell? ⟨w.heap.size,3,none⟩ = some (.slice p l c):=by rw [← hW];simp [go_sem]
 have dw2:W.drew.cell? ⟨w.heap.size,3,none⟩ = some (.slice p l c):=xw2
 have xw3:W.cell? ⟨w.heap.size,4,none⟩ = some (.slice q k d):=by rw [← hW];simp [go_sem]
 have dw3:W.drew.cell? ⟨w.heap.size,4,none⟩ = some (.slice q k d):=xw3
 have xw4:W.cell? ⟨w.heap.size,5,none⟩ = some (.int .i64 j):=by rw [← hW];simp [go_sem]
 have dw4:W.drew.cell? ⟨w.heap.size,5,none⟩ = some (.int .i64 j):=xw4
 have xw5:W.cell? ⟨w.heap.size,6,none⟩ = some (.bool s2):=by rw [← hW];simp [go_sem]
 have dw5:W.drew.cell? ⟨w.heap.size,6,none⟩ = some (.bool s2):=xw5
 have xw6:W.cell? ⟨w.heap.size,7,none⟩ = some (.slice p2 l2 c2):=by rw [← hW];simp [go_sem]
 have dw6:W.drew.cell? ⟨w.heap.size,7,none⟩ = some (.slice p2 l2 c2):=xw6
 have xw7:W.cell? ⟨w.heap.size,8,none⟩ = some (.slice q2 k2 d2):=by rw [← hW];simp [go_sem]
 have dw7:W.drew.cell? ⟨w.heap.size,8,none⟩ = some (.slice q2 k2 d2):=xw7
 have xw8:W.cell? ⟨w.heap.size + 1,1,none⟩ = some (.int .i64 i2):=by rw [← hW];simp [go_sem]
 have dw8:W.drew.cell? ⟨w.heap.size + 1,1,none⟩ = some (.int .i64 i2):=xw8
 have xw9:W.cell? ⟨w.heap.size + 1,2,none⟩ = some (.bool s5):=by rw [← hW];simp [go_sem]
 have dw9:W.drew.cell? ⟨w.heap.size + 1,2,none⟩ = some (.bool s5):=xw9
 have xw10:W.cell? ⟨w.heap.size + 1,3,none⟩ = some (.slice p5 l5 c5):=by rw [← hW];simp [go_sem]
 have dw10:W.drew.cell? ⟨w.heap.size + 1,3,none⟩ = some (.slice p5 l5 c5):=xw10
 have xw11:W.cell? ⟨w.heap.size + 1,4,none⟩ = some (.slice q5 k5 d5):=by rw [← hW];simp [go_sem]
 have dw11:W.drew.cell? ⟨w.heap.size + 1,4,none⟩ = some (.slice q5 k5 d5):=xw11
 have xw12:W.cell? ⟨w.heap.size + 1,5,none⟩ = some (.int .i64 j2):=by rw [← hW];simp [go_sem]
 have dw12:W.drew.cell? ⟨w.heap.size + 1,5,none⟩ = some (.int .i64 j2):=xw12
 have xw13:W.cell? ⟨w.heap.size + 1,6,none⟩ = some (.bool s6):=by rw [← hW];simp [go_sem]
 have dw13:W.drew.cell? ⟨w.heap.size + 1,6,none⟩ = some (.bool s6):=xw13
 have xw14:W.cell? ⟨w.heap.size + 1,7,none⟩ = some (.slice p6 l6 c6):=by rw [← hW];simp [go_sem]
 have dw14:W.drew.cell? ⟨w.heap.size + 1,7,none⟩ = some (.slice p6 l6 c6):=xw14
 have xw15:W.cell? ⟨w.heap.size + 1,8,none⟩ = some (.slice q6 k6 d6):=by rw [← hW];simp [go_sem]
 have dw15:W.drew.cell? ⟨w.heap.size + 1,8,none⟩ = some (.slice q6 k6 d6):=xw15
 obtain ⟨r0,rz0,r1,rz1,r2,rz2,r3,rz3,r4,rz4,r5,rz5,r6,rz6,r7,rz7,r8,rz8⟩:W.cell? ⟨w.heap.size + 2,0,none⟩ = some (.bool false)∧W.frozen? ⟨w.heap.size + 2,0,none⟩ = false∧W.cell? ⟨w.heap.size + 2,1,none⟩ = some (.int .i64 0)∧W.frozen? ⟨w.heap.size + 2,1,none⟩ = false∧W.cell? ⟨w.heap.size + 2,2,none⟩ = some (.bool false)∧W.frozen? ⟨w.heap.size + 2,2,none⟩ = false∧W.cell? ⟨w.heap.size + 2,3,none⟩ = some (.slice none 0 0)∧W.frozen? ⟨w.heap.size + 2,3,none⟩ = false∧W.cell? ⟨w.heap.size + 2,4,none⟩ = some (.slice none 0 0)∧W.frozen? ⟨w.heap.size + 2,4,none⟩ = false∧W.cell? ⟨w.heap.size + 2,5,none⟩ = some (.int .i64 0)∧W.frozen? ⟨w.heap.size + 2,5,none⟩ = false∧W.cell? ⟨w.heap.size + 2,6,none⟩ = some (.bool false)∧W.frozen? ⟨w.heap.size + 2,6,none⟩ = false∧W.cell? ⟨w.heap.size + 2,7,none⟩ = some (.slice none 0 0)∧W.frozen? ⟨w.heap.size + 2,7,none⟩ = false∧W.cell? ⟨w.heap.size + 2,8,none⟩ = some (.slice none 0 0)∧W.frozen? ⟨w.heap.size + 2,8,none⟩ = false:=by rw [← hW];simp [go_sem]
 clear hW
 have hn1:w.heap.size + 2≠w.heap.size:=by omega
 have hn2:w.heap.size + 2≠w.heap.size + 1:=by omega
 go_region_held3 (fun w'=>w'.cell? ⟨w.heap.size,1,none⟩ = some (.int .i64 i)∧w'.cell? ⟨w.heap.size,2,none⟩ = some (.bool s)∧w'.cell? ⟨w.heap.size,3,none⟩ = some (.slice p l c)∧w'.cell? ⟨w.heap.size,4,none⟩ = some (.slice q k d)∧w'.cell? ⟨w.heap.size,5,none⟩ = some (.int .i64 j)∧w'.cell? ⟨w.heap.size,6,none⟩ = some (.bool s2)∧w'.cell? ⟨w.heap.size,7,none⟩ = some (.slice p2 l2 c2)∧w'.cell? ⟨w.heap.size,8,none⟩ = some (.slice q2 k2 d2)∧w'.cell? ⟨w.heap.size + 1,1,none⟩ = some (.int .i64 i2)∧w'.cell? ⟨w.heap.size + 1,2,none⟩ = some (.bool s5)∧w'.cell? ⟨w.heap.size + 1,3,none⟩ = some (.slice p5 l5 c5)∧w'.cell? ⟨w.heap.size + 1,4,none⟩ = some (.slice q5 k5 d5)∧w'.cell? ⟨w.heap.size + 1,5,none⟩ = some (.int .i64 j2)∧w'.cell? ⟨w.heap.size + 1,6,none⟩ = some (.bool s6)∧w'.cell? ⟨w.heap.size + 1,7,none⟩ = some (.slice p6 l6 c6)∧w'.cell? ⟨w.heap.size + 1,8,none⟩ = some (.slice q6 k6 d6)) (first | (with_reducible exact ⟨xw0,xw1,xw2,xw3,xw4,xw5,xw6,xw7,xw8,xw9,xw10,xw11,xw12,xw13,xw14,xw15⟩) | (with_reducible exact ⟨dw0,dw1,dw2,dw3,dw4,dw5,dw6,dw7,dw8,dw9,dw10,dw11,dw12,dw13,dw14,dw15⟩) | (with_reducible exact ⟨wA0,wA1,wA2,wA3,wA4,wA5,wA6,wA7,wA8,wA9,wA10,wA11,wA12,wA13,wA14,wA15⟩) | (with_reducible exact ⟨wB0,wB1,wB2,wB3,wB4,wB5,wB6,wB7,wB8,wB9,wB10,wB11,wB12,wB13,wB14,wB15⟩) | (exact ⟨(CF9 hn1 wB0),(CF9 hn1 wB1),(CF9 hn1 wB2),(CF9 hn1 wB3),(CF9 hn1 wB4),(CF9 hn1 wB5),(CF9 hn1 wB6),(CF9 hn1 wB7),(CF9 hn2 wB8),(CF9 hn2 wB9),(CF9 hn2 wB10),(CF9 hn2 wB11),(CF9 hn2 wB12),(CF9 hn2 wB13),(CF9 hn2 wB14),(CF9 hn2 wB15)⟩)) (first | (go_at_call 156;refine (hl _ ?q0).mono ?_;(case q0=>exact kw.drew);rintro e wA ⟨rfl,gA⟩;have kA:Kp W wA:=Kp.trans (Kp.drew (Kp.refl _)) gA;have wA0:=kkeep kA xw0;have wA1:=kkeep kA xw1;have wA2:=kkeep kA xw2;have wA3:=kkeep kA xw3;have wA4:=kkeep kA xw4;have wA5:=kkeep kA xw5;have wA6:=kkeep kA xw6;have wA7:=kkeep kA xw7;have wA8:=kkeep kA xw8;have wA9:=kkeep kA xw9;have wA10:=kkeep kA xw10;have wA11:=kkeep kA xw11;have wA12:=kkeep kA xw12;have wA13:=kkeep kA xw13;have wA14:=kkeep kA xw14;have wA15:=kkeep kA xw15) | (go_at_call 157;refine (hg _ ?q1).mono ?_;(case q1=>exact kw.trans kA);rintro e wB ⟨rfl,gB⟩;have kB:Kp W wB:=Kp.trans kA gB;have wB0:=kkeep kB xw0;have wB1:=kkeep kB xw1;have wB2:=kkeep kB xw2;have wB3:=kkeep kB xw3;have wB4:=kkeep kB xw4;have wB5:=kkeep kB xw5;have wB6:=kkeep kB xw6;have wB7:=kkeep kB xw7;have wB8:=kkeep kB xw8;have wB9:=kkeep kB xw9;have wB10:=kkeep kB xw10;have wB11:=kkeep kB xw11;have wB12:=kkeep kB xw12;have wB13:=kkeep kB xw13;have wB14:=kkeep kB xw14;have wB15:=kkeep kB xw15;obtain ⟨R0,Rz0,R1,Rz1,R2,Rz2,R3,Rz3,R4,Rz4,R5,Rz5,R6,Rz6,R7,Rz7,R8,Rz8⟩:=AK9 kB ⟨r0,rz0,r1,rz1,r2,rz2,r3,rz3,r4,rz4,r5,rz5,r6,rz6,r7,rz7,r8,rz8⟩))
 all_goals (
  go_wp2
  exact bodyPost_ret (v:=.agg #[.bool false,.int .i64 i3,.bool s7,.slice p7 l7 c7,.slice q7 k7 d7,.int .i64 j3,.bool s8,.slice p8 l8 c8,.slice q8 k8 d8]) (by simp [results,Tryz.results131,go_sem,R0,R1,R2,R3,R4,R5,R6,R7,R8]) rfl ⟨rfl,KS9 ((Kp.trans kw kB)) (by first | omega | (simp <;> omega))⟩)
theorem hullTS_ (i j i2 j2:Int) s p l c q k d s2 p2 l2 c2 q2 k2 d2 s5 p5 l5 c5 q5 k5 d5 s6 p6 l6 c6 q6 k6 d6 (w:World) (hl:∀ W:World,Kp w W→Calls Tryz.prog 156 #[.agg #[.int .i64 i,.bool s,.slice p l c,.slice q k d],.agg #[.int .i64 i2,.bool s5,.slice p5 l5 c5,.slice q5 k5 d5]] W fun e w'=>e = .returned (.agg #[.int .i64 i2,.bool s5,.slice p5 l5 c5,.slice q5 k5 d5])∧Kp W w') (hg:∀ W:World,Kp w W→Calls Tryz.prog 157 #[.agg #[.int .i64 j,.bool s2,.slice p2 l2 c2,.slice q2 k2 d2],.agg #[.int .i64 j2,.bool s6,.slice p6 l6 c6,.slice q6 k6 d6]] W fun e w'=>e = .returned (.agg #[.int .i64 j,.bool s2,.slice p2 l2 c2,.slice q2 k2 d2])∧Kp W w'):Calls Tryz.prog 131 #[.agg #[.bool false,.int .i64 i,.bool s,.slice p l c,.slice q k d,.int .i64 j,.bool s2,.slice p2 l2 c2,.slice q2 k2 d2],.agg #[.bool false,.int .i64 i2,.bool s5,.slice p5 l5 c5,.slice q5 k5 d5,.int .i64 j2,.bool s6,.slice p6 l6 c6,.slice q6 k6 d6]] w fun e w'=>e = .returned (.agg #[.bool false,.int .i64 i2,.bool s5,.slice p5 l5 c5,.slice q5 k5 d5,.int .i64 j,.bool s2,.slice p2 l2 c2,.slice q2 k2 d2])∧Kp w w' :=
 hullG_ i j i2 j2 s p l c q k d s2 p2 l2 c2 q2 k2 d2 s5 p5 l5 c5 q5 k5 d5 s6 p6 l6 c6 q6 k6 d6 i2 j s5 p5 l5 c5 q5 k5 d5 s2 p2 l2 c2 q2 k2 d2 w hl hg
set_option linter.unusedVariables false
theorem rquoWO_ (sa sb:Bool) (a1 a2 b1 b2:Nat) (P1 P2 Q1 Q2:Option Addr) (C1 C2 D1 D2:Nat) (w:World) (h1:Arr w P1 (dig a1)) (l1:(dig a1).length≤C1) (h2:Arr w P2 (dig a2)) (l2:(dig a2).length≤C2) (h3:Arr w Q1 (dig b1)) (l3:(dig b1).length≤D1) (h4:Arr w Q2 (dig b2)) (l4:(dig b2).length≤D2) (k1:len32 a1≤65536) (k2:len32 a2≤65536) (k3:len32 b1≤65536) (k4:len32 b2≤65536) (z2:a2≠0) (z4:b1≠0) (X D:Nat) (hX:X = a1 * b2) (hD:D = a2 * b1) (lX:len32 X≤65536) (lD:len32 D≤65536) :
  Calls Tryz.prog 31 #[.agg #[.bool sa,.slice P1 (dig a1).length C1,.slice P2 (dig a2).length C2],.agg #[.bool sb,.slice Q1 (dig b1).length D1,.slice Q2 (dig b2).length D2]] w fun e w'=>∃ (vn vd:Value) (a' b':Nat) (ng:Bool),e = .returned (.agg #[.bool ng,vn,vd])∧Own w' w.heap.size vn (dig a')∧Own w' w.heap.size vd (dig b')∧(FracT X D 0 a' b'∧(X≠0→ng = (sa ^^ sb)))∧Kp w w':=by
 have hz:D≠0:=by rw [hD];exact Nat.mul_ne_zero z2 z4
 obtain ⟨E1,g1⟩:∃ E,E = (dig a1).length:=⟨_,rfl⟩
 obtain ⟨E2,g2⟩:∃ E,E = (dig a2).length:=⟨_,rfl⟩
 obtain ⟨E3,g3⟩:∃ E,E = (dig b1).length:=⟨_,rfl⟩
 obtain ⟨E4,g4⟩:∃ E,E = (dig b2).length:=⟨_,rfl⟩
 rw [← g1,← g2,← g3,← g4]
 obtain ⟨B,hB⟩:∃ B,B = w.heap.size:=⟨_,rfl⟩
 obtain ⟨wA,hwA⟩:∃ wA,wA = w.alloc (.cells #[.bool sa,.slice P1 E1 C1,.slice P2 E2 C2] 43):=⟨_,rfl⟩
 obtain ⟨wB,hwB⟩:∃ wB,wB = wA.alloc (.cells #[.bool sb,.slice Q1 E3 D1,.slice Q2 E4 D2] 43):=⟨_,rfl⟩
 obtain ⟨w0,hw0⟩:∃ w0,w0 = wB.alloc (.cells #[.bool false,.slice none 0 0,.slice none 0 0] 43):=⟨_,rfl⟩
 have sA:wA.heap.size = B + 1:=by rw [hwA,hB];simp
 have sB:wB.heap.size = B + 2:=by rw [hwB];simp [sA]
 have kAB:Kp wA wB:=by rw [hwB];exact (Kp.refl wA).alloc _
 have x0:wB.cell? ⟨B,0,none⟩ = some (.bool sa):=kkeep kAB (by rw [hwA,hB];simp [go_sem])
 have x1:wB.cell? ⟨B,1,none⟩ = some (.slice P1 E1 C1):=kkeep kAB (by rw [hwA,hB];simp [go_sem])
 have x2:wB.cell? ⟨B,2,none⟩ = some (.slice P2 E2 C2):=kkeep kAB (by rw [hwA,hB];simp [go_sem])
 obtain ⟨y0,y1,y2⟩:wB.cell? ⟨B + 1,0,none⟩ = some (.bool sb)∧wB.cell? ⟨B + 1,1,none⟩ = some (.slice Q1 E3 D1)∧wB.cell? ⟨B + 1,2,none⟩ = some (.slice Q2 E4 D2):=by rw [hwB,← sA];simp [go_sem]
 obtain ⟨r0,r1,r2,f0,f1,f2⟩:w0.cell? ⟨B + 2,0,none⟩ = some (.bool false)∧w0.cell? ⟨B + 2,1,none⟩ = some (.slice none 0 0)∧w0.cell? ⟨B + 2,2,none⟩ = some (.slice none 0 0)∧w0.frozen? ⟨B + 2,0,none⟩ = false∧w0.frozen? ⟨B + 2,1,none⟩ = false∧w0.frozen? ⟨B + 2,2,none⟩ = false:=by rw [hw0,← sB];simp [go_sem]
 have kw:Kp w w0:=by rw [hw0,hwB,hwA];exact (((Kp.refl w).alloc _).alloc _).alloc _
 have kS:Kp wB w0:=by rw [hw0];exact (Kp.refl wB).alloc _
 have kD:Kp wB w0.drew:=kS.drew
 have hge:wB.heap.size≤(⟨B + 2,0,none⟩:Addr).block:=by simp only;omega
 have hlt:=cell_lt r0
 have HP1:Hid (∀ W:World,Kp w0 W→Calls Tryz.prog 70 #[.slice P1 E1 C1,.slice Q2 E4 D2] W fun e w'=>∃ p c,e = .returned (.slice p (dig X).length c)∧Arr w' p (dig X)∧(dig X).length≤c∧Kp W w'):=by
  show ∀ W:World,Kp w0 W→Calls Tryz.prog 70 #[.slice P1 E1 C1,.slice Q2 E4 D2] W fun e w'=>∃ p c,e = .returned (.slice p (dig X).length c)∧Arr w' p (dig X)∧(dig X).length≤c∧Kp W w'
  intro W k
  rw [hX];exact timesW _ _ a1 b2 W ⟨P1,C1,by rw [g1],h1.grown (kw.trans k),l1⟩ ⟨Q2,D2,by rw [g4],h4.grown (kw.trans k),l4⟩ (by omega) (by omega)
 have HP2:Hid (∀ W:World,Kp w0 W→Calls Tryz.prog 70 #[.slice P2 E2 C2,.slice Q1 E3 D1] W fun e w'=>∃ p c,e = .returned (.slice p (dig D).length c)∧Arr w' p (dig D)∧(dig D).length≤c∧Kp W w'):=by
  show ∀ W:World,Kp w0 W→Calls Tryz.prog 70 #[.slice P2 E2 C2,.slice Q1 E3 D1] W fun e w'=>∃ p c,e = .returned (.slice p (dig D).length c)∧Arr w' p (dig D)∧(dig D).length≤c∧Kp W w'
  intro W k
  rw [hD];exact timesW _ _ a2 b1 W ⟨P2,C2,by rw [g2],h2.grown (kw.trans k),l2⟩ ⟨Q1,D1,by rw [g3],h3.grown (kw.trans k),l3⟩ (by omega) (by omega)
 obtain ⟨NX,hNX⟩:∃ N,N = (dig X).length:=⟨_,rfl⟩
 obtain ⟨ND,hND⟩:∃ N,N = (dig D).length:=⟨_,rfl⟩
 obtain ⟨st,hst⟩:∃ st,st = (sa ^^ sb):=⟨_,rfl⟩
 have hst2:(sa != sb) = st:=by rw [hst]
 have hst3:(!decide (sa = sb)) = st:=by rw [hst];cases sa <;> cases sb <;> rfl
 have hst4:(!(sa == sb)) = st:=by rw [hst];cases sa <;> cases sb <;> rfl
 have HFR:Hid (∀ (p:Option Addr) (c:Nat) (q:Option Addr) (d:Nat) (W:World),Kp w0 W→Arr W p (dig X)→(dig X).length≤c→Arr W q (dig D)→(dig D).length≤d→Calls Tryz.prog 66 #[.bool st,.slice p (dig X).length c,.slice q (dig D).length d,.int .i64 0] W fun e w'=>∃ (vn vd:Value) (a' b':Nat) (ng:Bool),e = .returned (.agg #[.bool ng,vn,vd])∧Own w' W.heap.size vn (dig a')∧Own w' W.heap.size vd (dig b')∧(FracT X D 0 a' b'∧(X≠0→ng = st))∧Kp W w'):=by
  show ∀ (p:Option Addr) (c:Nat) (q:Option Addr) (d:Nat) (W:World),Kp w0 W→Arr W p (dig X)→(dig X).length≤c→Arr W q (dig D)→(dig D).length≤d→Calls Tryz.prog 66 #[.bool st,.slice p (dig X).length c,.slice q (dig D).length d,.int .i64 0] W fun e w'=>∃ (vn vd:Value) (a' b':Nat) (ng:Bool),e = .returned (.agg #[.bool ng,vn,vd])∧Own w' W.heap.size vn (dig a')∧Own w' W.heap.size vd (dig b')∧(FracT X D 0 a' b'∧(X≠0→ng = st))∧Kp W w'
  intro p c q d W kk ar ll ar' ll'
  have g:=fracW_ st (.slice p (dig X).length c) (.slice q (dig D).length d) (dig X) (dig D) 0 W ⟨p,c,rfl,ar,ll⟩ ⟨q,d,rfl,ar',ll'⟩ (Wd_dig _) (Wd_dig _) (by change len32 _≤_;omega) (by change len32 _≤_;omega) (by rw [val_dig];exact hz) (by decide)
  rw [val_dig,val_dig] at g
  exact g
 rw [← hNX,← hND] at HFR
 rw [← hNX] at HP1
 rw [← hND] at HP2
 rw [← hst]
 have HW:Hid (w0 = wB.alloc (.cells #[.bool false,.slice none 0 0,.slice none 0 0] 43)∧wB = wA.alloc (.cells #[.bool sb,.slice Q1 E3 D1,.slice Q2 E4 D2] 43)∧wA = w.alloc (.cells #[.bool sa,.slice P1 E1 C1,.slice P2 E2 C2] 43)∧B = w.heap.size∧Kp w w0):=⟨hw0,hwB,hwA,hB,kw⟩
 clear hNX hND hst hw0 hwB hwA hB sA sB kw kAB h1 l1 h2 l2 h3 l3 h4 l4 k1 k2 k3 k4 z2 z4 hX hD hz lX lD g1 g2 g3 g4
 go_enter Tryz.func31,Tryz.ntmps31
 go_upto_region 1 with fail
 rw [← HW.out.2.2.2.1]
 try rw [← HW.out.2.2.1]
 try rw [← HW.out.2.1]
 try rw [← HW.out.1]
 go_region_held3 (fun w'=>w'.cell? ⟨B,0,none⟩ = some (.bool sa)∧w'.cell? ⟨B,1,none⟩ = some (.slice P1 E1 C1)∧w'.cell? ⟨B,2,none⟩ = some (.slice P2 E2 C2)∧w'.cell? ⟨B + 1,0,none⟩ = some (.bool sb)∧w'.cell? ⟨B + 1,1,none⟩ = some (.slice Q1 E3 D1)∧w'.cell? ⟨B + 1,2,none⟩ = some (.slice Q2 E4 D2)) (refine ⟨kkeep (W:=wB) ?_ x0,kkeep (W:=wB) ?_ x1,kkeep (W:=wB) ?_ x2,kkeep (W:=wB) ?_ y0,kkeep (W:=wB) ?_ y1,kkeep (W:=wB) ?_ y2⟩ <;> ((repeat (first | with_reducible exact kC | with_reducible exact kB | with_reducible exact kA | with_reducible exact kS | with_reducible exact kD | with_reducible exact Kp.refl _ | with_reducible refine Kp.drew ?_ | refine Kp.setCell ?_ hge _));done)) (first | (go_at_call 66;have hh:=ar2;refine (HFR.out pp cc pq cq _ ?q1 ?q2 ll1 ?q3 ll2).mono ?_;(case q1=>((repeat (first | with_reducible exact kk2 | with_reducible exact kk1 | with_reducible exact Kp.refl _ | with_reducible refine Kp.drew ?_));done));(case q2=>exact ar1.grown k12);(case q3=>exact ar2);rintro e v3 ⟨vn,vd,a',b',ng,rfl,o1,o2,ff,k23⟩;have kk3:Kp w0 v3:=Kp.trans ?q4 k23;(case q4=>((repeat (first | with_reducible exact kk2 | with_reducible exact kk1 | with_reducible exact Kp.refl _ | with_reducible refine Kp.drew ?_));done));have kC:Kp wB v3:=kS.trans kk3;obtain ⟨pn,cn,rfl,an,ln⟩:=o1.arr;obtain ⟨pd,cd,rfl,ad,ld⟩:=o2.arr;have R0:=kkeep kk3 r0;have R1:=kkeep kk3 r1;have R2:=kkeep kk3 r2;have F0:=(kfro kk3 hlt).trans f0;have F1:=(kfro kk3 hlt).trans f1;have F2:=(kfro kk3 hlt).trans f2) | (go_at_call 70;have hh:=ar1;refine (HP2.out _ ?q5).mono ?_;(case q5=>((repeat (first | with_reducible exact kk2 | with_reducible exact kk1 | with_reducible exact Kp.refl _ | with_reducible refine Kp.drew ?_));done));rintro e v2 ⟨pq,cq,rfl,ar2,ll2,k12⟩;have kk2:Kp w0 v2:=Kp.trans ?q7 k12;(case q7=>((repeat (first | with_reducible exact kk2 | with_reducible exact kk1 | with_reducible exact Kp.refl _ | with_reducible refine Kp.drew ?_));done));have kB:Kp wB v2:=kS.trans kk2) | (go_at_call 70;refine (HP1.out _ ?q8).mono ?_;(case q8=>((repeat (first | with_reducible exact kk2 | with_reducible exact kk1 | with_reducible exact Kp.refl _ | with_reducible refine Kp.drew ?_));done));rintro e v1 ⟨pp,cc,rfl,ar1,ll1,k01⟩;have kk1:Kp w0 v1:=Kp.trans ?q10 k01;(case q10=>((repeat (first | with_reducible exact kk2 | with_reducible exact kk1 | with_reducible exact Kp.refl _ | with_reducible refine Kp.drew ?_));done));have kA:Kp wB v1:=kS.trans kk1))
 have hs1:=Below.size kk2
 obtain ⟨wz,hwz⟩:∃ wz,wz = ((v3.setCell ⟨B + 2,0,none⟩ (.bool ng)).setCell ⟨B + 2,1,none⟩ (.slice pn (dig a').length cn)).setCell ⟨B + 2,2,none⟩ (.slice pd (dig b').length cd):=⟨_,rfl⟩
 have kb:Kb (B + 2) v3 wz:=by rw [hwz];exact (((Kb.refl (B + 2) v3).setCell 0 _).setCell 1 _).setCell 2 _
 have O1:=o1.kb kb (fun g hg=>by have:=o1.lt g hg;omega)
 have O2:=o2.kb kb (fun g hg=>by have:=o2.lt g hg;omega)
 have hkw:Kp w wz:=kb.kp (HW.out.2.2.2.2.trans kk3) (by rw [HW.out.2.2.2.1];omega)
 have HO:Hid (Own wz w.heap.size (.slice pn (dig a').length cn) (dig a')∧Own wz w.heap.size (.slice pd (dig b').length cd) (dig b')∧(FracT X D 0 a' b'∧(X≠0→ng = st))∧Kp w wz∧wz = ((v3.setCell ⟨B + 2,0,none⟩ (.bool ng)).setCell ⟨B + 2,1,none⟩ (.slice pn (dig a').length cn)).setCell ⟨B + 2,2,none⟩ (.slice pd (dig b').length cd)):=⟨O1.mono (by have e9:=HW.out.2.2.2.1;first | omega | exact Nat.le_trans (show w.heap.size≤v1.heap.size by omega) (Nat.le_refl _)),O2.mono (by have e9:=HW.out.2.2.2.1;first | omega | exact Nat.le_trans (show w.heap.size≤v1.heap.size by omega) (Nat.le_refl _)),ff,hkw,hwz⟩
 clear hs1 hwz kb O1 O2 hkw o1 o2 ff k23 kk3 kC an ln ad ld kk2 k12 kB ar2 ll2 kk1 k01 kA ar1 ll1 HP1 HP2 HFR kS kD hge
 go_wp2
 obtain ⟨q1,q2,q3,q4,q5⟩:=HO.out
 rw [q5] at q1 q2 q4
 exact bodyPost_ret (v:=.agg #[.bool ng,.slice pn (dig a').length cn,.slice pd (dig b').length cd]) (by simp [results,Tryz.results31,go_sem,R0,R1,R2]) rfl ⟨_,_,a',b',ng,rfl,q1,q2,q3,q4⟩
theorem xquoW_ (V:Int) (U:Nat) (t:Bool) (hU:U≠0) (C C' N N':Nat) (hN:N + N'≤2000000) s p l c q k d s2 p2 l2 c2 q2 k2 d2 (B1 B2:Nat) (w:World) (h1:XP B1 w s p l c q k d V C N) (h2:XP B2 w s2 p2 l2 c2 q2 k2 d2 (rvI t U) C' N'):Calls Tryz.prog 31 #[.agg #[.bool s,.slice p l c,.slice q k d],.agg #[.bool s2,.slice p2 l2 c2,.slice q2 k2 d2]] w fun e w'=>∃ s3 p3 l3 c3 q3 k3 d3,e = .returned (.agg #[.bool s3,.slice p3 l3 c3,.slice q3 k3 d3])∧XP w.heap.size w' s3 p3 l3 c3 q3 k3 d3 (rvI t 1 * V * (C':Int)) (C * U) (2 * (N + N') + 3)∧Kp w w':=by
 obtain ⟨a1,a2,u1,u2,u3⟩:=h1
 obtain ⟨b1,b2,v1,v2,v3⟩:=h2
 obtain ⟨P1,C1,e1,x1,y1⟩:=u1.arr
 obtain ⟨P2,C2,e2,x2,y2⟩:=u2.arr
 obtain ⟨Q1,D1,e3,x3,y3⟩:=v1.arr
 obtain ⟨Q2,D2,e4,x4,y4⟩:=v2.arr
 rw [e1,e2,e3,e4]
 obtain ⟨X,hX⟩:∃ X,X = a1 * b2:=⟨_,rfl⟩
 obtain ⟨D,hD⟩:∃ D,D = a2 * b1:=⟨_,rfl⟩
 have ba1:=u3.2.2.2.1
 have ba2:=u3.2.2.2.2
 have bb1:=v3.2.2.2.1
 have bb2:=v3.2.2.2.2
 have bX:blen X≤N + N':=by rw [hX];exact blen_mulX _ _ _ _ ba1 bb2
 have bD:blen D≤N + N':=by rw [hD];exact blen_mulX _ _ _ _ ba2 bb1
 have zb:b1≠0:=by
  intro z
  obtain ⟨g1,g2,g3,-,-⟩:=v3
  rw [z] at g3
  have q1:(U:Int) * (b2:Int)≠0:=by have:(0:Int) < (U:Int) * (b2:Int):=Int.mul_pos (by omega) (by omega);omega
  unfold rvI at g3
  cases s2 <;> cases t <;> simp [Int.neg_mul] at g3 <;> omega
 have hzD:D≠0:=by rw [hD];exact Nat.mul_ne_zero u3.1 zb
 refine (rquoWO_ s s2 a1 a2 b1 b2 P1 P2 Q1 Q2 C1 C2 D1 D2 w x1 y1 x2 y2 x3 y3 x4 y4 (dlen a1 65536 (by omega)) (dlen a2 65536 (by omega)) (dlen b1 65536 (by omega)) (dlen b2 65536 (by omega)) u3.1 zb X D hX hD (dlen X 65536 (by omega)) (dlen D 65536 (by omega))).mono ?_
 rintro e w' ⟨vn,vd,a',b',ng,rfl,o1,o2,⟨hF,hn⟩,g⟩
 obtain ⟨p3,c3,rfl,-,-⟩:=o1.arr
 obtain ⟨q3,d3,rfl,-,-⟩:=o2.arr
 exact ⟨ng,p3,_,c3,q3,_,d3,rfl,⟨a',b',o1,o2,XF.quo s s2 ng a1 a2 b1 b2 a' b' V U t C C' N N' _ u3 v3 hU hF.1.1 (by have h:=frac_x X D a' b' ng _ hzD hF.1 hn;rw [hX] at h;rw [hD,Int.natCast_mul] at h;exact h) (by have g1:=hF.1.2.2.2.1;simp at g1;omega) (by have g1:=hF.1.2.2.2.2;simp at g1;omega)⟩,g⟩
end Go.Proofs.YtaldmbeomdfafaaGreatDoor
