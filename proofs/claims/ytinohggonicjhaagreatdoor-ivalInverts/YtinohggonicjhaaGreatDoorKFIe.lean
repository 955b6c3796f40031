import Derived.Test.YtinohggonicjhaaGreatDoorKFIa
import Derived.Test.YtinohggonicjhaaGreatDoorKIYu
set_option maxHeartbeats 4000000
set_option maxRecDepth 20000
namespace Go.Proofs.YtinohggonicjhaaGreatDoor
open Go.RowKit
set_option linter.unusedVariables false
theorem inv6c_ (N:Bool) (i j:Int) s p l c q k d s2 p2 l2 c2 q2 k2 d2 (P1 P2 P3 P4 P5 P6 P7:World→Value→Prop) (w:World) (hset:∀ (W:World) (v:Value) (x:Addr) (u:Value),x.block < w.heap.size + 2→P7 W v→P7 (W.setCell x u) v) (hk2:∀ (W W':World) (v:Value),Kp W W'→P2 W v→P2 W' v) (hU1:∀ W:World,Kp w W→w.heap.size + 2≤W.heap.size→Calls Tryz.prog 44 #[.agg #[.bool N,.int .i64 i,.bool s,.slice p l c,.slice q k d,.int .i64 j,.bool s2,.slice p2 l2 c2,.slice q2 k2 d2]] W fun e w'=>∃ v,e = .returned v∧P1 w' v∧Kp W w') (hV1:∀ (W:World) (v:Value),Kp w W→w.heap.size + 2≤W.heap.size→P1 W v→Calls Tryz.prog 43 #[v] W fun e w'=>∃ v',e = .returned v'∧P2 w' v'∧Kp W w') (hM1:∀ W:World,Kp w W→w.heap.size + 2≤W.heap.size→Calls Tryz.prog 45 #[.agg #[.bool N,.int .i64 i,.bool s,.slice p l c,.slice q k d,.int .i64 j,.bool s2,.slice p2 l2 c2,.slice q2 k2 d2]] W fun e w'=>∃ v,e = .returned v∧P3 w' v∧Kp W w') (hU2:∀ (W:World) (v:Value),Kp w W→w.heap.size + 2≤W.heap.size→P3 W v→Calls Tryz.prog 44 #[v] W fun e w'=>∃ v',e = .returned v'∧P4 w' v'∧Kp W w') (hV2:∀ (W:World) (v:Value),Kp w W→w.heap.size + 2≤W.heap.size→P4 W v→Calls Tryz.prog 43 #[v] W fun e w'=>∃ v',e = .returned v'∧P5 w' v'∧Kp W w') (hM2:∀ (W:World) (v:Value),Kp w W→w.heap.size + 2≤W.heap.size→P5 W v→Calls Tryz.prog 45 #[v] W fun e w'=>∃ v',e = .returned v'∧P6 w' v'∧Kp W w') (hH:∀ (W:World) (u v:Value),Kp w W→w.heap.size + 2≤W.heap.size→P2 W u→P6 W v→Calls Tryz.prog 42 #[u,v] W fun e w'=>∃ (N7:Bool) (i7 j7:Int) (s5:Bool) (p5:Option Addr) (l5 c5:Nat) (q5:Option Addr) (k5 d5:Nat) (s6:Bool) (p6:Option Addr) (l6 c6:Nat) (q6:Option Addr) (k6 d6:Nat),e = .returned (.agg #[.bool N7,.int .i64 i7,.bool s5,.slice p5 l5 c5,.slice q5 k5 d5,.int .i64 j7,.bool s6,.slice p6 l6 c6,.slice q6 k6 d6])∧P7 w' (.agg #[.bool N7,.int .i64 i7,.bool s5,.slice p5 l5 c5,.slice q5 k5 d5,.int .i64 j7,.bool s6,.slice p6 l6 c6,.slice q6 k6 d6])∧Kp W w'):Calls Tryz.prog 26 #[.agg #[.bool N,.int .i64 i,.bool s,.slice p l c,.slice q k d,.int .i64 j,.bool s2,.slice p2 l2 c2,.slice q2 k2 d2]] w fun e w'=>∃ v,e = .returned v∧P7 w' v∧Kp w w':=by
  go_enter Tryz.func26,Tryz.ntmps26
  go_wp2
  generalize hW:((w.alloc (.cells #[.bool N,.int .i64 i,.bool s,.slice p l c,.slice q k d,.int .i64 j,.bool s2,.slice p2 l2 c2,.slice q2 k2 d2] 52)).alloc (.cells #[.bool false,.int .i64 0,.bool false,.slice none 0 0,.slice none 0 0,.int .i64 0,.bool false,.slice none 0 0,.slice none 0 0] 52)) = W
  have kw:Kp w W:=by rw [← hW];exact ((Kp.refl w).alloc _).alloc _
  have xw0:W.cell? ⟨w.heap.size,0,none⟩ = some (.bool N):=by rw [← hW];simp [go_sem]
  have dw0:W.drew.cell? ⟨w.heap.size,0,none⟩ = some (.bool N):=xw0
  have xw1:W.cell? ⟨w.heap.size,1,none⟩ = some (.int .i64 i):=by rw [← hW];simp [go_sem]
  have dw1:W.drew.cell? ⟨w.heap.size,1,none⟩ = some (.int .i64 i):=xw1
  have xw2:W.cell? ⟨w.heap.size,2,none⟩ = some (.bool s):=by rw [← hW];simp [go_sem]
  have dw2:W.drew.cell? ⟨w.heap.size,2,none⟩ = some (.bool s):=xw2
  have xw3:W.cell? ⟨w.heap.size,3,none⟩ = some (.slice p l c):=by rw [← hW];simp [go_sem]
  have dw3:W.drew.cell? ⟨w.heap.size,3,none⟩ = some (.slice p l c):=xw3
  have xw4:W.cell? ⟨w.heap.size,4,none⟩ = some (.slice q k d):=by rw [← hW];simp [go_sem]
  have dw4:W.drew.cell? ⟨w.heap.size,4,none⟩ = some (.slice q k d):=xw4
  have xw5:W.cell? ⟨w.heap.size,5,none⟩ = some (.int .i64 j):=by rw [← hW];simp [go_sem]
  have dw5:W.drew.cell? ⟨w.heap.size,5,none⟩ = some (.int .i64 j):=xw5
  have xw6:W.cell? ⟨w.heap.size,6,none⟩ = some (.bool s2):=by rw [← hW];simp [go_sem]
  have dw6:W.drew.cell? ⟨w.heap.size,6,none⟩ = some (.bool s2):=xw6
  have xw7:W.cell? ⟨w.heap.size,7,none⟩ = some (.slice p2 l2 c2):=by rw [← hW];simp [go_sem]
  have dw7:W.drew.cell? ⟨w.heap.size,7,none⟩ = some (.slice p2 l2 c2):=xw7
  have xw8:W.cell? ⟨w.heap.size,8,none⟩ = some (.slice q2 k2 d2):=by rw [← hW];simp [go_sem]
  have dw8:W.drew.cell? ⟨w.heap.size,8,none⟩ = some (.slice q2 k2 d2):=xw8
  have r0:W.cell? ⟨w.heap.size + 1,0,none⟩ = some (.bool false):=by rw [← hW];simp [go_sem]
  have rz0:W.frozen? ⟨w.heap.size + 1,0,none⟩ = false:=by rw [← hW];simp [go_sem]
  have r1:W.cell? ⟨w.heap.size + 1,1,none⟩ = some (.int .i64 0):=by rw [← hW];simp [go_sem]
  have rz1:W.frozen? ⟨w.heap.size + 1,1,none⟩ = false:=by rw [← hW];simp [go_sem]
  have r2:W.cell? ⟨w.heap.size + 1,2,none⟩ = some (.bool false):=by rw [← hW];simp [go_sem]
  have rz2:W.frozen? ⟨w.heap.size + 1,2,none⟩ = false:=by rw [← hW];simp [go_sem]
  have r3:W.cell? ⟨w.heap.size + 1,3,none⟩ = some (.slice none 0 0):=by rw [← hW];simp [go_sem]
  have rz3:W.frozen? ⟨w.heap.size + 1,3,none⟩ = false:=by rw [← hW];simp [go_sem]
  have r4:W.cell? ⟨w.heap.size + 1,4,none⟩ = some (.slice none 0 0):=by rw [← hW];simp [go_sem]
  have rz4:W.frozen? ⟨w.heap.size + 1,4,none⟩ = false:=by rw [← hW];simp [go_sem]
  have r5:W.cell? ⟨w.heap.size + 1,5,none⟩ = some (.int .i64 0):=by rw [← hW];simp [go_sem]
  have rz5:W.frozen? ⟨w.heap.size + 1,5,none⟩ = false:=by rw [← hW];simp [go_sem]
  have r6:W.cell? ⟨w.heap.size + 1,6,none⟩ = some (.bool false):=by rw [← hW];simp [go_sem]
  have rz6:W.frozen? ⟨w.heap.size + 1,6,none⟩ = false:=by rw [← hW];simp [go_sem]
  have r7:W.cell? ⟨w.heap.size + 1,7,none⟩ = some (.slice none 0 0):=by rw [← hW];simp [go_sem]
  have rz7:W.frozen? ⟨w.heap.size + 1,7,none⟩ = false:=by rw [← hW];simp [go_sem]
  have r8:W.cell? ⟨w.heap.size + 1,8,none⟩ = some (.slice none 0 0):=by rw [← hW];simp [go_sem]
  have rz8:W.frozen? ⟨w.heap.size + 1,8,none⟩ = false:=by rw [← hW];simp [go_sem]
  have hn1:w.heap.size + 1≠w.heap.size:=by omega
  have hsz:w.heap.size + 2≤W.heap.size:=cell_lt r0
  clear hW
  go_region_held3 (fun w'=>w'.cell? ⟨w.heap.size,0,none⟩ = some (.bool N)∧w'.cell? ⟨w.heap.size,1,none⟩ = some (.int .i64 i)∧w'.cell? ⟨w.heap.size,2,none⟩ = some (.bool s)∧w'.cell? ⟨w.heap.size,3,none⟩ = some (.slice p l c)∧w'.cell? ⟨w.heap.size,4,none⟩ = some (.slice q k d)∧w'.cell? ⟨w.heap.size,5,none⟩ = some (.int .i64 j)∧w'.cell? ⟨w.heap.size,6,none⟩ = some (.bool s2)∧w'.cell? ⟨w.heap.size,7,none⟩ = some (.slice p2 l2 c2)∧w'.cell? ⟨w.heap.size,8,none⟩ = some (.slice q2 k2 d2)) (first | (with_reducible exact ⟨xw0,xw1,xw2,xw3,xw4,xw5,xw6,xw7,xw8⟩) | (with_reducible exact ⟨dw0,dw1,dw2,dw3,dw4,dw5,dw6,dw7,dw8⟩) | (with_reducible exact ⟨wA0,wA1,wA2,wA3,wA4,wA5,wA6,wA7,wA8⟩) | (with_reducible exact ⟨wB0,wB1,wB2,wB3,wB4,wB5,wB6,wB7,wB8⟩) | (with_reducible exact ⟨wC0,wC1,wC2,wC3,wC4,wC5,wC6,wC7,wC8⟩) | (with_reducible exact ⟨wD0,wD1,wD2,wD3,wD4,wD5,wD6,wD7,wD8⟩) | (with_reducible exact ⟨wE0,wE1,wE2,wE3,wE4,wE5,wE6,wE7,wE8⟩) | (with_reducible exact ⟨wF0,wF1,wF2,wF3,wF4,wF5,wF6,wF7,wF8⟩) | (with_reducible exact ⟨wG0,wG1,wG2,wG3,wG4,wG5,wG6,wG7,wG8⟩) | (exact ⟨((World.cell?_setCell_far _ _ _ _ hn1).trans ((World.cell?_setCell_far _ _ _ _ hn1).trans ((World.cell?_setCell_far _ _ _ _ hn1).trans ((World.cell?_setCell_far _ _ _ _ hn1).trans ((World.cell?_setCell_far _ _ _ _ hn1).trans ((World.cell?_setCell_far _ _ _ _ hn1).trans ((World.cell?_setCell_far _ _ _ _ hn1).trans ((World.cell?_setCell_far _ _ _ _ hn1).trans ((World.cell?_setCell_far _ _ _ _ hn1).trans wG0))))))))),((World.cell?_setCell_far _ _ _ _ hn1).trans ((World.cell?_setCell_far _ _ _ _ hn1).trans ((World.cell?_setCell_far _ _ _ _ hn1).trans ((World.cell?_setCell_far _ _ _ _ hn1).trans ((World.cell?_setCell_far _ _ _ _ hn1).trans ((World.cell?_setCell_far _ _ _ _ hn1).trans ((World.cell?_setCell_far _ _ _ _ hn1).trans ((World.cell?_setCell_far _ _ _ _ hn1).trans ((World.cell?_setCell_far _ _ _ _ hn1).trans wG1))))))))),((World.cell?_setCell_far _ _ _ _ hn1).trans ((World.cell?_setCell_far _ _ _ _ hn1).trans ((World.cell?_setCell_far _ _ _ _ hn1).trans ((World.cell?_setCell_far _ _ _ _ hn1).trans ((World.cell?_setCell_far _ _ _ _ hn1).trans ((World.cell?_setCell_far _ _ _ _ hn1).trans ((World.cell?_setCell_far _ _ _ _ hn1).trans ((World.cell?_setCell_far _ _ _ _ hn1).trans ((World.cell?_setCell_far _ _ _ _ hn1).trans wG2))))))))),((World.cell?_setCell_far _ _ _ _ hn1).trans ((World.cell?_setCell_far _ _ _ _ hn1).trans ((World.cell?_setCell_far _ _ _ _ hn1).trans ((World.cell?_setCell_far _ _ _ _ hn1).trans ((World.cell?_setCell_far _ _ _ _ hn1).trans ((World.cell?_setCell_far _ _ _ _ hn1).trans ((World.cell?_setCell_far _ _ _ _ hn1).trans ((World.cell?_setCell_far _ _ _ _ hn1).trans ((World.cell?_setCell_far _ _ _ _ hn1).trans wG3))))))))),((World.cell?_setCell_far _ _ _ _ hn1).trans ((World.cell?_setCell_far _ _ _ _ hn1).trans ((World.cell?_setCell_far _ _ _ _ hn1).trans ((World.cell?_setCell_far _ _ _ _ hn1).trans ((World.cell?_setCell_far _ _ _ _ hn1).trans ((World.cell?_setCell_far _ _ _ _ hn1).trans ((World.cell?_setCell_far _ _ _ _ hn1).trans ((World.cell?_setCell_far _ _ _ _ hn1).trans ((World.cell?_setCell_far _ _ _ _ hn1).trans wG4))))))))),((World.cell?_setCell_far _ _ _ _ hn1).trans ((World.cell?_setCell_far _ _ _ _ hn1).trans ((World.cell?_setCell_far _ _ _ _ hn1).trans ((World.cell?_setCell_far _ _ _ _ hn1).trans ((World.cell?_setCell_far _ _ _ _ hn1).trans ((World.cell?_setCell_far _ _ _ _ hn1).trans ((World.cell?_setCell_far _ _ _ _ hn1).trans ((World.cell?_setCell_far _ _ _ _ hn1).trans ((World.cell?_setCell_far _ _ _ _ hn1).trans wG5))))))))),((World.cell?_setCell_far _ _ _ _ hn1).trans ((World.cell?_setCell_far _ _ _ _ hn1).trans ((World.cell?_setCell_far _ _ _ _ hn1).trans ((World.cell?_setCell_far _ _ _ _ hn1).trans ((World.cell?_setCell_far _ _ _ _ hn1).trans ((World.cell?_setCell_far _ _ _ _ hn1).trans ((World.cell?_setCell_far _ _ _ _ hn1).trans ((World.cell?_setCell_far _ _ _ _ hn1).trans ((World.cell?_setCell_far _ _ _ _ hn1).trans wG6))))))))),((World.cell?_setCell_far _ _ _ _ hn1).trans ((World.cell?_setCell_far _ _ _ _ hn1).trans ((World.cell?_setCell_far _ _ _ _ hn1).trans ((World.cell?_setCell_far _ _ _ _ hn1).trans ((World.cell?_setCell_far _ _ _ _ hn1).trans ((World.cell?_setCell_far _ _ _ _ hn1).trans ((World.cell?_setCell_far _ _ _ _ hn1).trans ((World.cell?_setCell_far _ _ _ _ hn1).trans ((World.cell?_setCell_far _ _ _ _ hn1).trans wG7))))))))),((World.cell?_setCell_far _ _ _ _ hn1).trans ((World.cell?_setCell_far _ _ _ _ hn1).trans ((World.cell?_setCell_far _ _ _ _ hn1).trans ((World.cell?_setCell_far _ _ _ _ hn1).trans ((World.cell?_setCell_far _ _ _ _ hn1).trans ((World.cell?_setCell_far _ _ _ _ hn1).trans ((World.cell?_setCell_far _ _ _ _ hn1).trans ((World.cell?_setCell_far _ _ _ _ hn1).trans ((World.cell?_setCell_far _ _ _ _ hn1).trans wG8)))))))))⟩)) (first | (go_at_call_of 44 (Value.slice p l c);refine (hU1 _ kw.drew hsz).mono ?_;rintro e wA ⟨v1,rfl,hv1,gA⟩;have kA:Kp W wA:=Kp.trans (Kp.drew (Kp.refl _)) gA;have wA0:=kkeep kA xw0;have wA1:=kkeep kA xw1;have wA2:=kkeep kA xw2;have wA3:=kkeep kA xw3;have wA4:=kkeep kA xw4;have wA5:=kkeep kA xw5;have wA6:=kkeep kA xw6;have wA7:=kkeep kA xw7;have wA8:=kkeep kA xw8) | (go_at_call_of 43 v1;refine (hV1 _ v1 (kw.trans kA) (Nat.le_trans hsz (Below.size kA)) hv1).mono ?_;rintro e wB ⟨v2,rfl,hv2,gB⟩;have kB:Kp W wB:=Kp.trans kA gB;have wB0:=kkeep kB xw0;have wB1:=kkeep kB xw1;have wB2:=kkeep kB xw2;have wB3:=kkeep kB xw3;have wB4:=kkeep kB xw4;have wB5:=kkeep kB xw5;have wB6:=kkeep kB xw6;have wB7:=kkeep kB xw7;have wB8:=kkeep kB xw8) | (go_at_call_of 45 (Value.slice p l c);refine (hM1 _ (kw.trans kB) (Nat.le_trans hsz (Below.size kB))).mono ?_;rintro e wC ⟨v3,rfl,hv3,gC⟩;have kC:Kp W wC:=Kp.trans kB gC;have h2C:=hk2 _ _ _ gC hv2;have wC0:=kkeep kC xw0;have wC1:=kkeep kC xw1;have wC2:=kkeep kC xw2;have wC3:=kkeep kC xw3;have wC4:=kkeep kC xw4;have wC5:=kkeep kC xw5;have wC6:=kkeep kC xw6;have wC7:=kkeep kC xw7;have wC8:=kkeep kC xw8) | (go_at_call_of 44 v3;refine (hU2 _ v3 (kw.trans kC) (Nat.le_trans hsz (Below.size kC)) hv3).mono ?_;rintro e wD ⟨v4,rfl,hv4,gD⟩;have kD:Kp W wD:=Kp.trans kC gD;have h2D:=hk2 _ _ _ gD h2C;have wD0:=kkeep kD xw0;have wD1:=kkeep kD xw1;have wD2:=kkeep kD xw2;have wD3:=kkeep kD xw3;have wD4:=kkeep kD xw4;have wD5:=kkeep kD xw5;have wD6:=kkeep kD xw6;have wD7:=kkeep kD xw7;have wD8:=kkeep kD xw8) | (go_at_call_of 43 v4;refine (hV2 _ v4 (kw.trans kD) (Nat.le_trans hsz (Below.size kD)) hv4).mono ?_;rintro e wE ⟨v5,rfl,hv5,gE⟩;have kE:Kp W wE:=Kp.trans kD gE;have h2E:=hk2 _ _ _ gE h2D;have wE0:=kkeep kE xw0;have wE1:=kkeep kE xw1;have wE2:=kkeep kE xw2;have wE3:=kkeep kE xw3;have wE4:=kkeep kE xw4;have wE5:=kkeep kE xw5;have wE6:=kkeep kE xw6;have wE7:=kkeep kE xw7;have wE8:=kkeep kE xw8) | (go_at_call_of 45 v5;refine (hM2 _ v5 (kw.trans kE) (Nat.le_trans hsz (Below.size kE)) hv5).mono ?_;rintro e wF ⟨v6,rfl,hv6,gF⟩;have kF:Kp W wF:=Kp.trans kE gF;have h2F:=hk2 _ _ _ gF h2E;have wF0:=kkeep kF xw0;have wF1:=kkeep kF xw1;have wF2:=kkeep kF xw2;have wF3:=kkeep kF xw3;have wF4:=kkeep kF xw4;have wF5:=kkeep kF xw5;have wF6:=kkeep kF xw6;have wF7:=kkeep kF xw7;have wF8:=kkeep kF xw8) | (go_at_call 42;refine (hH _ v2 v6 (kw.trans kF) (Nat.le_trans hsz (Below.size kF)) h2F hv6).mono ?_;rintro e wG ⟨N7,i7,j7,s5,p5,l5,c5,q5,k5,d5,s6,p6,l6,c6,q6,k6,d6,rfl,hv7,gG⟩;have kG:Kp W wG:=Kp.trans kF gG;have wG0:=kkeep kG xw0;have wG1:=kkeep kG xw1;have wG2:=kkeep kG xw2;have wG3:=kkeep kG xw3;have wG4:=kkeep kG xw4;have wG5:=kkeep kG xw5;have wG6:=kkeep kG xw6;have wG7:=kkeep kG xw7;have wG8:=kkeep kG xw8;have R0:=kkeep kG r0;have Rz0:wG.frozen? ⟨w.heap.size + 1,0,none⟩ = false:=(kfro kG (cell_lt r0)).trans rz0;have R1:=kkeep kG r1;have Rz1:wG.frozen? ⟨w.heap.size + 1,1,none⟩ = false:=(kfro kG (cell_lt r1)).trans rz1;have R2:=kkeep kG r2;have Rz2:wG.frozen? ⟨w.heap.size + 1,2,none⟩ = false:=(kfro kG (cell_lt r2)).trans rz2;have R3:=kkeep kG r3;have Rz3:wG.frozen? ⟨w.heap.size + 1,3,none⟩ = false:=(kfro kG (cell_lt r3)).trans rz3;have R4:=kkeep kG r4;have Rz4:wG.frozen? ⟨w.heap.size + 1,4,none⟩ = false:=(kfro kG (cell_lt r4)).trans rz4;have R5:=kkeep kG r5;have Rz5:wG.frozen? ⟨w.heap.size + 1,5,none⟩ = false:=(kfro kG (cell_lt r5)).trans rz5;have R6:=kkeep kG r6;have Rz6:wG.frozen? ⟨w.heap.size + 1,6,none⟩ = false:=(kfro kG (cell_lt r6)).trans rz6;have R7:=kkeep kG r7;have Rz7:wG.frozen? ⟨w.heap.size + 1,7,none⟩ = false:=(kfro kG (cell_lt r7)).trans rz7;have R8:=kkeep kG r8;have Rz8:wG.frozen? ⟨w.heap.size + 1,8,none⟩ = false:=(kfro kG (cell_lt r8)).trans rz8))
  go_wp2
  exact bodyPost_ret (v:=.agg #[.bool N7,.int .i64 i7,.bool s5,.slice p5 l5 c5,.slice q5 k5 d5,.int .i64 j7,.bool s6,.slice p6 l6 c6,.slice q6 k6 d6]) (by simp [results,Tryz.results26,go_sem,R0,R1,R2,R3,R4,R5,R6,R7,R8]) rfl ⟨_,rfl,(hset _ _ ⟨w.heap.size + 1,8,none⟩ (.slice q6 k6 d6) (by simp) (hset _ _ ⟨w.heap.size + 1,7,none⟩ (.slice p6 l6 c6) (by simp) (hset _ _ ⟨w.heap.size + 1,6,none⟩ (.bool s6) (by simp) (hset _ _ ⟨w.heap.size + 1,5,none⟩ (.int .i64 j7) (by simp) (hset _ _ ⟨w.heap.size + 1,4,none⟩ (.slice q5 k5 d5) (by simp) (hset _ _ ⟨w.heap.size + 1,3,none⟩ (.slice p5 l5 c5) (by simp) (hset _ _ ⟨w.heap.size + 1,2,none⟩ (.bool s5) (by simp) (hset _ _ ⟨w.heap.size + 1,1,none⟩ (.int .i64 i7) (by simp) (hset _ _ ⟨w.heap.size + 1,0,none⟩ (.bool N7) (by simp) hv7))))))))),((((((((((Kp.trans kw kG)).setCell (by simp) _).setCell (by simp) _).setCell (by simp) _).setCell (by simp) _).setCell (by simp) _).setCell (by simp) _).setCell (by simp) _).setCell (by simp) _).setCell (by simp) _⟩
set_option linter.unusedVariables false
theorem diZ_zero (K:Nat) (d y:Int):diZ K d 0 y = 0:=by
  unfold diZ oD
  have e:∀ s:Bool,Iv s (0:Int).natAbs = 0:=fun s=>by
    have h:=vV0X
    unfold Iv
    rw [show (0:Int).natAbs = 0 from rfl,h]
    cases s <;> rfl
  rw [e]
  repeat' split
  all_goals first | rfl | (exfalso;omega) | skip
  all_goals (unfold g53 gpl;simp)
theorem diZ_m (K:Nat) (d x y:Int):diZ K (-d) (-x) y = -(diZ K d x y):=by
  by_cases c:x = 0
  · rw [c,show (-0:Int) = 0 from rfl,diZ_zero,diZ_zero];rfl
  · exact diZ_mir K d x y c
theorem diZ_m1 (K:Nat) (x y:Int):diZ K (-1) (-x) y = -(diZ K 1 x y):=diZ_m K 1 x y
theorem diZ_neg (K:Nat) (d x y:Int) (hy:y≠0):diZ K d (-x) y = diZ K d x (-y):=by
  by_cases c:x = 0
  · rw [c,show (-0:Int) = 0 from rfl,diZ_zero,diZ_zero]
  unfold diZ oD
  rw [sN_neg x c,sN_neg y hy,Int.natAbs_neg,Int.natAbs_neg,if_neg (show ¬ y.natAbs = 0 by omega),if_neg (show ¬ y.natAbs = 0 by omega),show ((!(sN x)) ^^ sN y) = (sN x ^^ (!(sN y))) from by cases sN x <;> cases sN y <;> rfl]
theorem diZ_fin (K:Nat) (d x y:Int) (hx:-9218868437227405312 < x∧x < 9218868437227405312) (hy:0 < y∧y < 9218868437227405312):diZ K d x y = g53 d (2 ^ K) (Fq.vV Ieee.double y.natAbs) (vZ x):=by
  unfold diZ oD
  rw [if_neg (by omega),if_neg (by omega),if_neg (by omega),if_neg (by omega)]
  rw [show (sN x ^^ sN y) = sN x from by
    have e:sN y = false:=decide_eq_false (by omega)
    rw [e];cases sN x <;> rfl,vZ_sn];rfl
theorem diZ_inf (K:Nat) (d x:Int) (hx:-9218868437227405312 < x∧x < 9218868437227405312):diZ K d x 9218868437227405312 = 0:=by
  unfold diZ oD
  rw [if_neg (by omega),if_neg (by omega),if_neg (by omega),if_pos (by omega)];rfl

def jM (r:Nat):Nat:=if r = 9218868437227405312 then 0 else 4607182418800017408
def jC (r:Nat):Nat:=if r = 9218868437227405312 then 1 else Fq.vV Ieee.double r
theorem vV_one:Fq.vV Ieee.double 1 = 1:=by decide +kernel
theorem vone (K:Nat) (hK:K = 1074):Fq.vV Ieee.double 4607182418800017408 = 2 ^ K:=by subst hK;decide +kernel
theorem g53_z9 (K:Nat) (d:Int):g53 d (2 ^ K) 1 0 = 0:=by
  have h:=diZ_fin K d 0 1 (by omega) (by omega)
  rw [diZ_zero,vZ_zero,show (1:Int).natAbs = 1 from rfl,vV_one] at h
  exact h.symm
theorem iv_z9 (s:Bool):Iv s 0 = 0:=by unfold Iv;rw [Fq.vV_zero];cases s <;> rfl
theorem vZ_p1:vZ 4607182418800017408 = Iv false 4607182418800017408:=rfl
theorem vZ_m1:vZ (-4607182418800017408) = Iv true 4607182418800017408:=rfl
theorem one_p (K:Nat) (d z:Int) (hz:0 < z∧z≤9218868437227405312):diZ K d 4607182418800017408 z = g53 d (2 ^ K) (jC z.natAbs) (Iv false (jM z.natAbs)):=by
  unfold jC jM
  by_cases c:z = 9218868437227405312
  · subst c
    rw [diZ_inf K d _ (by omega),if_pos (by decide),if_pos (by decide),iv_z9,g53_z9]
  · rw [if_neg (by omega),if_neg (by omega),diZ_fin K d _ z (by omega) (by omega),vZ_p1]
theorem one_m (K:Nat) (d z:Int) (hz:0 < z∧z≤9218868437227405312):diZ K d (-4607182418800017408) z = g53 d (2 ^ K) (jC z.natAbs) (Iv true (jM z.natAbs)):=by
  unfold jC jM
  by_cases c:z = 9218868437227405312
  · subst c
    rw [diZ_inf K d _ (by omega),if_pos (by decide),if_pos (by decide),iv_z9,g53_z9]
  · rw [if_neg (by omega),if_neg (by omega),diZ_fin K d _ z (by omega) (by omega),vZ_m1]
theorem one_n (K:Nat) (d z:Int) (hz:0 < -z∧-z≤9218868437227405312):diZ K d 4607182418800017408 z = g53 d (2 ^ K) (jC z.natAbs) (Iv true (jM z.natAbs)):=by
  have h:=one_m K d (-z) hz
  rw [diZ_neg K d 4607182418800017408 (-z) (by omega),Int.neg_neg,Int.natAbs_neg] at h
  exact h
theorem rec_A (K:Nat) (L H:Int) (hL:0≤L) (hH:0 < H) (hi:L < 9218868437227405312∧H≤9218868437227405312):dLo K 4607182418800017408 4607182418800017408 L H = g53 (-1) (2 ^ K) (jC H.natAbs) (Iv false (jM H.natAbs))∧dHi K 4607182418800017408 4607182418800017408 L H = (if 0 < L then g53 1 (2 ^ K) (jC L.natAbs) (Iv false (jM L.natAbs)) else 9218868437227405312):=by
  rw [← one_p K (-1) H (by omega)]
  unfold dLo dHi bLo bHi
  by_cases c:0 < L
  · rw [if_pos c,← one_p K 1 L (by omega),if_neg (by omega),if_neg (by omega),if_neg (by omega),if_neg (by omega)]
    refine ⟨?_, ?_⟩
    · unfold lst
      rw [if_neg (by omega),if_neg (by omega),if_neg (by omega),if_neg (by omega)]
    · unfold lst
      rw [if_neg (by omega)]
      repeat' split
      all_goals first | (exfalso;omega) | (rw [diZ_m1,Int.neg_neg])
  · have e:L = 0:=by omega
    subst e
    rw [if_neg c]
    repeat' split
    all_goals first | (exfalso;omega) | exact ⟨rfl,rfl⟩
theorem rec_B (K:Nat) (L H:Int) (hL:L < 0) (hH:H≤0) (hi:-9218868437227405312≤L∧-9218868437227405312 < H):dLo K 4607182418800017408 4607182418800017408 L H = (if H < 0 then g53 (-1) (2 ^ K) (jC H.natAbs) (Iv true (jM H.natAbs)) else -9218868437227405312)∧dHi K 4607182418800017408 4607182418800017408 L H = g53 1 (2 ^ K) (jC L.natAbs) (Iv true (jM L.natAbs)):=by
  rw [← one_n K 1 L (by omega)]
  unfold dLo dHi bLo bHi
  by_cases c:H < 0
  · rw [if_pos c,← one_n K (-1) H (by omega),if_neg (by omega),if_neg (by omega),if_neg (by omega),if_neg (by omega)]
    refine ⟨?_, ?_⟩
    · unfold lst
      rw [if_neg (by omega)]
      repeat' split
      all_goals first | (exfalso;omega) | rfl
    · unfold lst
      rw [if_neg (by omega)]
      repeat' split
      all_goals first | (exfalso;omega) | (rw [diZ_m1,Int.neg_neg])
  · have e:H = 0:=by omega
    subst e
    rw [if_neg c]
    repeat' split
    all_goals first | (exfalso;omega) | exact ⟨rfl,rfl⟩
theorem rec_C (K:Nat) (L H:Int) (hL:L < 0) (hH:0 < H) (hi:-9218868437227405312≤L∧H≤9218868437227405312):dLo K 4607182418800017408 4607182418800017408 L H = -9218868437227405312∧dHi K 4607182418800017408 4607182418800017408 L H = 9218868437227405312:=by
  unfold dLo dHi bLo bHi
  rw [if_neg (by omega),if_pos (by omega),if_neg (by omega),if_neg (by omega),if_pos (by omega),if_neg (by omega),if_pos (by omega),if_neg (by omega),if_neg (by omega),if_pos (by omega)]
  exact ⟨rfl,rfl⟩
theorem rec_D (K:Nat) (L H:Int) (h:L = 9218868437227405312∨(L = 0∧H = 0)):dLo K 4607182418800017408 4607182418800017408 L H = 9218868437227405312∧dHi K 4607182418800017408 4607182418800017408 L H = -9218868437227405312:=by
  unfold dLo dHi bLo bHi
  rcases h with h | h
  · rw [if_pos (Or.inr h),if_pos (Or.inr h)];exact ⟨rfl,rfl⟩
  · rw [if_neg (by omega),if_pos (by omega),if_pos h,if_neg (by omega),if_pos (by omega),if_pos h];exact ⟨rfl,rfl⟩
end Go.Proofs.YtinohggonicjhaaGreatDoor
