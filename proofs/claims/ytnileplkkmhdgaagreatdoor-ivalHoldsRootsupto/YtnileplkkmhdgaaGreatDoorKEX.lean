import Derived.Test.YtnileplkkmhdgaaGreatDoorKPMm
set_option maxHeartbeats 1000000
set_option maxRecDepth 20000
namespace Go.Proofs.YtnileplkkmhdgaaGreatDoor
open Go.RowKit
theorem fin0_ (w:World):Calls Tryz.prog 58 #[.int .i64 0] w fun e w'=>∃ s p l c q k d,e = .returned (.agg #[.int .i64 0,.bool s,.slice p l c,.slice q k d])∧RP w.heap.size w' s p l c q k d false 0∧Kp w w':=by
  go_enter Tryz.func58,Tryz.ntmps58
  go_wp2_with (first | (go_at_call 23;refine (int0_ _).mono ?_;rintro e w1 ⟨s,p,l,c,q,k,d,rfl,hp,g1⟩;have r0:=kkeep g1 (b:=w.heap.size) (o:=0) (v:=.int .i64 0) (by simp [go_sem]);have rz0:w1.frozen? ⟨w.heap.size,0,none⟩ = false:=(kfro g1 (by simp <;> omega)).trans (by simp [go_sem]);have r1:=kkeep g1 (b:=w.heap.size) (o:=1) (v:=.bool false) (by simp [go_sem]);have rz1:w1.frozen? ⟨w.heap.size,1,none⟩ = false:=(kfro g1 (by simp <;> omega)).trans (by simp [go_sem]);have r2:=kkeep g1 (b:=w.heap.size) (o:=2) (v:=.slice none 0 0) (by simp [go_sem]);have rz2:w1.frozen? ⟨w.heap.size,2,none⟩ = false:=(kfro g1 (by simp <;> omega)).trans (by simp [go_sem]);have r3:=kkeep g1 (b:=w.heap.size) (o:=3) (v:=.slice none 0 0) (by simp [go_sem]);have rz3:w1.frozen? ⟨w.heap.size,3,none⟩ = false:=(kfro g1 (by simp <;> omega)).trans (by simp [go_sem])))
  exact bodyPost_ret (v:=.agg #[.int .i64 0,.bool s,.slice p l c,.slice q k d]) (by simp [results,Tryz.results58,go_sem,r0,r1,r2,r3]) rfl ⟨s,p,l,c,q,k,d,rfl,RP.mono (((((hp).set (x:=⟨w.heap.size,0,none⟩) (by simp) (.int .i64 0)).set (x:=⟨w.heap.size,1,none⟩) (by simp) (.bool s)).set (x:=⟨w.heap.size,2,none⟩) (by simp) (.slice p l c)).set (x:=⟨w.heap.size,3,none⟩) (by simp) (.slice q k d)) (by simp),(((((Kp.trans ((Kp.refl w).alloc _) g1)).setCell (Nat.le_refl _) _).setCell (Nat.le_refl _) _).setCell (Nat.le_refl _) _).setCell (Nat.le_refl _) _⟩
theorem ofS_ (X Y LO HI i j:Int) (N1 N2:Bool) (M1 M2:Nat) (hr:∀ w:World,Calls Tryz.prog 56 #[.agg #[.int .u64 X,.int .u64 Y]] w fun e w'=>e = .returned (.agg #[.int .u64 LO,.int .u64 HI])∧Kp w w') (hb1:∀ w:World,Calls Tryz.prog 59 #[.int .u64 LO] w fun e w'=>∃ s p l c q k d,e = .returned (.agg #[.int .i64 i,.bool s,.slice p l c,.slice q k d])∧RP w.heap.size w' s p l c q k d N1 M1∧Kp w w') (hb2:∀ w:World,Calls Tryz.prog 59 #[.int .u64 HI] w fun e w'=>∃ s p l c q k d,e = .returned (.agg #[.int .i64 j,.bool s,.slice p l c,.slice q k d])∧RP w.heap.size w' s p l c q k d N2 M2∧Kp w w') (t1:(LO == 9218868437227405312) = false) (w:World):Calls Tryz.prog 28 #[.agg #[.int .u64 X,.int .u64 Y]] w fun e w'=>∃ (s:Bool) (p:Option Addr) (l c:Nat) (q:Option Addr) (k d:Nat) (s2:Bool) (p2:Option Addr) (l2 c2:Nat) (q2:Option Addr) (k2 d2:Nat),e = .returned (.agg #[.bool false,.int .i64 i,.bool s,.slice p l c,.slice q k d,.int .i64 j,.bool s2,.slice p2 l2 c2,.slice q2 k2 d2])∧RP w.heap.size w' s p l c q k d N1 M1∧RP w.heap.size w' s2 p2 l2 c2 q2 k2 d2 N2 M2∧Kp w w':=by
  go_enter Tryz.func28,Tryz.ntmps28
  go_wp2_with (first | (go_at_call 56;refine (hr _).mono ?_;rintro e w1 ⟨rfl,g1⟩;have r0:=kkeep g1 (b:=w.heap.size + 1) (o:=0) (v:=.bool false) (by simp [go_sem]);have rz0:w1.frozen? ⟨w.heap.size + 1,0,none⟩ = false:=(kfro g1 (by simp <;> omega)).trans (by simp [go_sem]);have r1:=kkeep g1 (b:=w.heap.size + 1) (o:=1) (v:=.int .i64 0) (by simp [go_sem]);have rz1:w1.frozen? ⟨w.heap.size + 1,1,none⟩ = false:=(kfro g1 (by simp <;> omega)).trans (by simp [go_sem]);have r2:=kkeep g1 (b:=w.heap.size + 1) (o:=2) (v:=.bool false) (by simp [go_sem]);have rz2:w1.frozen? ⟨w.heap.size + 1,2,none⟩ = false:=(kfro g1 (by simp <;> omega)).trans (by simp [go_sem]);have r3:=kkeep g1 (b:=w.heap.size + 1) (o:=3) (v:=.slice none 0 0) (by simp [go_sem]);have rz3:w1.frozen? ⟨w.heap.size + 1,3,none⟩ = false:=(kfro g1 (by simp <;> omega)).trans (by simp [go_sem]);have r4:=kkeep g1 (b:=w.heap.size + 1) (o:=4) (v:=.slice none 0 0) (by simp [go_sem]);have rz4:w1.frozen? ⟨w.heap.size + 1,4,none⟩ = false:=(kfro g1 (by simp <;> omega)).trans (by simp [go_sem]);have r5:=kkeep g1 (b:=w.heap.size + 1) (o:=5) (v:=.int .i64 0) (by simp [go_sem]);have rz5:w1.frozen? ⟨w.heap.size + 1,5,none⟩ = false:=(kfro g1 (by simp <;> omega)).trans (by simp [go_sem]);have r6:=kkeep g1 (b:=w.heap.size + 1) (o:=6) (v:=.bool false) (by simp [go_sem]);have rz6:w1.frozen? ⟨w.heap.size + 1,6,none⟩ = false:=(kfro g1 (by simp <;> omega)).trans (by simp [go_sem]);have r7:=kkeep g1 (b:=w.heap.size + 1) (o:=7) (v:=.slice none 0 0) (by simp [go_sem]);have rz7:w1.frozen? ⟨w.heap.size + 1,7,none⟩ = false:=(kfro g1 (by simp <;> omega)).trans (by simp [go_sem]);have r8:=kkeep g1 (b:=w.heap.size + 1) (o:=8) (v:=.slice none 0 0) (by simp [go_sem]);have rz8:w1.frozen? ⟨w.heap.size + 1,8,none⟩ = false:=(kfro g1 (by simp <;> omega)).trans (by simp [go_sem])))
  go_region_held3 (fun w'=>w'.cell? ⟨w1.heap.size,0,none⟩ = some (.int .u64 LO)∧w'.cell? ⟨w1.heap.size,1,none⟩ = some (.int .u64 HI)) (simp [go_sem]) (first | (go_at_call 57;refine (Fq.rempty_ _).mono ?_;rintro e w' ⟨rfl,rfl⟩))
  have y0:(((w1.alloc (.cells #[.int .u64 LO,.int .u64 HI] 24)).alloc (.cells #[.int .u64 9218868437227405312,.int .u64 18442240474082181120] 24)).drew).cell? ⟨w1.heap.size,0,none⟩ = some (.int .u64 LO):=by simp [go_sem]
  have y1:(((w1.alloc (.cells #[.int .u64 LO,.int .u64 HI] 24)).alloc (.cells #[.int .u64 9218868437227405312,.int .u64 18442240474082181120] 24)).drew).cell? ⟨w1.heap.size,1,none⟩ = some (.int .u64 HI):=by simp [go_sem]
  have kW:Kp w1 (((w1.alloc (.cells #[.int .u64 LO,.int .u64 HI] 24)).alloc (.cells #[.int .u64 9218868437227405312,.int .u64 18442240474082181120] 24)).drew):=(((Kp.refl w1).alloc _).alloc _).drew
  have kw:Kp w w1:=Kp.trans (((Kp.refl w).alloc _).alloc _) g1
  have hB1:w.heap.size + 1 < w1.heap.size:=cell_lt r0
  have hne:w.heap.size + 1≠w1.heap.size:=Nat.ne_of_lt hB1
  go_wp2
  generalize (((w1.alloc (.cells #[.int .u64 LO,.int .u64 HI] 24)).alloc (.cells #[.int .u64 9218868437227405312,.int .u64 18442240474082181120] 24)).drew) = W at y0 y1 kW ⊢
  generalize hby:w1.heap.size = by9 at y0 y1 hne ⊢
  have hBW:w.heap.size + 1 < W.heap.size:=Nat.lt_of_lt_of_le hB1 (Below.size kW)
  have y2:W.drew.cell? ⟨by9,0,none⟩ = some (.int .u64 LO):=y0
  have y3:W.drew.cell? ⟨by9,1,none⟩ = some (.int .u64 HI):=y1
  replace r0:=kkeep kW r0
  replace rz0:=(kfro kW hB1).trans rz0
  replace r1:=kkeep kW r1
  replace rz1:=(kfro kW hB1).trans rz1
  replace r2:=kkeep kW r2
  replace rz2:=(kfro kW hB1).trans rz2
  replace r3:=kkeep kW r3
  replace rz3:=(kfro kW hB1).trans rz3
  replace r4:=kkeep kW r4
  replace rz4:=(kfro kW hB1).trans rz4
  replace r5:=kkeep kW r5
  replace rz5:=(kfro kW hB1).trans rz5
  replace r6:=kkeep kW r6
  replace rz6:=(kfro kW hB1).trans rz6
  replace r7:=kkeep kW r7
  replace rz7:=(kfro kW hB1).trans rz7
  replace r8:=kkeep kW r8
  replace rz8:=(kfro kW hB1).trans rz8
  go_region_held3 (fun w'=>w'.cell? ⟨by9,0,none⟩ = some (.int .u64 LO)∧w'.cell? ⟨by9,1,none⟩ = some (.int .u64 HI)) (first | (with_reducible exact ⟨y0,y1⟩) | (with_reducible exact ⟨y2,y3⟩) | (with_reducible exact ⟨a0,a1⟩) | (with_reducible exact ⟨b0,b1⟩) | (exact ⟨((World.cell?_setCell_far _ _ _ _ hne).trans ((World.cell?_setCell_far _ _ _ _ hne).trans ((World.cell?_setCell_far _ _ _ _ hne).trans ((World.cell?_setCell_far _ _ _ _ hne).trans ((World.cell?_setCell_far _ _ _ _ hne).trans ((World.cell?_setCell_far _ _ _ _ hne).trans ((World.cell?_setCell_far _ _ _ _ hne).trans ((World.cell?_setCell_far _ _ _ _ hne).trans ((World.cell?_setCell_far _ _ _ _ hne).trans b0))))))))),((World.cell?_setCell_far _ _ _ _ hne).trans ((World.cell?_setCell_far _ _ _ _ hne).trans ((World.cell?_setCell_far _ _ _ _ hne).trans ((World.cell?_setCell_far _ _ _ _ hne).trans ((World.cell?_setCell_far _ _ _ _ hne).trans ((World.cell?_setCell_far _ _ _ _ hne).trans ((World.cell?_setCell_far _ _ _ _ hne).trans ((World.cell?_setCell_far _ _ _ _ hne).trans ((World.cell?_setCell_far _ _ _ _ hne).trans b1)))))))))⟩)) (first | (go_at_call_of 59 (Value.int .u64 LO);refine (hb1 _).mono ?_;rintro e wl ⟨s,p,l,c,q,k,d,rfl,hp,gl⟩;have kl:Kp W wl:=Kp.trans (Kp.drew (Kp.refl _)) gl;have a0:=kkeep kl y0;have a1:=kkeep kl y1) | (go_at_call_of 59 (Value.int .u64 HI);refine (hb2 _).mono ?_;rintro e wh ⟨s2,p2,l2,c2,q2,k2,d2,rfl,hp2,gh⟩;have kh:=Kp.trans kl gh;have b0:=kkeep kh y0;have b1:=kkeep kh y1;have R0:=kkeep kh r0;have Rz0:wh.frozen? ⟨w.heap.size + 1,0,none⟩ = false:=(kfro kh (cell_lt r0)).trans rz0;have R1:=kkeep kh r1;have Rz1:wh.frozen? ⟨w.heap.size + 1,1,none⟩ = false:=(kfro kh (cell_lt r1)).trans rz1;have R2:=kkeep kh r2;have Rz2:wh.frozen? ⟨w.heap.size + 1,2,none⟩ = false:=(kfro kh (cell_lt r2)).trans rz2;have R3:=kkeep kh r3;have Rz3:wh.frozen? ⟨w.heap.size + 1,3,none⟩ = false:=(kfro kh (cell_lt r3)).trans rz3;have R4:=kkeep kh r4;have Rz4:wh.frozen? ⟨w.heap.size + 1,4,none⟩ = false:=(kfro kh (cell_lt r4)).trans rz4;have R5:=kkeep kh r5;have Rz5:wh.frozen? ⟨w.heap.size + 1,5,none⟩ = false:=(kfro kh (cell_lt r5)).trans rz5;have R6:=kkeep kh r6;have Rz6:wh.frozen? ⟨w.heap.size + 1,6,none⟩ = false:=(kfro kh (cell_lt r6)).trans rz6;have R7:=kkeep kh r7;have Rz7:wh.frozen? ⟨w.heap.size + 1,7,none⟩ = false:=(kfro kh (cell_lt r7)).trans rz7;have R8:=kkeep kh r8;have Rz8:wh.frozen? ⟨w.heap.size + 1,8,none⟩ = false:=(kfro kh (cell_lt r8)).trans rz8))
  go_wp2
  have hP1:RP W.heap.size wh s p l c q k d N1 M1:=(RP.mono hp (Nat.le_refl _)).kp gh
  have hP2:RP W.heap.size wh s2 p2 l2 c2 q2 k2 d2 N2 M2:=RP.mono hp2 (Below.size kl)
  have hle:w.heap.size≤W.heap.size:=Nat.le_of_lt (Nat.lt_trans (Nat.lt_succ_self _) hBW)
  exact bodyPost_ret (v:=.agg #[.bool false,.int .i64 i,.bool s,.slice p l c,.slice q k d,.int .i64 j,.bool s2,.slice p2 l2 c2,.slice q2 k2 d2]) (by simp [results,Tryz.results28,go_sem,R0,R1,R2,R3,R4,R5,R6,R7,R8]) rfl ⟨s,p,l,c,q,k,d,s2,p2,l2,c2,q2,k2,d2,rfl,RP.mono ((((((((((hP1).set (x:=⟨w.heap.size + 1,0,none⟩) hBW (.bool false)).set (x:=⟨w.heap.size + 1,1,none⟩) hBW (.int .i64 i)).set (x:=⟨w.heap.size + 1,2,none⟩) hBW (.bool s)).set (x:=⟨w.heap.size + 1,3,none⟩) hBW (.slice p l c)).set (x:=⟨w.heap.size + 1,4,none⟩) hBW (.slice q k d)).set (x:=⟨w.heap.size + 1,5,none⟩) hBW (.int .i64 j)).set (x:=⟨w.heap.size + 1,6,none⟩) hBW (.bool s2)).set (x:=⟨w.heap.size + 1,7,none⟩) hBW (.slice p2 l2 c2)).set (x:=⟨w.heap.size + 1,8,none⟩) hBW (.slice q2 k2 d2)) hle,RP.mono ((((((((((hP2).set (x:=⟨w.heap.size + 1,0,none⟩) hBW (.bool false)).set (x:=⟨w.heap.size + 1,1,none⟩) hBW (.int .i64 i)).set (x:=⟨w.heap.size + 1,2,none⟩) hBW (.bool s)).set (x:=⟨w.heap.size + 1,3,none⟩) hBW (.slice p l c)).set (x:=⟨w.heap.size + 1,4,none⟩) hBW (.slice q k d)).set (x:=⟨w.heap.size + 1,5,none⟩) hBW (.int .i64 j)).set (x:=⟨w.heap.size + 1,6,none⟩) hBW (.bool s2)).set (x:=⟨w.heap.size + 1,7,none⟩) hBW (.slice p2 l2 c2)).set (x:=⟨w.heap.size + 1,8,none⟩) hBW (.slice q2 k2 d2)) hle,((((((((((Kp.trans (Kp.trans kw kW) kh)).setCell (Nat.le_succ _) _).setCell (Nat.le_succ _) _).setCell (Nat.le_succ _) _).setCell (Nat.le_succ _) _).setCell (Nat.le_succ _) _).setCell (Nat.le_succ _) _).setCell (Nat.le_succ _) _).setCell (Nat.le_succ _) _).setCell (Nat.le_succ _) _⟩
theorem ofE_ (X Y:Int) (hr:∀ w:World,Calls Tryz.prog 56 #[.agg #[.int .u64 X,.int .u64 Y]] w fun e w'=>e = .returned (.agg #[.int .u64 9218868437227405312,.int .u64 18442240474082181120])∧Kp w w') (w:World):Calls Tryz.prog 28 #[.agg #[.int .u64 X,.int .u64 Y]] w fun e w'=>∃ (s:Bool) (p:Option Addr) (l c:Nat) (q:Option Addr) (k d:Nat) (s2:Bool) (p2:Option Addr) (l2 c2:Nat) (q2:Option Addr) (k2 d2:Nat),e = .returned (.agg #[.bool true,.int .i64 0,.bool s,.slice p l c,.slice q k d,.int .i64 0,.bool s2,.slice p2 l2 c2,.slice q2 k2 d2])∧RP w.heap.size w' s p l c q k d false 0∧RP w.heap.size w' s2 p2 l2 c2 q2 k2 d2 false 0∧Kp w w':=by
  go_enter Tryz.func28,Tryz.ntmps28
  go_wp2_with (first | (go_at_call 56;refine (hr _).mono ?_;rintro e w1 ⟨rfl,g1⟩;have r0:=kkeep g1 (b:=w.heap.size + 1) (o:=0) (v:=.bool false) (by simp [go_sem]);have rz0:w1.frozen? ⟨w.heap.size + 1,0,none⟩ = false:=(kfro g1 (by simp <;> omega)).trans (by simp [go_sem]);have r1:=kkeep g1 (b:=w.heap.size + 1) (o:=1) (v:=.int .i64 0) (by simp [go_sem]);have rz1:w1.frozen? ⟨w.heap.size + 1,1,none⟩ = false:=(kfro g1 (by simp <;> omega)).trans (by simp [go_sem]);have r2:=kkeep g1 (b:=w.heap.size + 1) (o:=2) (v:=.bool false) (by simp [go_sem]);have rz2:w1.frozen? ⟨w.heap.size + 1,2,none⟩ = false:=(kfro g1 (by simp <;> omega)).trans (by simp [go_sem]);have r3:=kkeep g1 (b:=w.heap.size + 1) (o:=3) (v:=.slice none 0 0) (by simp [go_sem]);have rz3:w1.frozen? ⟨w.heap.size + 1,3,none⟩ = false:=(kfro g1 (by simp <;> omega)).trans (by simp [go_sem]);have r4:=kkeep g1 (b:=w.heap.size + 1) (o:=4) (v:=.slice none 0 0) (by simp [go_sem]);have rz4:w1.frozen? ⟨w.heap.size + 1,4,none⟩ = false:=(kfro g1 (by simp <;> omega)).trans (by simp [go_sem]);have r5:=kkeep g1 (b:=w.heap.size + 1) (o:=5) (v:=.int .i64 0) (by simp [go_sem]);have rz5:w1.frozen? ⟨w.heap.size + 1,5,none⟩ = false:=(kfro g1 (by simp <;> omega)).trans (by simp [go_sem]);have r6:=kkeep g1 (b:=w.heap.size + 1) (o:=6) (v:=.bool false) (by simp [go_sem]);have rz6:w1.frozen? ⟨w.heap.size + 1,6,none⟩ = false:=(kfro g1 (by simp <;> omega)).trans (by simp [go_sem]);have r7:=kkeep g1 (b:=w.heap.size + 1) (o:=7) (v:=.slice none 0 0) (by simp [go_sem]);have rz7:w1.frozen? ⟨w.heap.size + 1,7,none⟩ = false:=(kfro g1 (by simp <;> omega)).trans (by simp [go_sem]);have r8:=kkeep g1 (b:=w.heap.size + 1) (o:=8) (v:=.slice none 0 0) (by simp [go_sem]);have rz8:w1.frozen? ⟨w.heap.size + 1,8,none⟩ = false:=(kfro g1 (by simp <;> omega)).trans (by simp [go_sem])))
  go_region_held3 (fun w'=>w'.cell? ⟨w1.heap.size,0,none⟩ = some (.int .u64 9218868437227405312)∧w'.cell? ⟨w1.heap.size,1,none⟩ = some (.int .u64 18442240474082181120)) (simp [go_sem]) (first | (go_at_call 57;refine (Fq.rempty_ _).mono ?_;rintro e w' ⟨rfl,rfl⟩))
  have kW:Kp w1 (((w1.alloc (.cells #[.int .u64 9218868437227405312,.int .u64 18442240474082181120] 24)).alloc (.cells #[.int .u64 9218868437227405312,.int .u64 18442240474082181120] 24)).drew):=(((Kp.refl w1).alloc _).alloc _).drew
  have kw:Kp w w1:=Kp.trans (((Kp.refl w).alloc _).alloc _) g1
  have hB1:w.heap.size + 1 < w1.heap.size:=cell_lt r0
  generalize (((w1.alloc (.cells #[.int .u64 9218868437227405312,.int .u64 18442240474082181120] 24)).alloc (.cells #[.int .u64 9218868437227405312,.int .u64 18442240474082181120] 24)).drew) = W at kW ⊢
  have hBW:w.heap.size + 1 < W.heap.size:=Nat.lt_of_lt_of_le hB1 (Below.size kW)
  replace r0:=kkeep kW r0
  replace rz0:=(kfro kW hB1).trans rz0
  replace r1:=kkeep kW r1
  replace rz1:=(kfro kW hB1).trans rz1
  replace r2:=kkeep kW r2
  replace rz2:=(kfro kW hB1).trans rz2
  replace r3:=kkeep kW r3
  replace rz3:=(kfro kW hB1).trans rz3
  replace r4:=kkeep kW r4
  replace rz4:=(kfro kW hB1).trans rz4
  replace r5:=kkeep kW r5
  replace rz5:=(kfro kW hB1).trans rz5
  replace r6:=kkeep kW r6
  replace rz6:=(kfro kW hB1).trans rz6
  replace r7:=kkeep kW r7
  replace rz7:=(kfro kW hB1).trans rz7
  replace r8:=kkeep kW r8
  replace rz8:=(kfro kW hB1).trans rz8
  go_wp2_with (first | (go_at_call 58;refine (fin0_ _).mono ?_;rintro e wh ⟨s2,p2,l2,c2,q2,k2,d2,rfl,hp2,gh⟩;have kh:=Kp.trans kl gh;have R0:=kkeep kh r0;have Rz0:wh.frozen? ⟨w.heap.size + 1,0,none⟩ = false:=(kfro kh (cell_lt r0)).trans rz0;have R1:=kkeep kh r1;have Rz1:wh.frozen? ⟨w.heap.size + 1,1,none⟩ = false:=(kfro kh (cell_lt r1)).trans rz1;have R2:=kkeep kh r2;have Rz2:wh.frozen? ⟨w.heap.size + 1,2,none⟩ = false:=(kfro kh (cell_lt r2)).trans rz2;have R3:=kkeep kh r3;have Rz3:wh.frozen? ⟨w.heap.size + 1,3,none⟩ = false:=(kfro kh (cell_lt r3)).trans rz3;have R4:=kkeep kh r4;have Rz4:wh.frozen? ⟨w.heap.size + 1,4,none⟩ = false:=(kfro kh (cell_lt r4)).trans rz4;have R5:=kkeep kh r5;have Rz5:wh.frozen? ⟨w.heap.size + 1,5,none⟩ = false:=(kfro kh (cell_lt r5)).trans rz5;have R6:=kkeep kh r6;have Rz6:wh.frozen? ⟨w.heap.size + 1,6,none⟩ = false:=(kfro kh (cell_lt r6)).trans rz6;have R7:=kkeep kh r7;have Rz7:wh.frozen? ⟨w.heap.size + 1,7,none⟩ = false:=(kfro kh (cell_lt r7)).trans rz7;have R8:=kkeep kh r8;have Rz8:wh.frozen? ⟨w.heap.size + 1,8,none⟩ = false:=(kfro kh (cell_lt r8)).trans rz8) | (go_at_call 58;refine (fin0_ _).mono ?_;rintro e wl ⟨s,p,l,c,q,k,d,rfl,hp,kl⟩))
  have hP1:RP W.heap.size wh s p l c q k d false 0:=hp.kp gh
  have hP2:RP W.heap.size wh s2 p2 l2 c2 q2 k2 d2 false 0:=RP.mono hp2 (Below.size kl)
  have hle:w.heap.size≤W.heap.size:=Nat.le_of_lt (Nat.lt_trans (Nat.lt_succ_self _) hBW)
  exact bodyPost_ret (v:=.agg #[.bool true,.int .i64 0,.bool s,.slice p l c,.slice q k d,.int .i64 0,.bool s2,.slice p2 l2 c2,.slice q2 k2 d2]) (by simp [results,Tryz.results28,go_sem,R0,R1,R2,R3,R4,R5,R6,R7,R8]) rfl ⟨s,p,l,c,q,k,d,s2,p2,l2,c2,q2,k2,d2,rfl,RP.mono ((((((((((hP1).set (x:=⟨w.heap.size + 1,0,none⟩) hBW (.bool true)).set (x:=⟨w.heap.size + 1,1,none⟩) hBW (.int .i64 0)).set (x:=⟨w.heap.size + 1,2,none⟩) hBW (.bool s)).set (x:=⟨w.heap.size + 1,3,none⟩) hBW (.slice p l c)).set (x:=⟨w.heap.size + 1,4,none⟩) hBW (.slice q k d)).set (x:=⟨w.heap.size + 1,5,none⟩) hBW (.int .i64 0)).set (x:=⟨w.heap.size + 1,6,none⟩) hBW (.bool s2)).set (x:=⟨w.heap.size + 1,7,none⟩) hBW (.slice p2 l2 c2)).set (x:=⟨w.heap.size + 1,8,none⟩) hBW (.slice q2 k2 d2)) hle,RP.mono ((((((((((hP2).set (x:=⟨w.heap.size + 1,0,none⟩) hBW (.bool true)).set (x:=⟨w.heap.size + 1,1,none⟩) hBW (.int .i64 0)).set (x:=⟨w.heap.size + 1,2,none⟩) hBW (.bool s)).set (x:=⟨w.heap.size + 1,3,none⟩) hBW (.slice p l c)).set (x:=⟨w.heap.size + 1,4,none⟩) hBW (.slice q k d)).set (x:=⟨w.heap.size + 1,5,none⟩) hBW (.int .i64 0)).set (x:=⟨w.heap.size + 1,6,none⟩) hBW (.bool s2)).set (x:=⟨w.heap.size + 1,7,none⟩) hBW (.slice p2 l2 c2)).set (x:=⟨w.heap.size + 1,8,none⟩) hBW (.slice q2 k2 d2)) hle,((((((((((Kp.trans (Kp.trans kw kW) kh)).setCell (Nat.le_succ _) _).setCell (Nat.le_succ _) _).setCell (Nat.le_succ _) _).setCell (Nat.le_succ _) _).setCell (Nat.le_succ _) _).setCell (Nat.le_succ _) _).setCell (Nat.le_succ _) _).setCell (Nat.le_succ _) _).setCell (Nat.le_succ _) _⟩
def SV0 (N:Bool) (v:Value):Prop:=∃ (i j:Int) (s:Bool) (p:Option Addr) (l c:Nat) (q:Option Addr) (k d:Nat) (s2:Bool) (p2:Option Addr) (l2 c2:Nat) (q2:Option Addr) (k2 d2:Nat),v = .agg #[.bool N,.int .i64 i,.bool s,.slice p l c,.slice q k d,.int .i64 j,.bool s2,.slice p2 l2 c2,.slice q2 k2 d2]
def SV1 (n:Bool) (m:Nat) (n':Bool) (m':Nat) (W:World) (v:Value):Prop:=∃ (s:Bool) (p:Option Addr) (l c:Nat) (q:Option Addr) (k d:Nat) (s2:Bool) (p2:Option Addr) (l2 c2:Nat) (q2:Option Addr) (k2 d2:Nat),v = .agg #[.bool false,.int .i64 (infS n m),.bool s,.slice p l c,.slice q k d,.int .i64 (infS n' m'),.bool s2,.slice p2 l2 c2,.slice q2 k2 d2]∧RP 0 W s p l c q k d (fN n m) (fM m)∧RP 0 W s2 p2 l2 c2 q2 k2 d2 (fN n' m') (fM m')
theorem SV1.kp {n:Bool} {m:Nat} {n':Bool} {m':Nat} {W W':World} {v:Value} (g:Kp W W') (h:SV1 n m n' m' W v):SV1 n m n' m' W' v:=by
  obtain ⟨s,p,l,c,q,k,d,s2,p2,l2,c2,q2,k2,d2,e,h1,h2⟩:=h
  exact ⟨s,p,l,c,q,k,d,s2,p2,l2,c2,q2,k2,d2,e,h1.kp g,h2.kp g⟩
theorem pla_ne (x:Nat):Fq.pla x≠9223372036854775808:=by unfold Fq.pla;split <;> omega
theorem rlo_ne (a b:Nat):Fq.rlo a b≠9223372036854775808:=by
  unfold Fq.rlo
  split
  · exact pla_ne a
  · decide
theorem rhi_ne (a b:Nat):Fq.rhi a b≠9223372036854775808:=by
  unfold Fq.rhi
  split
  · exact pla_ne b
  · decide
theorem ofEmpty_ (a b:Nat) (ha:a < 18446744073709551616) (hb:b < 18446744073709551616) (hs:Fq.snd a b = false) (w:World):Calls Tryz.prog 28 #[.agg #[.int .u64 ((a:Nat):Int),.int .u64 ((b:Nat):Int)]] w fun e w'=>∃ v,e = .returned v∧SV0 true v∧Kp w w':=by
  have hr:∀ w:World,Calls Tryz.prog 56 #[.agg #[.int .u64 ((a:Nat):Int),.int .u64 ((b:Nat):Int)]] w fun e w'=>e = .returned (.agg #[.int .u64 9218868437227405312,.int .u64 18442240474082181120])∧Kp w w':=by
    obtain ⟨n,m,hm,rfl⟩:=Fq.exD a ha
    obtain ⟨n',m',hm',rfl⟩:=Fq.exD b hb
    intro w
    have h:=Fq.rread_ n n' m m' hm hm' w
    rw [show Fq.rlo (Fq.wD n m) (Fq.wD n' m') = 9218868437227405312 from by simp [Fq.rlo,hs],show Fq.rhi (Fq.wD n m) (Fq.wD n' m') = 18442240474082181120 from by simp [Fq.rhi,hs]] at h
    exact h
  refine (ofE_ _ _ hr w).mono ?_
  rintro e w' ⟨s,p,l,c,q,k,d,s2,p2,l2,c2,q2,k2,d2,rfl,-,-,g⟩
  exact ⟨_,rfl,⟨0,0,s,p,l,c,q,k,d,s2,p2,l2,c2,q2,k2,d2,rfl⟩,g⟩
theorem ofSound_ (a b:Nat) (ha:a < 18446744073709551616) (hb:b < 18446744073709551616) (hs:Fq.snd a b = true) (n n':Bool) (m m':Nat) (hm:m≤9218868437227405312) (hm':m'≤9218868437227405312) (e1:Fq.rlo a b = Fq.wD n m) (e2:Fq.rhi a b = Fq.wD n' m') (w:World):Calls Tryz.prog 28 #[.agg #[.int .u64 ((a:Nat):Int),.int .u64 ((b:Nat):Int)]] w fun e w'=>∃ v,e = .returned v∧SV1 n m n' m' w' v∧Kp w w':=by
  have hr:∀ w:World,Calls Tryz.prog 56 #[.agg #[.int .u64 ((a:Nat):Int),.int .u64 ((b:Nat):Int)]] w fun e w'=>e = .returned (.agg #[.int .u64 ((Fq.wD n m:Nat):Int),.int .u64 ((Fq.wD n' m':Nat):Int)])∧Kp w w':=by
    rw [← e1,← e2]
    obtain ⟨n,m,hm,rfl⟩:=Fq.exD a ha
    obtain ⟨n',m',hm',rfl⟩:=Fq.exD b hb
    exact fun w=>Fq.rread_ n n' m m' hm hm' w
  have t1:(((Fq.wD n m:Nat):Int) == 9218868437227405312) = false:=by
    have h1:Fq.rlo a b≠9218868437227405312:=by
      have h2:a≠9218868437227405312:=by intro h;rw [h] at hs;simp [Fq.snd] at hs
      simp only [Fq.rlo,hs,if_true,Fq.pla];split <;> omega
    rw [e1] at h1
    simp;omega
  refine (ofS_ _ _ _ _ _ _ _ _ _ _ hr (bound_ n m hm (e1 ▸ rlo_ne a b)) (bound_ n' m' hm' (e2 ▸ rhi_ne a b)) t1 w).mono ?_
  rintro e w' ⟨s,p,l,c,q,k,d,s2,p2,l2,c2,q2,k2,d2,rfl,h1,h2,g⟩
  exact ⟨_,rfl,⟨s,p,l,c,q,k,d,s2,p2,l2,c2,q2,k2,d2,rfl,h1.mono (Nat.zero_le _),h2.mono (Nat.zero_le _)⟩,g⟩
end Go.Proofs.YtnileplkkmhdgaaGreatDoor
