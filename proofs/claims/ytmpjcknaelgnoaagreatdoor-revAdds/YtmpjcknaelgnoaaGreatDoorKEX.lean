import Derived.Test.YtmpjcknaelgnoaaGreatDoorKET2
import Derived.Test.YtmpjcknaelgnoaaGreatDoorKS6O
set_option maxHeartbeats 1000000
set_option maxRecDepth 20000
namespace Go.Proofs.YtmpjcknaelgnoaaGreatDoor
open Go.RowKit
theorem fin0_ (w:World):Calls Tryz.prog 74 #[.int .i64 0] w fun e w'=>∃ s p l c q k d,e=.returned (.agg #[.int .i64 0,.bool s,.slice p l c,.slice q k d])∧RP w.heap.size w' s p l c q k d false 0∧Kp w w':=by
 go_enter Tryz.func74,Tryz.ntmps74
 go_wp2_with (first | (go_at_call 118;refine (int0_ _).mono ?_;rintro e w1 ⟨s,p,l,c,q,k,d,rfl,hp,g1⟩;obtain ⟨r0,rz0,r1,rz1,r2,rz2,r3,rz3⟩:=FK4 g1 (w.heap.size) (.int .i64 0) (.bool false) (.slice none 0 0) (.slice none 0 0) (by simp [go_sem])))
 exact BR (v:=.agg #[.int .i64 0,.bool s,.slice p l c,.slice q k d]) (by simp [results,Tryz.results74,go_sem,r0,r1,r2,r3]) rfl ⟨s,p,l,c,q,k,d,rfl,RP.mono (((((hp).set (x:=⟨w.heap.size,0,none⟩) (by simp) (.int .i64 0)).set (x:=⟨w.heap.size,1,none⟩) (by simp) (.bool s)).set (x:=⟨w.heap.size,2,none⟩) (by simp) (.slice p l c)).set (x:=⟨w.heap.size,3,none⟩) (by simp) (.slice q k d)) (by simp),KS4 ((Kp.trans ((Kp.refl w).alloc _) g1)) (Nat.le_refl _)⟩
theorem ofS_ (X Y LO HI i j:Int) (N1 N2:Bool) (M1 M2:Nat) (hr:KC 98 #[.agg #[.int .u64 X,.int .u64 Y]] (.agg #[.int .u64 LO,.int .u64 HI])) (hb1:∀ w:World,Calls Tryz.prog 105 #[.int .u64 LO] w fun e w'=>∃ s p l c q k d,e=.returned (.agg #[.int .i64 i,.bool s,.slice p l c,.slice q k d])∧RP w.heap.size w' s p l c q k d N1 M1∧Kp w w') (hb2:∀ w:World,Calls Tryz.prog 105 #[.int .u64 HI] w fun e w'=>∃ s p l c q k d,e=.returned (.agg #[.int .i64 j,.bool s,.slice p l c,.slice q k d])∧RP w.heap.size w' s p l c q k d N2 M2∧Kp w w') (t1:(LO == 9218868437227405312)=false) (w:World):Calls Tryz.prog 47 #[.agg #[.int .u64 X,.int .u64 Y]] w fun e w'=>∃ (s:Bool) (p:Option Addr) (l c:Nat) (q:Option Addr) (k d:Nat) (s2:Bool) (p2:Option Addr) (l2 c2:Nat) (q2:Option Addr) (k2 d2:Nat),e=.returned (.agg #[.bool false,.int .i64 i,.bool s,.slice p l c,.slice q k d,.int .i64 j,.bool s2,.slice p2 l2 c2,.slice q2 k2 d2])∧RP w.heap.size w' s p l c q k d N1 M1∧RP w.heap.size w' s2 p2 l2 c2 q2 k2 d2 N2 M2∧Kp w w':=by
 go_enter Tryz.func47,Tryz.ntmps47
 go_wp2_with (first | (go_at_call 98;refine (hr _).mono ?_;rintro e w1 ⟨rfl,g1⟩;obtain ⟨r0,rz0,r1,rz1,r2,rz2,r3,rz3,r4,rz4,r5,rz5,r6,rz6,r7,rz7,r8,rz8⟩:=FK9 g1 (w.heap.size+1) (.bool false) (.int .i64 0) (.bool false) (.slice none 0 0) (.slice none 0 0) (.int .i64 0) (.bool false) (.slice none 0 0) (.slice none 0 0) (by simp [go_sem])))
 go_region_held3 (fun w'=>w'.cell? ⟨w1.heap.size,0,none⟩=some (.int .u64 LO)∧w'.cell? ⟨w1.heap.size,1,none⟩=some (.int .u64 HI)) (simp [go_sem]) (first | (go_at_call 72;refine (Fq.rempty_ _).mono ?_;rintro e w' ⟨rfl,rfl⟩))
 have y0:(((w1.alloc (.cells #[.int .u64 LO,.int .u64 HI] 24)).alloc (.cells #[.int .u64 9218868437227405312,.int .u64 18442240474082181120] 24)).drew).cell? ⟨w1.heap.size,0,none⟩=some (.int .u64 LO):=by simp [go_sem]
 have y1:(((w1.alloc (.cells #[.int .u64 LO,.int .u64 HI] 24)).alloc (.cells #[.int .u64 9218868437227405312,.int .u64 18442240474082181120] 24)).drew).cell? ⟨w1.heap.size,1,none⟩=some (.int .u64 HI):=by simp [go_sem]
 have kW:Kp w1 (((w1.alloc (.cells #[.int .u64 LO,.int .u64 HI] 24)).alloc (.cells #[.int .u64 9218868437227405312,.int .u64 18442240474082181120] 24)).drew):=(((Kp.refl w1).alloc _).alloc _).drew
 have kw:Kp w w1:=Kp.trans (((Kp.refl w).alloc _).alloc _) g1
 have hB1:w.heap.size+1<w1.heap.size:=cell_lt r0
 have hne:w.heap.size+1≠w1.heap.size:=Nat.ne_of_lt hB1
 go_wp2
 generalize (((w1.alloc (.cells #[.int .u64 LO,.int .u64 HI] 24)).alloc (.cells #[.int .u64 9218868437227405312,.int .u64 18442240474082181120] 24)).drew)=W at y0 y1 kW ⊢
 generalize hby:w1.heap.size=by9 at y0 y1 hne ⊢
 have hBW:w.heap.size+1<W.heap.size:=Nat.lt_of_lt_of_le hB1 (Below.size kW)
 have y2:W.drew.cell? ⟨by9,0,none⟩=some (.int .u64 LO):=y0
 have y3:W.drew.cell? ⟨by9,1,none⟩=some (.int .u64 HI):=y1
 replace r0:=kkeep kW r0
 replace rz0:=(kfro kW hB1).trans rz0
 replace r1:=kkeep kW r1
 replace rz1:=(kfro kW hB1).trans rz1
 replace r2:=kkeep kW r2
 replace rz2:=(kfro kW hB1).trans rz2
 replace r3:=kkeep kW r3
 replace rz3:=(kfro kW hB1).trans rz3
 replace r4:=kkeep kW r4
 replace rz4:=(kfro kW hB1).trans rz4
 replace r5:=kkeep kW r5
 replace rz5:=(kfro kW hB1).trans rz5
 replace r6:=kkeep kW r6
 replace rz6:=(kfro kW hB1).trans rz6
 replace r7:=kkeep kW r7
 replace rz7:=(kfro kW hB1).trans rz7
 replace r8:=kkeep kW r8
 replace rz8:=(kfro kW hB1).trans rz8
 go_region_held3 (fun w'=>w'.cell? ⟨by9,0,none⟩=some (.int .u64 LO)∧w'.cell? ⟨by9,1,none⟩=some (.int .u64 HI)) (first | (with_reducible exact ⟨y0,y1⟩) | (with_reducible exact ⟨y2,y3⟩) | (with_reducible exact ⟨a0,a1⟩) | (with_reducible exact ⟨b0,b1⟩) | (exact ⟨(CF9 hne b0),(CF9 hne b1)⟩)) (first | (go_at_call_of 105 (Value.int .u64 LO);refine (hb1 _).mono ?_;rintro e wl ⟨s,p,l,c,q,k,d,rfl,hp,gl⟩;have kl:Kp W wl:=Kp.trans (Kp.drew (Kp.refl _)) gl;have a0:=kkeep kl y0;have a1:=kkeep kl y1) | (go_at_call_of 105 (Value.int .u64 HI);refine (hb2 _).mono ?_;rintro e wh ⟨s2,p2,l2,c2,q2,k2,d2,rfl,hp2,gh⟩;have kh:=Kp.trans kl gh;have b0:=kkeep kh y0;have b1:=kkeep kh y1;obtain ⟨R0,Rz0,R1,Rz1,R2,Rz2,R3,Rz3,R4,Rz4,R5,Rz5,R6,Rz6,R7,Rz7,R8,Rz8⟩:=AK9 kh ⟨r0,rz0,r1,rz1,r2,rz2,r3,rz3,r4,rz4,r5,rz5,r6,rz6,r7,rz7,r8,rz8⟩))
 go_wp2
 have hP1:RP W.heap.size wh s p l c q k d N1 M1:=(RP.mono hp (Nat.le_refl _)).kp gh
 have hP2:RP W.heap.size wh s2 p2 l2 c2 q2 k2 d2 N2 M2:=RP.mono hp2 (Below.size kl)
 have hle:w.heap.size≤W.heap.size:=Nat.le_of_lt (Nat.lt_trans (Nat.lt_succ_self _) hBW)
 exact BR (v:=.agg #[.bool false,.int .i64 i,.bool s,.slice p l c,.slice q k d,.int .i64 j,.bool s2,.slice p2 l2 c2,.slice q2 k2 d2]) (by simp [results,Tryz.results47,go_sem,R0,R1,R2,R3,R4,R5,R6,R7,R8]) rfl ⟨s,p,l,c,q,k,d,s2,p2,l2,c2,q2,k2,d2,rfl,RP.mono ((((((((((hP1).set (x:=⟨w.heap.size+1,0,none⟩) hBW (.bool false)).set (x:=⟨w.heap.size+1,1,none⟩) hBW (.int .i64 i)).set (x:=⟨w.heap.size+1,2,none⟩) hBW (.bool s)).set (x:=⟨w.heap.size+1,3,none⟩) hBW (.slice p l c)).set (x:=⟨w.heap.size+1,4,none⟩) hBW (.slice q k d)).set (x:=⟨w.heap.size+1,5,none⟩) hBW (.int .i64 j)).set (x:=⟨w.heap.size+1,6,none⟩) hBW (.bool s2)).set (x:=⟨w.heap.size+1,7,none⟩) hBW (.slice p2 l2 c2)).set (x:=⟨w.heap.size+1,8,none⟩) hBW (.slice q2 k2 d2)) hle,RP.mono ((((((((((hP2).set (x:=⟨w.heap.size+1,0,none⟩) hBW (.bool false)).set (x:=⟨w.heap.size+1,1,none⟩) hBW (.int .i64 i)).set (x:=⟨w.heap.size+1,2,none⟩) hBW (.bool s)).set (x:=⟨w.heap.size+1,3,none⟩) hBW (.slice p l c)).set (x:=⟨w.heap.size+1,4,none⟩) hBW (.slice q k d)).set (x:=⟨w.heap.size+1,5,none⟩) hBW (.int .i64 j)).set (x:=⟨w.heap.size+1,6,none⟩) hBW (.bool s2)).set (x:=⟨w.heap.size+1,7,none⟩) hBW (.slice p2 l2 c2)).set (x:=⟨w.heap.size+1,8,none⟩) hBW (.slice q2 k2 d2)) hle,KS9 ((Kp.trans (Kp.trans kw kW) kh)) (Nat.le_succ _)⟩
theorem ofE_ (X Y:Int) (hr:KC 98 #[.agg #[.int .u64 X,.int .u64 Y]] (.agg #[.int .u64 9218868437227405312,.int .u64 18442240474082181120])) (w:World):Calls Tryz.prog 47 #[.agg #[.int .u64 X,.int .u64 Y]] w fun e w'=>∃ (s:Bool) (p:Option Addr) (l c:Nat) (q:Option Addr) (k d:Nat) (s2:Bool) (p2:Option Addr) (l2 c2:Nat) (q2:Option Addr) (k2 d2:Nat),e=.returned (.agg #[.bool true,.int .i64 0,.bool s,.slice p l c,.slice q k d,.int .i64 0,.bool s2,.slice p2 l2 c2,.slice q2 k2 d2])∧RP w.heap.size w' s p l c q k d false 0∧RP w.heap.size w' s2 p2 l2 c2 q2 k2 d2 false 0∧Kp w w':=by
 go_enter Tryz.func47,Tryz.ntmps47
 go_wp2_with (first | (go_at_call 98;refine (hr _).mono ?_;rintro e w1 ⟨rfl,g1⟩;obtain ⟨r0,rz0,r1,rz1,r2,rz2,r3,rz3,r4,rz4,r5,rz5,r6,rz6,r7,rz7,r8,rz8⟩:=FK9 g1 (w.heap.size+1) (.bool false) (.int .i64 0) (.bool false) (.slice none 0 0) (.slice none 0 0) (.int .i64 0) (.bool false) (.slice none 0 0) (.slice none 0 0) (by simp [go_sem])))
 go_region_held3 (fun w'=>w'.cell? ⟨w1.heap.size,0,none⟩=some (.int .u64 9218868437227405312)∧w'.cell? ⟨w1.heap.size,1,none⟩=some (.int .u64 18442240474082181120)) (simp [go_sem]) (first | (go_at_call 72;refine (Fq.rempty_ _).mono ?_;rintro e w' ⟨rfl,rfl⟩))
 have kW:Kp w1 (((w1.alloc (.cells #[.int .u64 9218868437227405312,.int .u64 18442240474082181120] 24)).alloc (.cells #[.int .u64 9218868437227405312,.int .u64 18442240474082181120] 24)).drew):=(((Kp.refl w1).alloc _).alloc _).drew
 have kw:Kp w w1:=Kp.trans (((Kp.refl w).alloc _).alloc _) g1
 have hB1:w.heap.size+1<w1.heap.size:=cell_lt r0
 generalize (((w1.alloc (.cells #[.int .u64 9218868437227405312,.int .u64 18442240474082181120] 24)).alloc (.cells #[.int .u64 9218868437227405312,.int .u64 18442240474082181120] 24)).drew)=W at kW ⊢
 have hBW:w.heap.size+1<W.heap.size:=Nat.lt_of_lt_of_le hB1 (Below.size kW)
 replace r0:=kkeep kW r0
 replace rz0:=(kfro kW hB1).trans rz0
 replace r1:=kkeep kW r1
 replace rz1:=(kfro kW hB1).trans rz1
 replace r2:=kkeep kW r2
 replace rz2:=(kfro kW hB1).trans rz2
 replace r3:=kkeep kW r3
 replace rz3:=(kfro kW hB1).trans rz3
 replace r4:=kkeep kW r4
 replace rz4:=(kfro kW hB1).trans rz4
 replace r5:=kkeep kW r5
 replace rz5:=(kfro kW hB1).trans rz5
 replace r6:=kkeep kW r6
 replace rz6:=(kfro kW hB1).trans rz6
 replace r7:=kkeep kW r7
 replace rz7:=(kfro kW hB1).trans rz7
 replace r8:=kkeep kW r8
 replace rz8:=(kfro kW hB1).trans rz8
 go_wp2_with (first | (go_at_call 74;refine (fin0_ _).mono ?_;rintro e wh ⟨s2,p2,l2,c2,q2,k2,d2,rfl,hp2,gh⟩;have kh:=Kp.trans kl gh;obtain ⟨R0,Rz0,R1,Rz1,R2,Rz2,R3,Rz3,R4,Rz4,R5,Rz5,R6,Rz6,R7,Rz7,R8,Rz8⟩:=AK9 kh ⟨r0,rz0,r1,rz1,r2,rz2,r3,rz3,r4,rz4,r5,rz5,r6,rz6,r7,rz7,r8,rz8⟩) | (go_at_call 74;refine (fin0_ _).mono ?_;rintro e wl ⟨s,p,l,c,q,k,d,rfl,hp,kl⟩))
 have hP1:RP W.heap.size wh s p l c q k d false 0:=hp.kp gh
 have hP2:RP W.heap.size wh s2 p2 l2 c2 q2 k2 d2 false 0:=RP.mono hp2 (Below.size kl)
 have hle:w.heap.size≤W.heap.size:=Nat.le_of_lt (Nat.lt_trans (Nat.lt_succ_self _) hBW)
 exact BR (v:=.agg #[.bool true,.int .i64 0,.bool s,.slice p l c,.slice q k d,.int .i64 0,.bool s2,.slice p2 l2 c2,.slice q2 k2 d2]) (by simp [results,Tryz.results47,go_sem,R0,R1,R2,R3,R4,R5,R6,R7,R8]) rfl ⟨s,p,l,c,q,k,d,s2,p2,l2,c2,q2,k2,d2,rfl,RP.mono ((((((((((hP1).set (x:=⟨w.heap.size+1,0,none⟩) hBW (.bool true)).set (x:=⟨w.heap.size+1,1,none⟩) hBW (.int .i64 0)).set (x:=⟨w.heap.size+1,2,none⟩) hBW (.bool s)).set (x:=⟨w.heap.size+1,3,none⟩) hBW (.slice p l c)).set (x:=⟨w.heap.size+1,4,none⟩) hBW (.slice q k d)).set (x:=⟨w.heap.size+1,5,none⟩) hBW (.int .i64 0)).set (x:=⟨w.heap.size+1,6,none⟩) hBW (.bool s2)).set (x:=⟨w.heap.size+1,7,none⟩) hBW (.slice p2 l2 c2)).set (x:=⟨w.heap.size+1,8,none⟩) hBW (.slice q2 k2 d2)) hle,RP.mono ((((((((((hP2).set (x:=⟨w.heap.size+1,0,none⟩) hBW (.bool true)).set (x:=⟨w.heap.size+1,1,none⟩) hBW (.int .i64 0)).set (x:=⟨w.heap.size+1,2,none⟩) hBW (.bool s)).set (x:=⟨w.heap.size+1,3,none⟩) hBW (.slice p l c)).set (x:=⟨w.heap.size+1,4,none⟩) hBW (.slice q k d)).set (x:=⟨w.heap.size+1,5,none⟩) hBW (.int .i64 0)).set (x:=⟨w.heap.size+1,6,none⟩) hBW (.bool s2)).set (x:=⟨w.heap.size+1,7,none⟩) hBW (.slice p2 l2 c2)).set (x:=⟨w.heap.size+1,8,none⟩) hBW (.slice q2 k2 d2)) hle,KS9 ((Kp.trans (Kp.trans kw kW) kh)) (Nat.le_succ _)⟩
theorem leastE_ (i j:Int) s p l c q k d s2 p2 l2 c2 q2 k2 d2 (w:World):Calls Tryz.prog 99 #[.agg #[.bool true,.int .i64 i,.bool s,.slice p l c,.slice q k d,.int .i64 j,.bool s2,.slice p2 l2 c2,.slice q2 k2 d2]] w fun e w'=>e=.returned (.agg #[.int .u64 9218868437227405312,.int .u64 18442240474082181120])∧Kp w w':=by
 go_enter Tryz.func99,Tryz.ntmps99
 go_wp2_with (first | (go_at_call 72;refine (Fq.rempty_ _).mono ?_;rintro e w' ⟨rfl,rfl⟩))
 exact BR (v:=.agg #[.int .u64 9218868437227405312,.int .u64 18442240474082181120]) (by simp [results,Tryz.results99,go_sem]) rfl ⟨rfl,(by repeat (with_reducible (first | assumption | exact Kp.refl _ | apply Kp.drew | apply Kp.alloc | apply Kp.drewN | (refine Kp.setCell ?_ (by first | omega | (simp <;> omega)) _) | (refine Kp.trans ?_ (by assumption)))))⟩
theorem leastNN_ (i:Int) (t1:(i == 0)=false) (j:Int) (t2:(j == 0)=false) s p l c q k d s2 p2 l2 c2 q2 k2 d2 (w:World):Calls Tryz.prog 99 #[.agg #[.bool false,.int .i64 i,.bool s,.slice p l c,.slice q k d,.int .i64 j,.bool s2,.slice p2 l2 c2,.slice q2 k2 d2]] w fun e w'=>e=.returned (.agg #[.int .u64 18442240474082181120,.int .u64 9218868437227405312])∧Kp w w':=by
 go_enter Tryz.func99,Tryz.ntmps99
 go_wp2_with (first | (go_at_call 93;refine (Fq.rentire_ _).mono ?_;rintro e w' ⟨rfl,rfl⟩))
 exact BR (v:=.agg #[.int .u64 18442240474082181120,.int .u64 9218868437227405312]) (by simp [results,Tryz.results99,go_sem]) rfl ⟨rfl,(by repeat (with_reducible (first | assumption | exact Kp.refl _ | apply Kp.drew | apply Kp.alloc | apply Kp.drewN | (refine Kp.setCell ?_ (by first | omega | (simp <;> omega)) _) | (refine Kp.trans ?_ (by assumption)))))⟩
theorem leastFN_ (ZA:Int) (j:Int) (t2:(j == 0)=false) s p l c q k d s2 p2 l2 c2 q2 k2 d2 (w:World) (hb1:∀ W:World,Kp w W→Calls Tryz.prog 150 #[.int .i64 (-1),.agg #[.bool s,.slice p l c,.slice q k d]] W fun e w'=>e=.returned (.int .u64 ZA)∧Kp W w'):Calls Tryz.prog 99 #[.agg #[.bool false,.int .i64 0,.bool s,.slice p l c,.slice q k d,.int .i64 j,.bool s2,.slice p2 l2 c2,.slice q2 k2 d2]] w fun e w'=>e=.returned (.agg #[.int .u64 ZA,.int .u64 9218868437227405312])∧Kp w w':=by
 go_enter Tryz.func99,Tryz.ntmps99
 go_wp2_with (first | (go_at_call 93;refine (Fq.rentire_ _).mono ?_;rintro e w' ⟨rfl,rfl⟩) | (go_at_call_of 150 (Value.slice p l c);refine (hb1 _ ?q0).mono ?_;(case q0=>exact ((((Kp.refl w).alloc _).alloc _).alloc _).alloc _);rintro e wa ⟨rfl,ga⟩;have ka:Kp w wa:=Kp.trans (((((Kp.refl w).alloc _).alloc _).alloc _).alloc _) ga;obtain ⟨x0,xz0,x1,xz1,x2,xz2,x3,xz3,x4,xz4,x5,xz5,x6,xz6,x7,xz7,x8,xz8⟩:=FK9 ga (w.heap.size) (.bool false) (.int .i64 0) (.bool s) (.slice p l c) (.slice q k d) (.int .i64 j) (.bool s2) (.slice p2 l2 c2) (.slice q2 k2 d2) (by simp [go_sem]);obtain ⟨v0,vz0,v1,vz1⟩:=FK2 ga (w.heap.size+3) (.int .u64 18442240474082181120) (.int .u64 9218868437227405312) (by simp [go_sem]);obtain ⟨r0,rz0,r1,rz1⟩:=FK2 ga (w.heap.size+1) (.int .u64 0) (.int .u64 0) (by simp [go_sem])))
 exact BR (v:=.agg #[.int .u64 ZA,.int .u64 9218868437227405312]) (by simp [results,Tryz.results99,go_sem,r0,r1]) rfl ⟨rfl,(by repeat (with_reducible (first | assumption | exact Kp.refl _ | apply Kp.drew | apply Kp.alloc | apply Kp.drewN | (refine Kp.setCell ?_ (by first | omega | (simp <;> omega)) _) | (refine Kp.trans ?_ (by assumption)))))⟩
theorem leastNF_ (i:Int) (t1:(i == 0)=false) (ZB:Int) s p l c q k d s2 p2 l2 c2 q2 k2 d2 (w:World) (hb2:∀ W:World,Kp w W→Calls Tryz.prog 150 #[.int .i64 1,.agg #[.bool s2,.slice p2 l2 c2,.slice q2 k2 d2]] W fun e w'=>e=.returned (.int .u64 ZB)∧Kp W w'):Calls Tryz.prog 99 #[.agg #[.bool false,.int .i64 i,.bool s,.slice p l c,.slice q k d,.int .i64 0,.bool s2,.slice p2 l2 c2,.slice q2 k2 d2]] w fun e w'=>e=.returned (.agg #[.int .u64 18442240474082181120,.int .u64 ZB])∧Kp w w':=by
 go_enter Tryz.func99,Tryz.ntmps99
 go_wp2_with (first | (go_at_call 93;refine (Fq.rentire_ _).mono ?_;rintro e w' ⟨rfl,rfl⟩) | (go_at_call_of 150 (Value.slice p2 l2 c2);refine (hb2 _ ?q0).mono ?_;(case q0=>exact ((((Kp.refl w).alloc _).alloc _).alloc _).alloc _);rintro e wb ⟨rfl,gb⟩;have kb:Kp w wb:=Kp.trans (((((Kp.refl w).alloc _).alloc _).alloc _).alloc _) gb;obtain ⟨u0,uz0,u1,uz1⟩:=FK2 gb (w.heap.size+3) (.int .u64 18442240474082181120) (.int .u64 9218868437227405312) (by simp [go_sem]);obtain ⟨y0,yz0,y1,yz1⟩:=FK2 gb (w.heap.size+1) (.int .u64 0) (.int .u64 0) (by simp [go_sem])))
 exact BR (v:=.agg #[.int .u64 18442240474082181120,.int .u64 ZB]) (by simp [results,Tryz.results99,go_sem,y0,y1]) rfl ⟨rfl,(by repeat (with_reducible (first | assumption | exact Kp.refl _ | apply Kp.drew | apply Kp.alloc | apply Kp.drewN | (refine Kp.setCell ?_ (by first | omega | (simp <;> omega)) _) | (refine Kp.trans ?_ (by assumption)))))⟩
theorem leastFF_ (ZA:Int) (ZB:Int) s p l c q k d s2 p2 l2 c2 q2 k2 d2 (w:World) (hb1:∀ W:World,Kp w W→Calls Tryz.prog 150 #[.int .i64 (-1),.agg #[.bool s,.slice p l c,.slice q k d]] W fun e w'=>e=.returned (.int .u64 ZA)∧Kp W w') (hb2:∀ W:World,Kp w W→Calls Tryz.prog 150 #[.int .i64 1,.agg #[.bool s2,.slice p2 l2 c2,.slice q2 k2 d2]] W fun e w'=>e=.returned (.int .u64 ZB)∧Kp W w'):Calls Tryz.prog 99 #[.agg #[.bool false,.int .i64 0,.bool s,.slice p l c,.slice q k d,.int .i64 0,.bool s2,.slice p2 l2 c2,.slice q2 k2 d2]] w fun e w'=>e=.returned (.agg #[.int .u64 ZA,.int .u64 ZB])∧Kp w w':=by
 go_enter Tryz.func99,Tryz.ntmps99
 go_wp2_with (first | (go_at_call 93;refine (Fq.rentire_ _).mono ?_;rintro e w' ⟨rfl,rfl⟩) | (go_at_call_of 150 (Value.slice p l c);refine (hb1 _ ?q0).mono ?_;(case q0=>exact ((((Kp.refl w).alloc _).alloc _).alloc _).alloc _);rintro e wa ⟨rfl,ga⟩;have ka:Kp w wa:=Kp.trans (((((Kp.refl w).alloc _).alloc _).alloc _).alloc _) ga;obtain ⟨x0,xz0,x1,xz1,x2,xz2,x3,xz3,x4,xz4,x5,xz5,x6,xz6,x7,xz7,x8,xz8⟩:=FK9 ga (w.heap.size) (.bool false) (.int .i64 0) (.bool s) (.slice p l c) (.slice q k d) (.int .i64 0) (.bool s2) (.slice p2 l2 c2) (.slice q2 k2 d2) (by simp [go_sem]);obtain ⟨v0,vz0,v1,vz1⟩:=FK2 ga (w.heap.size+3) (.int .u64 18442240474082181120) (.int .u64 9218868437227405312) (by simp [go_sem]);obtain ⟨r0,rz0,r1,rz1⟩:=FK2 ga (w.heap.size+1) (.int .u64 0) (.int .u64 0) (by simp [go_sem])) | (go_at_call_of 150 (Value.slice p2 l2 c2);refine (hb2 _ ?q0).mono ?_;(case q0=>exact ka.setCell (by simp <;> omega) _);rintro e wb ⟨rfl,gb⟩;have kb:Kp w wb:=Kp.trans (ka.setCell (by simp <;> omega) _) gb;have u0:=kkeep gb (b:=w.heap.size+3) (o:=0) (v:=.int .u64 ZA) (by simp [go_sem,v0]);have u1:=kkeep gb (b:=w.heap.size+3) (o:=1) (v:=.int .u64 9218868437227405312) (by simp [go_sem,v1]);have uz0:wb.frozen? ⟨w.heap.size+3,0,none⟩=false:=(kfro gb (by have:=cell_lt v0;simpa using this)).trans (by simp [go_sem,vz0]);have uz1:wb.frozen? ⟨w.heap.size+3,1,none⟩=false:=(kfro gb (by have:=cell_lt v0;simpa using this)).trans (by simp [go_sem,vz1]);have y0:=kkeep gb (b:=w.heap.size+1) (o:=0) (v:=.int .u64 0) (by simp [go_sem,r0]);have y1:=kkeep gb (b:=w.heap.size+1) (o:=1) (v:=.int .u64 0) (by simp [go_sem,r1]);have yz0:wb.frozen? ⟨w.heap.size+1,0,none⟩=false:=(kfro gb (by have:=cell_lt r0;simpa using this)).trans (by simp [go_sem,rz0]);have yz1:wb.frozen? ⟨w.heap.size+1,1,none⟩=false:=(kfro gb (by have:=cell_lt r0;simpa using this)).trans (by simp [go_sem,rz1])))
 exact BR (v:=.agg #[.int .u64 ZA,.int .u64 ZB]) (by simp [results,Tryz.results99,go_sem,y0,y1]) rfl ⟨rfl,(by repeat (with_reducible (first | assumption | exact Kp.refl _ | apply Kp.drew | apply Kp.alloc | apply Kp.drewN | (refine Kp.setCell ?_ (by first | omega | (simp <;> omega)) _) | (refine Kp.trans ?_ (by assumption)))))⟩

def SV0 (N:Bool) (v:Value):Prop:=∃ (i j:Int) (s:Bool) (p:Option Addr) (l c:Nat) (q:Option Addr) (k d:Nat) (s2:Bool) (p2:Option Addr) (l2 c2:Nat) (q2:Option Addr) (k2 d2:Nat),v=.agg #[.bool N,.int .i64 i,.bool s,.slice p l c,.slice q k d,.int .i64 j,.bool s2,.slice p2 l2 c2,.slice q2 k2 d2]
def SV1 (n:Bool) (m:Nat) (n':Bool) (m':Nat) (W:World) (v:Value):Prop:=∃ (s:Bool) (p:Option Addr) (l c:Nat) (q:Option Addr) (k d:Nat) (s2:Bool) (p2:Option Addr) (l2 c2:Nat) (q2:Option Addr) (k2 d2:Nat),v=.agg #[.bool false,.int .i64 (infS n m),.bool s,.slice p l c,.slice q k d,.int .i64 (infS n' m'),.bool s2,.slice p2 l2 c2,.slice q2 k2 d2]∧RP 0 W s p l c q k d (fN n m) (fM m)∧RP 0 W s2 p2 l2 c2 q2 k2 d2 (fN n' m') (fM m')
theorem SV1.sv0 {n:Bool} {m:Nat} {n':Bool} {m':Nat} {W:World} {v:Value} (h:SV1 n m n' m' W v):SV0 false v:=by
 obtain ⟨s,p,l,c,q,k,d,s2,p2,l2,c2,q2,k2,d2,e,-,-⟩:=h
 exact ⟨_,_,s,p,l,c,q,k,d,s2,p2,l2,c2,q2,k2,d2,e⟩
theorem SV1.kp {n:Bool} {m:Nat} {n':Bool} {m':Nat} {W W':World} {v:Value} (g:Kp W W') (h:SV1 n m n' m' W v):SV1 n m n' m' W' v:=by
 obtain ⟨s,p,l,c,q,k,d,s2,p2,l2,c2,q2,k2,d2,e,h1,h2⟩:=h
 exact ⟨s,p,l,c,q,k,d,s2,p2,l2,c2,q2,k2,d2,e,h1.kp g,h2.kp g⟩
theorem pla_ne (x:Nat):Fq.pla x≠9223372036854775808:=by unfold Fq.pla;split <;> omega
theorem rlo_ne (a b:Nat):Fq.rlo a b≠9223372036854775808:=by
 unfold Fq.rlo
 split
 ·exact pla_ne a
 ·decide
theorem rhi_ne (a b:Nat):Fq.rhi a b≠9223372036854775808:=by
 unfold Fq.rhi
 split
 ·exact pla_ne b
 ·decide
theorem ofEmpty_ (a b:Nat) (ha:a<18446744073709551616) (hb:b<18446744073709551616) (hs:Fq.snd a b=false) (w:World):Calls Tryz.prog 47 #[.agg #[.int .u64 ((a:Nat):Int),.int .u64 ((b:Nat):Int)]] w fun e w'=>∃ v,e=.returned v∧SV0 true v∧Kp w w':=by
 have hr:∀ w:World,Calls Tryz.prog 98 #[.agg #[.int .u64 ((a:Nat):Int),.int .u64 ((b:Nat):Int)]] w fun e w'=>e=.returned (.agg #[.int .u64 9218868437227405312,.int .u64 18442240474082181120])∧Kp w w':=by
  obtain ⟨n,m,hm,rfl⟩:=Fq.exD a ha
  obtain ⟨n',m',hm',rfl⟩:=Fq.exD b hb
  intro w
  have h:=Fq.rread_ n n' m m' hm hm' w
  rw [show Fq.rlo (Fq.wD n m) (Fq.wD n' m')=9218868437227405312 from by simp [Fq.rlo,hs],show Fq.rhi (Fq.wD n m) (Fq.wD n' m')=18442240474082181120 from by simp [Fq.rhi,hs]] at h
  exact h
 refine (ofE_ _ _ hr w).mono ?_
 rintro e w' ⟨s,p,l,c,q,k,d,s2,p2,l2,c2,q2,k2,d2,rfl,-,-,g⟩
 exact ⟨_,rfl,⟨0,0,s,p,l,c,q,k,d,s2,p2,l2,c2,q2,k2,d2,rfl⟩,g⟩
theorem ofSound_ (a b:Nat) (ha:a<18446744073709551616) (hb:b<18446744073709551616) (hs:Fq.snd a b=true) (n n':Bool) (m m':Nat) (hm:m≤9218868437227405312) (hm':m'≤9218868437227405312) (e1:Fq.rlo a b=Fq.wD n m) (e2:Fq.rhi a b=Fq.wD n' m') (w:World):Calls Tryz.prog 47 #[.agg #[.int .u64 ((a:Nat):Int),.int .u64 ((b:Nat):Int)]] w fun e w'=>∃ v,e=.returned v∧SV1 n m n' m' w' v∧Kp w w':=by
 have hr:∀ w:World,Calls Tryz.prog 98 #[.agg #[.int .u64 ((a:Nat):Int),.int .u64 ((b:Nat):Int)]] w fun e w'=>e=.returned (.agg #[.int .u64 ((Fq.wD n m:Nat):Int),.int .u64 ((Fq.wD n' m':Nat):Int)])∧Kp w w':=by
  rw [← e1,← e2]
  obtain ⟨n,m,hm,rfl⟩:=Fq.exD a ha
  obtain ⟨n',m',hm',rfl⟩:=Fq.exD b hb
  exact fun w=>Fq.rread_ n n' m m' hm hm' w
 have t1:(((Fq.wD n m:Nat):Int) == 9218868437227405312)=false:=by
  have h1:Fq.rlo a b≠9218868437227405312:=by
   have h2:a≠9218868437227405312:=by intro h;rw [h] at hs;simp [Fq.snd] at hs
   simp only [Fq.rlo,hs,if_true,Fq.pla];split <;> omega
  rw [e1] at h1
  simp;omega
 refine (ofS_ _ _ _ _ _ _ _ _ _ _ hr (bound_ n m hm (e1 ▸ rlo_ne a b)) (bound_ n' m' hm' (e2 ▸ rhi_ne a b)) t1 w).mono ?_
 rintro e w' ⟨s,p,l,c,q,k,d,s2,p2,l2,c2,q2,k2,d2,rfl,h1,h2,g⟩
 exact ⟨_,rfl,⟨s,p,l,c,q,k,d,s2,p2,l2,c2,q2,k2,d2,rfl,h1.mono (Nat.zero_le _),h2.mono (Nat.zero_le _)⟩,g⟩
theorem leastP_ (i j:Int) (ZA ZB:Int→Nat) s p l c q k d s2 p2 l2 c2 q2 k2 d2 (B1 B2:Nat) (w:World) (h1:i=0→QP B1 w s p l c q k d ZA) (h2:j=0→QP B2 w s2 p2 l2 c2 q2 k2 d2 ZB):Calls Tryz.prog 99 #[.agg #[.bool false,.int .i64 i,.bool s,.slice p l c,.slice q k d,.int .i64 j,.bool s2,.slice p2 l2 c2,.slice q2 k2 d2]] w fun e w'=>e=.returned (.agg #[.int .u64 ((if i=0 then ZA (-1) else 18442240474082181120:Nat):Int),.int .u64 ((if j=0 then ZB 1 else 9218868437227405312:Nat):Int)])∧Kp w w':=by
 by_cases e1:i=0
 ·have g1:=h1 e1
  rw [if_pos e1]
  by_cases e2:j=0
  ·have g2:=h2 e2
   rw [if_pos e2]
   subst e1 e2
   exact leastFF_ _ _ s p l c q k d s2 p2 l2 c2 q2 k2 d2 w (fun W g=>qbits_ s p l c q k d ZA (-1) B1 W (g1.kp g)) (fun W g=>qbits_ s2 p2 l2 c2 q2 k2 d2 ZB 1 B2 W (g2.kp g))
  ·rw [if_neg e2]
   subst e1
   exact leastFN_ _ j (by simpa using e2) s p l c q k d s2 p2 l2 c2 q2 k2 d2 w (fun W g=>qbits_ s p l c q k d ZA (-1) B1 W (g1.kp g))
 ·rw [if_neg e1]
  by_cases e2:j=0
  ·have g2:=h2 e2
   rw [if_pos e2]
   subst e2
   exact leastNF_ i (by simpa using e1) _ s p l c q k d s2 p2 l2 c2 q2 k2 d2 w (fun W g=>qbits_ s2 p2 l2 c2 q2 k2 d2 ZB 1 B2 W (g2.kp g))
  ·rw [if_neg e2]
   exact leastNN_ i (by simpa using e1) j (by simpa using e2) s p l c q k d s2 p2 l2 c2 q2 k2 d2 w
theorem infS_zero (n:Bool) (m:Nat):infS n m=0 ↔ m≠9218868437227405312:=by
 unfold infS
 by_cases c:m=9218868437227405312
 ·rw [if_pos c];cases n <;> simp [c]
 ·rw [if_neg c];simp [c]
theorem leastN_ (W:World) (v:Value) (h:SV0 true v):Calls Tryz.prog 99 #[v] W fun e w'=>e=.returned (.agg #[.int .u64 9218868437227405312,.int .u64 18442240474082181120])∧Kp W w':=by
 obtain ⟨i,j,s,p,l,c,q,k,d,s2,p2,l2,c2,q2,k2,d2,rfl⟩:=h
 exact leastE_ i j s p l c q k d s2 p2 l2 c2 q2 k2 d2 W
theorem minusS_ (n g:Bool) (m r:Nat) (W:World) (v:Value) (h:SV1 n m g r W v):Calls Tryz.prog 48 #[v] W fun e w'=>∃ v',e=.returned v'∧SV1 (!g) r (!n) m w' v'∧Kp W w':=by
 obtain ⟨s,p,l,c,q,k,d,s2,p2,l2,c2,q2,k2,d2,rfl,a1,a2⟩:=h
 refine (minusN_ (infS n m) (infS g r) (infS (!n) m) (infS (!g) r) (fN (!n) m) (fN (!g) r) (fM m) (fM r) s p l c q k d s2 p2 l2 c2 q2 k2 d2 W (fun W' y=>turned_ n m s p l c q k d 0 W' (a1.kp y)) (fun W' y=>turned_ g r s2 p2 l2 c2 q2 k2 d2 0 W' (a2.kp y))).mono ?_
 rintro e w' ⟨s5,p5,l5,c5,q5,k5,d5,s6,p6,l6,c6,q6,k6,d6,rfl,x1,x2,y⟩
 exact ⟨_,rfl,⟨s5,p5,l5,c5,q5,k5,d5,s6,p6,l6,c6,q6,k6,d6,rfl,x1.mono (Nat.zero_le _),x2.mono (Nat.zero_le _)⟩,y⟩
theorem minusX_ (W:World) (v:Value) (h:SV0 true v):Calls Tryz.prog 48 #[v] W fun e w'=>∃ v',e=.returned v'∧SV0 true v'∧Kp W w':=by
 obtain ⟨i,j,s,p,l,c,q,k,d,s2,p2,l2,c2,q2,k2,d2,rfl⟩:=h
 refine (minusE_ i j s p l c q k d s2 p2 l2 c2 q2 k2 d2 W).mono ?_
 rintro e w' ⟨rfl,y⟩
 exact ⟨_,rfl,⟨i,j,s,p,l,c,q,k,d,s2,p2,l2,c2,q2,k2,d2,rfl⟩,y⟩
theorem leastV_ (n g:Bool) (m r:Nat) (hm:m≤9218868437227405312) (hr:r≤9218868437227405312) (i1:m=9218868437227405312→n=true) (i2:r=9218868437227405312→g=false) (W:World) (v:Value) (h:SV1 n m g r W v):Calls Tryz.prog 99 #[v] W fun e w'=>e=.returned (.agg #[.int .u64 ((Fq.pla (Fq.wD n m):Nat):Int),.int .u64 ((Fq.pla (Fq.wD g r):Nat):Int)])∧Kp W w':=by
 obtain ⟨s,p,l,c,q,k,d,s2,p2,l2,c2,q2,k2,d2,rfl,x1,x2⟩:=h
 have h:=leastP_ (infS n m) (infS g r) _ _ s p l c q k d s2 p2 l2 c2 q2 k2 d2 0 0 W (fun _=>x1.qp) (fun _=>x2.qp)
 have e1:(if infS n m=0 then sumW (-1) (Iv (fN n m) (fM m)) else 18442240474082181120)=Fq.pla (Fq.wD n m):=by
  by_cases c0:m=9218868437227405312
  ·rw [if_neg (by rw [infS_zero];simp [c0]),i1 c0,c0];decide +kernel
  ·rw [if_pos (by rw [infS_zero];exact c0)]
   unfold fN fM
   rw [if_neg c0,if_neg c0]
   exact sumW_exact (-1) n m (by omega)
 have e2:(if infS g r=0 then sumW 1 (Iv (fN g r) (fM r)) else 9218868437227405312)=Fq.pla (Fq.wD g r):=by
  by_cases c0:r=9218868437227405312
  ·rw [if_neg (by rw [infS_zero];simp [c0]),i2 c0,c0];decide +kernel
  ·rw [if_pos (by rw [infS_zero];exact c0)]
   unfold fN fM
   rw [if_neg c0,if_neg c0]
   exact sumW_exact 1 g r (by omega)
 rw [e1,e2] at h
 exact h
end Go.Proofs.YtmpjcknaelgnoaaGreatDoor
