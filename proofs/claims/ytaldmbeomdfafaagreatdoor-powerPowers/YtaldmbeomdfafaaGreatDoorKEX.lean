import Derived.Test.YtaldmbeomdfafaaGreatDoorKEC2
set_option maxHeartbeats 1000000
set_option maxRecDepth 20000
namespace Go.Proofs.YtaldmbeomdfafaaGreatDoor
open Go.RowKit
theorem fin0_ (w:World):Calls Tryz.prog 92 #[.int .i64 0] w fun e w'=>∃ s p l c q k d,e = .returned (.agg #[.int .i64 0,.bool s,.slice p l c,.slice q k d])∧RP w.heap.size w' s p l c q k d false 0∧Kp w w':=by
 go_enter Tryz.func92,Tryz.ntmps92
 go_wp2_with (first | (go_at_call 32;refine (int0_ _).mono ?_;rintro e w1 ⟨s,p,l,c,q,k,d,rfl,hp,g1⟩;obtain ⟨r0,rz0,r1,rz1,r2,rz2,r3,rz3⟩:=FK4 g1 (w.heap.size) (.int .i64 0) (.bool false) (.slice none 0 0) (.slice none 0 0) (by simp [go_sem])))
 exact bodyPost_ret (v:=.agg #[.int .i64 0,.bool s,.slice p l c,.slice q k d]) (by simp [results,Tryz.results92,go_sem,r0,r1,r2,r3]) rfl ⟨s,p,l,c,q,k,d,rfl,RP.mono (((((hp).set (x:=⟨w.heap.size,0,none⟩) (by simp) (.int .i64 0)).set (x:=⟨w.heap.size,1,none⟩) (by simp) (.bool s)).set (x:=⟨w.heap.size,2,none⟩) (by simp) (.slice p l c)).set (x:=⟨w.heap.size,3,none⟩) (by simp) (.slice q k d)) (by simp),KS4 ((Kp.trans ((Kp.refl w).alloc _) g1)) (Nat.le_refl _)⟩
theorem ofS_ (X Y LO HI i j:Int) (N1 N2:Bool) (M1 M2:Nat) (hr:∀ w:World,Calls Tryz.prog 22 #[.agg #[.int .u64 X,.int .u64 Y]] w fun e w'=>e = .returned (.agg #[.int .u64 LO,.int .u64 HI])∧Kp w w') (hb1:∀ w:World,Calls Tryz.prog 93 #[.int .u64 LO] w fun e w'=>∃ s p l c q k d,e = .returned (.agg #[.int .i64 i,.bool s,.slice p l c,.slice q k d])∧RP w.heap.size w' s p l c q k d N1 M1∧Kp w w') (hb2:∀ w:World,Calls Tryz.prog 93 #[.int .u64 HI] w fun e w'=>∃ s p l c q k d,e = .returned (.agg #[.int .i64 j,.bool s,.slice p l c,.slice q k d])∧RP w.heap.size w' s p l c q k d N2 M2∧Kp w w') (t1:(LO == 9218868437227405312) = false) (w:World):Calls Tryz.prog 60 #[.agg #[.int .u64 X,.int .u64 Y]] w fun e w'=>∃ (s:Bool) (p:Option Addr) (l c:Nat) (q:Option Addr) (k d:Nat) (s2:Bool) (p2:Option Addr) (l2 c2:Nat) (q2:Option Addr) (k2 d2:Nat),e = .returned (.agg #[.bool false,.int .i64 i,.bool s,.slice p l c,.slice q k d,.int .i64 j,.bool s2,.slice p2 l2 c2,.slice q2 k2 d2])∧RP w.heap.size w' s p l c q k d N1 M1∧RP w.heap.size w' s2 p2 l2 c2 q2 k2 d2 N2 M2∧Kp w w':=by
 go_enter Tryz.func60,Tryz.ntmps60
 go_wp2_with (first | (go_at_call 22;refine (hr _).mono ?_;rintro e w1 ⟨rfl,g1⟩;obtain ⟨r0,rz0,r1,rz1,r2,rz2,r3,rz3,r4,rz4,r5,rz5,r6,rz6,r7,rz7,r8,rz8⟩:=FK9 g1 (w.heap.size + 1) (.bool false) (.int .i64 0) (.bool false) (.slice none 0 0) (.slice none 0 0) (.int .i64 0) (.bool false) (.slice none 0 0) (.slice none 0 0) (by simp [go_sem])))
 go_region_held3 (fun w'=>w'.cell? ⟨w1.heap.size,0,none⟩ = some (.int .u64 LO)∧w'.cell? ⟨w1.heap.size,1,none⟩ = some (.int .u64 HI)) (simp [go_sem]) (first | (go_at_call 24;refine (Fq.rempty_ _).mono ?_;rintro e w' ⟨rfl,rfl⟩))
 have y0:(((w1.alloc (.cells #[.int .u64 LO,.int .u64 HI] 33)).alloc (.cells #[.int .u64 9218868437227405312,.int .u64 18442240474082181120] 33)).drew).cell? ⟨w1.heap.size,0,none⟩ = some (.int .u64 LO):=by simp [go_sem]
 have y1:(((w1.alloc (.cells #[.int .u64 LO,.int .u64 HI] 33)).alloc (.cells #[.int .u64 9218868437227405312,.int .u64 18442240474082181120] 33)).drew).cell? ⟨w1.heap.size,1,none⟩ = some (.int .u64 HI):=by simp [go_sem]
 have kW:Kp w1 (((w1.alloc (.cells #[.int .u64 LO,.int .u64 HI] 33)).alloc (.cells #[.int .u64 9218868437227405312,.int .u64 18442240474082181120] 33)).drew):=(((Kp.refl w1).alloc _).alloc _).drew
 have kw:Kp w w1:=Kp.trans (((Kp.refl w).alloc _).alloc _) g1
 have hB1:w.heap.size + 1 < w1.heap.size:=cell_lt r0
 have hne:w.heap.size + 1≠w1.heap.size:=Nat.ne_of_lt hB1
 go_wp2
 generalize (((w1.alloc (.cells #[.int .u64 LO,.int .u64 HI] 33)).alloc (.cells #[.int .u64 9218868437227405312,.int .u64 18442240474082181120] 33)).drew) = W at y0 y1 kW ⊢
 generalize hby:w1.heap.size = by9 at y0 y1 hne ⊢
 have hBW:w.heap.size + 1 < W.heap.size:=Nat.lt_of_lt_of_le hB1 (Below.size kW)
 have y2:W.drew.cell? ⟨by9,0,none⟩ = some (.int .u64 LO):=y0
 have y3:W.drew.cell? ⟨by9,1,none⟩ = some (.int .u64 HI):=y1
 replace r0:=kkeep kW r0
 replace rz0:=(kfro kW hB1).trans rz0
 replace r1:=kkeep kW r1
 replace rz1:=(kfro kW hB1).trans rz1
 replace r2:=kkeep kW r2
 replace rz2:=(kfro kW hB1).trans rz2
 replace r3:=kkeep kW r3
 replace rz3:=(kfro kW hB1).trans rz3
 replace r4:=kkeep kW r4
 replace rz4:=(kfro kW hB1).trans rz4
 replace r5:=kkeep kW r5
 replace rz5:=(kfro kW hB1).trans rz5
 replace r6:=kkeep kW r6
 replace rz6:=(kfro kW hB1).trans rz6
 replace r7:=kkeep kW r7
 replace rz7:=(kfro kW hB1).trans rz7
 replace r8:=kkeep kW r8
 replace rz8:=(kfro kW hB1).trans rz8
 go_region_held3 (fun w'=>w'.cell? ⟨by9,0,none⟩ = some (.int .u64 LO)∧w'.cell? ⟨by9,1,none⟩ = some (.int .u64 HI)) (first | (with_reducible exact ⟨y0,y1⟩) | (with_reducible exact ⟨y2,y3⟩) | (with_reducible exact ⟨a0,a1⟩) | (with_reducible exact ⟨b0,b1⟩) | (exact ⟨(CF9 hne b0),(CF9 hne b1)⟩)) (first | (go_at_call_of 93 (Value.int .u64 LO);refine (hb1 _).mono ?_;rintro e wl ⟨s,p,l,c,q,k,d,rfl,hp,gl⟩;have kl:Kp W wl:=Kp.trans (Kp.drew (Kp.refl _)) gl;have a0:=kkeep kl y0;have a1:=kkeep kl y1) | (go_at_call_of 93 (Value.int .u64 HI);refine (hb2 _).mono ?_;rintro e wh ⟨s2,p2,l2,c2,q2,k2,d2,rfl,hp2,gh⟩;have kh:=Kp.trans kl gh;have b0:=kkeep kh y0;have b1:=kkeep kh y1;obtain ⟨R0,Rz0,R1,Rz1,R2,Rz2,R3,Rz3,R4,Rz4,R5,Rz5,R6,Rz6,R7,Rz7,R8,Rz8⟩:=AK9 kh ⟨r0,rz0,r1,rz1,r2,rz2,r3,rz3,r4,rz4,r5,rz5,r6,rz6,r7,rz7,r8,rz8⟩))
 go_wp2
 have hP1:RP W.heap.size wh s p l c q k d N1 M1:=(RP.mono hp (Nat.le_refl _)).kp gh
 have hP2:RP W.heap.size wh s2 p2 l2 c2 q2 k2 d2 N2 M2:=RP.mono hp2 (Below.size kl)
 have hle:w.heap.size≤W.heap.size:=Nat.le_of_lt (Nat.lt_trans (Nat.lt_succ_self _) hBW)
 exact bodyPost_ret (v:=.agg #[.bool false,.int .i64 i,.bool s,.slice p l c,.slice q k d,.int .i64 j,.bool s2,.slice p2 l2 c2,.slice q2 k2 d2]) (by simp [results,Tryz.results60,go_sem,R0,R1,R2,R3,R4,R5,R6,R7,R8]) rfl ⟨s,p,l,c,q,k,d,s2,p2,l2,c2,q2,k2,d2,rfl,RP.mono ((((((((((hP1).set (x:=⟨w.heap.size + 1,0,none⟩) hBW (.bool false)).set (x:=⟨w.heap.size + 1,1,none⟩) hBW (.int .i64 i)).set (x:=⟨w.heap.size + 1,2,none⟩) hBW (.bool s)).set (x:=⟨w.heap.size + 1,3,none⟩) hBW (.slice p l c)).set (x:=⟨w.heap.size + 1,4,none⟩) hBW (.slice q k d)).set (x:=⟨w.heap.size + 1,5,none⟩) hBW (.int .i64 j)).set (x:=⟨w.heap.size + 1,6,none⟩) hBW (.bool s2)).set (x:=⟨w.heap.size + 1,7,none⟩) hBW (.slice p2 l2 c2)).set (x:=⟨w.heap.size + 1,8,none⟩) hBW (.slice q2 k2 d2)) hle,RP.mono ((((((((((hP2).set (x:=⟨w.heap.size + 1,0,none⟩) hBW (.bool false)).set (x:=⟨w.heap.size + 1,1,none⟩) hBW (.int .i64 i)).set (x:=⟨w.heap.size + 1,2,none⟩) hBW (.bool s)).set (x:=⟨w.heap.size + 1,3,none⟩) hBW (.slice p l c)).set (x:=⟨w.heap.size + 1,4,none⟩) hBW (.slice q k d)).set (x:=⟨w.heap.size + 1,5,none⟩) hBW (.int .i64 j)).set (x:=⟨w.heap.size + 1,6,none⟩) hBW (.bool s2)).set (x:=⟨w.heap.size + 1,7,none⟩) hBW (.slice p2 l2 c2)).set (x:=⟨w.heap.size + 1,8,none⟩) hBW (.slice q2 k2 d2)) hle,KS9 ((Kp.trans (Kp.trans kw kW) kh)) (Nat.le_succ _)⟩
theorem ofE_ (X Y:Int) (hr:∀ w:World,Calls Tryz.prog 22 #[.agg #[.int .u64 X,.int .u64 Y]] w fun e w'=>e = .returned (.agg #[.int .u64 9218868437227405312,.int .u64 18442240474082181120])∧Kp w w') (w:World):Calls Tryz.prog 60 #[.agg #[.int .u64 X,.int .u64 Y]] w fun e w'=>∃ (s:Bool) (p:Option Addr) (l c:Nat) (q:Option Addr) (k d:Nat) (s2:Bool) (p2:Option Addr) (l2 c2:Nat) (q2:Option Addr) (k2 d2:Nat),e = .returned (.agg #[.bool true,.int .i64 0,.bool s,.slice p l c,.slice q k d,.int .i64 0,.bool s2,.slice p2 l2 c2,.slice q2 k2 d2])∧RP w.heap.size w' s p l c q k d false 0∧RP w.heap.size w' s2 p2 l2 c2 q2 k2 d2 false 0∧Kp w w':=by
 go_enter Tryz.func60,Tryz.ntmps60
 go_wp2_with (first | (go_at_call 22;refine (hr _).mono ?_;rintro e w1 ⟨rfl,g1⟩;obtain ⟨r0,rz0,r1,rz1,r2,rz2,r3,rz3,r4,rz4,r5,rz5,r6,rz6,r7,rz7,r8,rz8⟩:=FK9 g1 (w.heap.size + 1) (.bool false) (.int .i64 0) (.bool false) (.slice none 0 0) (.slice none 0 0) (.int .i64 0) (.bool false) (.slice none 0 0) (.slice none 0 0) (by simp [go_sem])))
 go_region_held3 (fun w'=>w'.cell? ⟨w1.heap.size,0,none⟩ = some (.int .u64 9218868437227405312)∧w'.cell? ⟨w1.heap.size,1,none⟩ = some (.int .u64 18442240474082181120)) (simp [go_sem]) (first | (go_at_call 24;refine (Fq.rempty_ _).mono ?_;rintro e w' ⟨rfl,rfl⟩))
 have kW:Kp w1 (((w1.alloc (.cells #[.int .u64 9218868437227405312,.int .u64 18442240474082181120] 33)).alloc (.cells #[.int .u64 9218868437227405312,.int .u64 18442240474082181120] 33)).drew):=(((Kp.refl w1).alloc _).alloc _).drew
 have kw:Kp w w1:=Kp.trans (((Kp.refl w).alloc _).alloc _) g1
 have hB1:w.heap.size + 1 < w1.heap.size:=cell_lt r0
 generalize (((w1.alloc (.cells #[.int .u64 9218868437227405312,.int .u64 18442240474082181120] 33)).alloc (.cells #[.int .u64 9218868437227405312,.int .u64 18442240474082181120] 33)).drew) = W at kW ⊢
 have hBW:w.heap.size + 1 < W.heap.size:=Nat.lt_of_lt_of_le hB1 (Below.size kW)
 replace r0:=kkeep kW r0
 replace rz0:=(kfro kW hB1).trans rz0
 replace r1:=kkeep kW r1
 replace rz1:=(kfro kW hB1).trans rz1
 replace r2:=kkeep kW r2
 replace rz2:=(kfro kW hB1).trans rz2
 replace r3:=kkeep kW r3
 replace rz3:=(kfro kW hB1).trans rz3
 replace r4:=kkeep kW r4
 replace rz4:=(kfro kW hB1).trans rz4
 replace r5:=kkeep kW r5
 replace rz5:=(kfro kW hB1).trans rz5
 replace r6:=kkeep kW r6
 replace rz6:=(kfro kW hB1).trans rz6
 replace r7:=kkeep kW r7
 replace rz7:=(kfro kW hB1).trans rz7
 replace r8:=kkeep kW r8
 replace rz8:=(kfro kW hB1).trans rz8
 go_wp2_with (first | (go_at_call 92;refine (fin0_ _).mono ?_;rintro e wh ⟨s2,p2,l2,c2,q2,k2,d2,rfl,hp2,gh⟩;have kh:=Kp.trans kl gh;obtain ⟨R0,Rz0,R1,Rz1,R2,Rz2,R3,Rz3,R4,Rz4,R5,Rz5,R6,Rz6,R7,Rz7,R8,Rz8⟩:=AK9 kh ⟨r0,rz0,r1,rz1,r2,rz2,r3,rz3,r4,rz4,r5,rz5,r6,rz6,r7,rz7,r8,rz8⟩) | (go_at_call 92;refine (fin0_ _).mono ?_;rintro e wl ⟨s,p,l,c,q,k,d,rfl,hp,kl⟩))
 have hP1:RP W.heap.size wh s p l c q k d false 0:=hp.kp gh
 have hP2:RP W.heap.size wh s2 p2 l2 c2 q2 k2 d2 false 0:=RP.mono hp2 (Below.size kl)
 have hle:w.heap.size≤W.heap.size:=Nat.le_of_lt (Nat.lt_trans (Nat.lt_succ_self _) hBW)
 exact bodyPost_ret (v:=.agg #[.bool true,.int .i64 0,.bool s,.slice p l c,.slice q k d,.int .i64 0,.bool s2,.slice p2 l2 c2,.slice q2 k2 d2]) (by simp [results,Tryz.results60,go_sem,R0,R1,R2,R3,R4,R5,R6,R7,R8]) rfl ⟨s,p,l,c,q,k,d,s2,p2,l2,c2,q2,k2,d2,rfl,RP.mono ((((((((((hP1).set (x:=⟨w.heap.size + 1,0,none⟩) hBW (.bool true)).set (x:=⟨w.heap.size + 1,1,none⟩) hBW (.int .i64 0)).set (x:=⟨w.heap.size + 1,2,none⟩) hBW (.bool s)).set (x:=⟨w.heap.size + 1,3,none⟩) hBW (.slice p l c)).set (x:=⟨w.heap.size + 1,4,none⟩) hBW (.slice q k d)).set (x:=⟨w.heap.size + 1,5,none⟩) hBW (.int .i64 0)).set (x:=⟨w.heap.size + 1,6,none⟩) hBW (.bool s2)).set (x:=⟨w.heap.size + 1,7,none⟩) hBW (.slice p2 l2 c2)).set (x:=⟨w.heap.size + 1,8,none⟩) hBW (.slice q2 k2 d2)) hle,RP.mono ((((((((((hP2).set (x:=⟨w.heap.size + 1,0,none⟩) hBW (.bool true)).set (x:=⟨w.heap.size + 1,1,none⟩) hBW (.int .i64 0)).set (x:=⟨w.heap.size + 1,2,none⟩) hBW (.bool s)).set (x:=⟨w.heap.size + 1,3,none⟩) hBW (.slice p l c)).set (x:=⟨w.heap.size + 1,4,none⟩) hBW (.slice q k d)).set (x:=⟨w.heap.size + 1,5,none⟩) hBW (.int .i64 0)).set (x:=⟨w.heap.size + 1,6,none⟩) hBW (.bool s2)).set (x:=⟨w.heap.size + 1,7,none⟩) hBW (.slice p2 l2 c2)).set (x:=⟨w.heap.size + 1,8,none⟩) hBW (.slice q2 k2 d2)) hle,KS9 ((Kp.trans (Kp.trans kw kW) kh)) (Nat.le_succ _)⟩

def QP (base:Nat) (w:World) (s:Bool) (p:Option Addr) (l c:Nat) (q:Option Addr) (k d:Nat) (Z:Int→Nat):Prop:=∃ a b,Own w base (.slice p l c) (dig a)∧Own w base (.slice q k d) (dig b)∧b≠0∧blen a≤4194304∧blen b≤4194304∧∀ dd:Int,refW 53 1074 2098 9218868437227405311 0 dd s a b = Z dd
theorem QP.kp {base:Nat} {w w':World} {s:Bool} {p:Option Addr} {l c:Nat} {q:Option Addr} {k d:Nat} {Z:Int→Nat} (h:QP base w s p l c q k d Z) (g:Kp w w'):QP base w' s p l c q k d Z:=by
 obtain ⟨a,b,h1,h2,h3⟩:=h
 exact ⟨a,b,h1.kp g,h2.kp g,h3⟩
theorem QP.mono {base base':Nat} {w:World} {s:Bool} {p:Option Addr} {l c:Nat} {q:Option Addr} {k d:Nat} {Z:Int→Nat} (h:QP base w s p l c q k d Z) (g:base'≤base):QP base' w s p l c q k d Z:=by
 obtain ⟨a,b,h1,h2,h3⟩:=h
 exact ⟨a,b,h1.mono g,h2.mono g,h3⟩
theorem QP.set {base:Nat} {w:World} {s:Bool} {p:Option Addr} {l c:Nat} {q:Option Addr} {k d:Nat} {Z:Int→Nat} (h:QP base w s p l c q k d Z) {x:Addr} (hx:x.block < base) (u:Value):QP base (w.setCell x u) s p l c q k d Z:=by
 obtain ⟨a,b,h1,h2,h3⟩:=h
 exact ⟨a,b,h1.setOther hx u,h2.setOther hx u,h3⟩
theorem qbits_ s p l c q k d (Z:Int→Nat) (dd:Int) (B1:Nat) (w:World) (h:QP B1 w s p l c q k d Z):Calls Tryz.prog 94 #[.int .i64 dd,.agg #[.bool s,.slice p l c,.slice q k d]] w fun e w'=>e = .returned (.int .u64 ((Z dd:Nat):Int))∧Kp w w':=by
 obtain ⟨a,b,u1,u2,u3,u4,u5,u6⟩:=h
 have h:=rbits_ dd s (.slice p l c) (.slice q k d) a b w u1.ls u2.ls u3 u4 u5
 rw [u6 dd] at h
 exact h
theorem leastE_ (i j:Int) s p l c q k d s2 p2 l2 c2 q2 k2 d2 (w:World):Calls Tryz.prog 62 #[.agg #[.bool true,.int .i64 i,.bool s,.slice p l c,.slice q k d,.int .i64 j,.bool s2,.slice p2 l2 c2,.slice q2 k2 d2]] w fun e w'=>e = .returned (.agg #[.int .u64 9218868437227405312,.int .u64 18442240474082181120])∧Kp w w':=by
 go_enter Tryz.func62,Tryz.ntmps62
 go_wp2_with (first | (go_at_call 24;refine (Fq.rempty_ _).mono ?_;rintro e w' ⟨rfl,rfl⟩))
 exact bodyPost_ret (v:=.agg #[.int .u64 9218868437227405312,.int .u64 18442240474082181120]) (by simp [results,Tryz.results62,go_sem]) rfl ⟨rfl,(by repeat (with_reducible (first | assumption | exact Kp.refl _ | apply Kp.drew | apply Kp.alloc | apply Kp.drewN | (refine Kp.setCell ?_ (by first | omega | (simp <;> omega)) _) | (refine Kp.trans ?_ (by assumption)))))⟩
theorem leastNN_ (i:Int) (t1:(i == 0) = false) (j:Int) (t2:(j == 0) = false) s p l c q k d s2 p2 l2 c2 q2 k2 d2 (w:World):Calls Tryz.prog 62 #[.agg #[.bool false,.int .i64 i,.bool s,.slice p l c,.slice q k d,.int .i64 j,.bool s2,.slice p2 l2 c2,.slice q2 k2 d2]] w fun e w'=>e = .returned (.agg #[.int .u64 18442240474082181120,.int .u64 9218868437227405312])∧Kp w w':=by
 go_enter Tryz.func62,Tryz.ntmps62
 go_wp2_with (first | (go_at_call 61;refine (Fq.rentire_ _).mono ?_;rintro e w' ⟨rfl,rfl⟩))
 exact bodyPost_ret (v:=.agg #[.int .u64 18442240474082181120,.int .u64 9218868437227405312]) (by simp [results,Tryz.results62,go_sem]) rfl ⟨rfl,(by repeat (with_reducible (first | assumption | exact Kp.refl _ | apply Kp.drew | apply Kp.alloc | apply Kp.drewN | (refine Kp.setCell ?_ (by first | omega | (simp <;> omega)) _) | (refine Kp.trans ?_ (by assumption)))))⟩
theorem leastFN_ (ZA:Int) (j:Int) (t2:(j == 0) = false) s p l c q k d s2 p2 l2 c2 q2 k2 d2 (w:World) (hb1:∀ W:World,Kp w W→Calls Tryz.prog 94 #[.int .i64 (-1),.agg #[.bool s,.slice p l c,.slice q k d]] W fun e w'=>e = .returned (.int .u64 ZA)∧Kp W w'):Calls Tryz.prog 62 #[.agg #[.bool false,.int .i64 0,.bool s,.slice p l c,.slice q k d,.int .i64 j,.bool s2,.slice p2 l2 c2,.slice q2 k2 d2]] w fun e w'=>e = .returned (.agg #[.int .u64 ZA,.int .u64 9218868437227405312])∧Kp w w':=by
 go_enter Tryz.func62,Tryz.ntmps62
 go_wp2_with (first | (go_at_call 61;refine (Fq.rentire_ _).mono ?_;rintro e w' ⟨rfl,rfl⟩) | (go_at_call_of 94 (Value.slice p l c);refine (hb1 _ ?q0).mono ?_;(case q0=>exact ((((Kp.refl w).alloc _).alloc _).alloc _).alloc _);rintro e wa ⟨rfl,ga⟩;have ka:Kp w wa:=Kp.trans (((((Kp.refl w).alloc _).alloc _).alloc _).alloc _) ga;obtain ⟨x0,xz0,x1,xz1,x2,xz2,x3,xz3,x4,xz4,x5,xz5,x6,xz6,x7,xz7,x8,xz8⟩:=FK9 ga (w.heap.size) (.bool false) (.int .i64 0) (.bool s) (.slice p l c) (.slice q k d) (.int .i64 j) (.bool s2) (.slice p2 l2 c2) (.slice q2 k2 d2) (by simp [go_sem]);obtain ⟨v0,vz0,v1,vz1⟩:=FK2 ga (w.heap.size + 3) (.int .u64 18442240474082181120) (.int .u64 9218868437227405312) (by simp [go_sem]);obtain ⟨r0,rz0,r1,rz1⟩:=FK2 ga (w.heap.size + 1) (.int .u64 0) (.int .u64 0) (by simp [go_sem])))
 exact bodyPost_ret (v:=.agg #[.int .u64 ZA,.int .u64 9218868437227405312]) (by simp [results,Tryz.results62,go_sem,r0,r1]) rfl ⟨rfl,(by repeat (with_reducible (first | assumption | exact Kp.refl _ | apply Kp.drew | apply Kp.alloc | apply Kp.drewN | (refine Kp.setCell ?_ (by first | omega | (simp <;> omega)) _) | (refine Kp.trans ?_ (by assumption)))))⟩
theorem leastNF_ (i:Int) (t1:(i == 0) = false) (ZB:Int) s p l c q k d s2 p2 l2 c2 q2 k2 d2 (w:World) (hb2:∀ W:World,Kp w W→Calls Tryz.prog 94 #[.int .i64 1,.agg #[.bool s2,.slice p2 l2 c2,.slice q2 k2 d2]] W fun e w'=>e = .returned (.int .u64 ZB)∧Kp W w'):Calls Tryz.prog 62 #[.agg #[.bool false,.int .i64 i,.bool s,.slice p l c,.slice q k d,.int .i64 0,.bool s2,.slice p2 l2 c2,.slice q2 k2 d2]] w fun e w'=>e = .returned (.agg #[.int .u64 18442240474082181120,.int .u64 ZB])∧Kp w w':=by
 go_enter Tryz.func62,Tryz.ntmps62
 go_wp2_with (first | (go_at_call 61;refine (Fq.rentire_ _).mono ?_;rintro e w' ⟨rfl,rfl⟩) | (go_at_call_of 94 (Value.slice p2 l2 c2);refine (hb2 _ ?q0).mono ?_;(case q0=>exact ((((Kp.refl w).alloc _).alloc _).alloc _).alloc _);rintro e wb ⟨rfl,gb⟩;have kb:Kp w wb:=Kp.trans (((((Kp.refl w).alloc _).alloc _).alloc _).alloc _) gb;obtain ⟨u0,uz0,u1,uz1⟩:=FK2 gb (w.heap.size + 3) (.int .u64 18442240474082181120) (.int .u64 9218868437227405312) (by simp [go_sem]);obtain ⟨y0,yz0,y1,yz1⟩:=FK2 gb (w.heap.size + 1) (.int .u64 0) (.int .u64 0) (by simp [go_sem])))
 exact bodyPost_ret (v:=.agg #[.int .u64 18442240474082181120,.int .u64 ZB]) (by simp [results,Tryz.results62,go_sem,y0,y1]) rfl ⟨rfl,(by repeat (with_reducible (first | assumption | exact Kp.refl _ | apply Kp.drew | apply Kp.alloc | apply Kp.drewN | (refine Kp.setCell ?_ (by first | omega | (simp <;> omega)) _) | (refine Kp.trans ?_ (by assumption)))))⟩
theorem leastFF_ (ZA:Int) (ZB:Int) s p l c q k d s2 p2 l2 c2 q2 k2 d2 (w:World) (hb1:∀ W:World,Kp w W→Calls Tryz.prog 94 #[.int .i64 (-1),.agg #[.bool s,.slice p l c,.slice q k d]] W fun e w'=>e = .returned (.int .u64 ZA)∧Kp W w') (hb2:∀ W:World,Kp w W→Calls Tryz.prog 94 #[.int .i64 1,.agg #[.bool s2,.slice p2 l2 c2,.slice q2 k2 d2]] W fun e w'=>e = .returned (.int .u64 ZB)∧Kp W w'):Calls Tryz.prog 62 #[.agg #[.bool false,.int .i64 0,.bool s,.slice p l c,.slice q k d,.int .i64 0,.bool s2,.slice p2 l2 c2,.slice q2 k2 d2]] w fun e w'=>e = .returned (.agg #[.int .u64 ZA,.int .u64 ZB])∧Kp w w':=by
 go_enter Tryz.func62,Tryz.ntmps62
 go_wp2_with (first | (go_at_call 61;refine (Fq.rentire_ _).mono ?_;rintro e w' ⟨rfl,rfl⟩) | (go_at_call_of 94 (Value.slice p l c);refine (hb1 _ ?q0).mono ?_;(case q0=>exact ((((Kp.refl w).alloc _).alloc _).alloc _).alloc _);rintro e wa ⟨rfl,ga⟩;have ka:Kp w wa:=Kp.trans (((((Kp.refl w).alloc _).alloc _).alloc _).alloc _) ga;obtain ⟨x0,xz0,x1,xz1,x2,xz2,x3,xz3,x4,xz4,x5,xz5,x6,xz6,x7,xz7,x8,xz8⟩:=FK9 ga (w.heap.size) (.bool false) (.int .i64 0) (.bool s) (.slice p l c) (.slice q k d) (.int .i64 0) (.bool s2) (.slice p2 l2 c2) (.slice q2 k2 d2) (by simp [go_sem]);obtain ⟨v0,vz0,v1,vz1⟩:=FK2 ga (w.heap.size + 3) (.int .u64 18442240474082181120) (.int .u64 9218868437227405312) (by simp [go_sem]);obtain ⟨r0,rz0,r1,rz1⟩:=FK2 ga (w.heap.size + 1) (.int .u64 0) (.int .u64 0) (by simp [go_sem])) | (go_at_call_of 94 (Value.slice p2 l2 c2);refine (hb2 _ ?q0).mono ?_;(case q0=>exact ka.setCell (by simp <;> omega) _);rintro e wb ⟨rfl,gb⟩;have kb:Kp w wb:=Kp.trans (ka.setCell (by simp <;> omega) _) gb;have u0:=kkeep gb (b:=w.heap.size + 3) (o:=0) (v:=.int .u64 ZA) (by simp [go_sem,v0]);have u1:=kkeep gb (b:=w.heap.size + 3) (o:=1) (v:=.int .u64 9218868437227405312) (by simp [go_sem,v1]);have uz0:wb.frozen? ⟨w.heap.size + 3,0,none⟩ = false:=(kfro gb (by have:=cell_lt v0;simpa using this)).trans (by simp [go_sem,vz0]);have uz1:wb.frozen? ⟨w.heap.size + 3,1,none⟩ = false:=(kfro gb (by have:=cell_lt v0;simpa using this)).trans (by simp [go_sem,vz1]);have y0:=kkeep gb (b:=w.heap.size + 1) (o:=0) (v:=.int .u64 0) (by simp [go_sem,r0]);have y1:=kkeep gb (b:=w.heap.size + 1) (o:=1) (v:=.int .u64 0) (by simp [go_sem,r1]);have yz0:wb.frozen? ⟨w.heap.size + 1,0,none⟩ = false:=(kfro gb (by have:=cell_lt r0;simpa using this)).trans (by simp [go_sem,rz0]);have yz1:wb.frozen? ⟨w.heap.size + 1,1,none⟩ = false:=(kfro gb (by have:=cell_lt r0;simpa using this)).trans (by simp [go_sem,rz1])))
 exact bodyPost_ret (v:=.agg #[.int .u64 ZA,.int .u64 ZB]) (by simp [results,Tryz.results62,go_sem,y0,y1]) rfl ⟨rfl,(by repeat (with_reducible (first | assumption | exact Kp.refl _ | apply Kp.drew | apply Kp.alloc | apply Kp.drewN | (refine Kp.setCell ?_ (by first | omega | (simp <;> omega)) _) | (refine Kp.trans ?_ (by assumption)))))⟩
theorem none6_ (w:World):Calls Tryz.prog 159 #[] w fun e w'=>∃ (s:Bool) (p:Option Addr) (l c:Nat) (q:Option Addr) (k d:Nat) (s2:Bool) (p2:Option Addr) (l2 c2:Nat) (q2:Option Addr) (k2 d2:Nat),e = .returned (.agg #[.bool true,.int .i64 0,.bool s,.slice p l c,.slice q k d,.int .i64 0,.bool s2,.slice p2 l2 c2,.slice q2 k2 d2])∧Kp w w':=by
 go_enter Tryz.func159,Tryz.ntmps159
 go_wp2_with (first | (go_at_call 92;refine (fin0_ _).mono ?_;rintro e wh ⟨s2,p2,l2,c2,q2,k2,d2,rfl,hp2,gh⟩;have kh:=Kp.trans kl gh;obtain ⟨R0,Rz0,R1,Rz1,R2,Rz2,R3,Rz3,R4,Rz4,R5,Rz5,R6,Rz6,R7,Rz7,R8,Rz8⟩:=AK9 gh ⟨r0,rz0,r1,rz1,r2,rz2,r3,rz3,r4,rz4,r5,rz5,r6,rz6,r7,rz7,r8,rz8⟩) | (go_at_call 92;refine (fin0_ _).mono ?_;rintro e wl ⟨s,p,l,c,q,k,d,rfl,hp,gl⟩;have kl:Kp w wl:=Kp.trans ((Kp.refl w).alloc _) gl;obtain ⟨r0,rz0,r1,rz1,r2,rz2,r3,rz3,r4,rz4,r5,rz5,r6,rz6,r7,rz7,r8,rz8⟩:=FK9 gl (w.heap.size) (.bool false) (.int .i64 0) (.bool false) (.slice none 0 0) (.slice none 0 0) (.int .i64 0) (.bool false) (.slice none 0 0) (.slice none 0 0) (by simp [go_sem])))
 exact bodyPost_ret (v:=.agg #[.bool true,.int .i64 0,.bool s,.slice p l c,.slice q k d,.int .i64 0,.bool s2,.slice p2 l2 c2,.slice q2 k2 d2]) (by simp [results,Tryz.results159,go_sem,R0,R1,R2,R3,R4,R5,R6,R7,R8]) rfl ⟨s,p,l,c,q,k,d,s2,p2,l2,c2,q2,k2,d2,rfl,KS9 (kh) (Nat.le_refl _)⟩
end Go.Proofs.YtaldmbeomdfafaaGreatDoor
