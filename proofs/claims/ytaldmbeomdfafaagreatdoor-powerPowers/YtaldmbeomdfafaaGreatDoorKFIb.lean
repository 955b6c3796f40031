import Derived.Test.YtaldmbeomdfafaaGreatDoorKFIa
set_option maxHeartbeats 4000000
set_option maxRecDepth 20000
namespace Go.Proofs.YtaldmbeomdfafaaGreatDoor
open Go.RowKit
set_option linter.unusedVariables false
theorem invI_ (i:Int) s p l c q k d (t:(i != 0) = true) (w:World):Calls Tryz.prog 158 #[.agg #[.int .i64 i,.bool s,.slice p l c,.slice q k d]] w fun e w'=>∃ s3 p3 l3 c3 q3 k3 d3,e = .returned (.agg #[.int .i64 0,.bool s3,.slice p3 l3 c3,.slice q3 k3 d3])∧XP w.heap.size w' s3 p3 l3 c3 q3 k3 d3 0 1 1500∧Kp w w':=by
 go_enter Tryz.func158,Tryz.ntmps158
 go_wp2_with (first | (go_at_call 92;refine (fin0_ _).mono ?_;rintro e wf ⟨s3,p3,l3,c3,q3,k3,d3,rfl,hp0,gf⟩;have hp:=hp0.x0;clear hp0;obtain ⟨r0,rz0,r1,rz1,r2,rz2,r3,rz3⟩:=FK4 gf (w.heap.size + 1) (.int .i64 0) (.bool false) (.slice none 0 0) (.slice none 0 0) (by simp [go_sem])))
 exact bodyPost_ret (v:=.agg #[.int .i64 0,.bool s3,.slice p3 l3 c3,.slice q3 k3 d3]) (by simp [results,Tryz.results158,go_sem,r0,r1,r2,r3]) rfl ⟨s3,p3,l3,c3,q3,k3,d3,rfl,XP.mono (((((hp).set (x:=⟨w.heap.size + 1,0,none⟩) (by simp <;> omega) (.int .i64 0)).set (x:=⟨w.heap.size + 1,1,none⟩) (by simp <;> omega) (.bool s3)).set (x:=⟨w.heap.size + 1,2,none⟩) (by simp <;> omega) (.slice p3 l3 c3)).set (x:=⟨w.heap.size + 1,3,none⟩) (by simp <;> omega) (.slice q3 k3 d3)) (by simp <;> omega),KS4 ((Kp.trans (((Kp.refl w).alloc _).alloc _) gf)) (by first | omega | (simp <;> omega))⟩
theorem invF_ (V:Int) (C N:Nat) s p l c q k d (w:World) (hs:∀ (W:World) s4 p4 l4 c4 q4 k4 d4,Kp w W→XP 0 W s4 p4 l4 c4 q4 k4 d4 1 1 1500→Calls Tryz.prog 31 #[.agg #[.bool s4,.slice p4 l4 c4,.slice q4 k4 d4],.agg #[.bool s,.slice p l c,.slice q k d]] W fun e w'=>∃ s3 p3 l3 c3 q3 k3 d3,e = .returned (.agg #[.bool s3,.slice p3 l3 c3,.slice q3 k3 d3])∧XP W.heap.size w' s3 p3 l3 c3 q3 k3 d3 V C N∧Kp W w'):Calls Tryz.prog 158 #[.agg #[.int .i64 0,.bool s,.slice p l c,.slice q k d]] w fun e w'=>∃ s3 p3 l3 c3 q3 k3 d3,e = .returned (.agg #[.int .i64 0,.bool s3,.slice p3 l3 c3,.slice q3 k3 d3])∧XP w.heap.size w' s3 p3 l3 c3 q3 k3 d3 V C N∧Kp w w':=by
 go_enter Tryz.func158,Tryz.ntmps158
 go_wp2
 generalize hW:((w.alloc (.cells #[.int .i64 0,.bool s,.slice p l c,.slice q k d] 72)).alloc (.cells #[.int .i64 0,.bool false,.slice none 0 0,.slice none 0 0] 72)) = W
 have kw:Kp w W:=by rw [← hW];exact ((Kp.refl w).alloc _).alloc _
 have xw0:W.cell? ⟨w.heap.size,0,none⟩ = some (.int .i64 0):=by rw [← hW];simp [go_sem]
 have dw0:W.drew.cell? ⟨w.heap.size,0,none⟩ = some (.int .i64 0):=xw0
 have xw1:W.cell? ⟨w.heap.size,1,none⟩ = some (.bool s):=by rw [← hW];simp [go_sem]
 have dw1:W.drew.cell? ⟨w.heap.size,1,none⟩ = some (.bool s):=xw1
 have xw2:W.cell? ⟨w.heap.size,2,none⟩ = some (.slice p l c):=by rw [← hW];simp [go_sem]
 have dw2:W.drew.cell? ⟨w.heap.size,2,none⟩ = some (.slice p l c):=xw2
 have xw3:W.cell? ⟨w.heap.size,3,none⟩ = some (.slice q k d):=by rw [← hW];simp [go_sem]
 have dw3:W.drew.cell? ⟨w.heap.size,3,none⟩ = some (.slice q k d):=xw3
 obtain ⟨r0,rz0,r1,rz1,r2,rz2,r3,rz3⟩:W.cell? ⟨w.heap.size + 1,0,none⟩ = some (.int .i64 0)∧W.frozen? ⟨w.heap.size + 1,0,none⟩ = false∧W.cell? ⟨w.heap.size + 1,1,none⟩ = some (.bool false)∧W.frozen? ⟨w.heap.size + 1,1,none⟩ = false∧W.cell? ⟨w.heap.size + 1,2,none⟩ = some (.slice none 0 0)∧W.frozen? ⟨w.heap.size + 1,2,none⟩ = false∧W.cell? ⟨w.heap.size + 1,3,none⟩ = some (.slice none 0 0)∧W.frozen? ⟨w.heap.size + 1,3,none⟩ = false:=by rw [← hW];simp [go_sem]
 have hBW:w.heap.size + 1 < W.heap.size:=cell_lt r0
 have hn1:w.heap.size + 1≠w.heap.size:=by omega
 clear hW
 go_region_held3 (fun w'=>w'.cell? ⟨w.heap.size,0,none⟩ = some (.int .i64 0)∧w'.cell? ⟨w.heap.size,1,none⟩ = some (.bool s)∧w'.cell? ⟨w.heap.size,2,none⟩ = some (.slice p l c)∧w'.cell? ⟨w.heap.size,3,none⟩ = some (.slice q k d)) (first | (with_reducible exact ⟨xw0,xw1,xw2,xw3⟩) | (with_reducible exact ⟨dw0,dw1,dw2,dw3⟩) | (with_reducible exact ⟨aw0,aw1,aw2,aw3⟩) | (with_reducible exact ⟨bw0,bw1,bw2,bw3⟩) | (exact ⟨(CF4 hn1 bw0),(CF4 hn1 bw1),(CF4 hn1 bw2),(CF4 hn1 bw3)⟩)) (first | (go_at_call 32;refine (int1X_ _).mono ?_;rintro e wl ⟨s4,p4,l4,c4,q4,k4,d4,rfl,hp4,gl⟩;have kl:Kp W wl:=Kp.trans (Kp.drew (Kp.refl _)) gl;have aw0:=kkeep kl xw0;have aw1:=kkeep kl xw1;have aw2:=kkeep kl xw2;have aw3:=kkeep kl xw3) | (go_at_call 31;refine (hs _ s4 p4 l4 c4 q4 k4 d4 (kw.trans kl) (hp4.mono (Nat.zero_le _))).mono ?_;rintro e wh ⟨s3,p3,l3,c3,q3,k3,d3,rfl,hp,gh⟩;have kh:Kp W wh:=Kp.trans kl gh;have bw0:=kkeep kh xw0;have bw1:=kkeep kh xw1;have bw2:=kkeep kh xw2;have bw3:=kkeep kh xw3;obtain ⟨R0,Rz0,R1,Rz1,R2,Rz2,R3,Rz3⟩:=AK4 kh ⟨r0,rz0,r1,rz1,r2,rz2,r3,rz3⟩))
 go_wp2
 have hle:w.heap.size≤W.heap.size:=by omega
 exact bodyPost_ret (v:=.agg #[.int .i64 0,.bool s3,.slice p3 l3 c3,.slice q3 k3 d3]) (by simp [results,Tryz.results158,go_sem,R0,R1,R2,R3]) rfl ⟨s3,p3,l3,c3,q3,k3,d3,rfl,XP.mono ((((((hp.mono (base':=W.heap.size) (Below.size kl))).set (x:=⟨w.heap.size + 1,0,none⟩) hBW (.int .i64 0)).set (x:=⟨w.heap.size + 1,1,none⟩) hBW (.bool s3)).set (x:=⟨w.heap.size + 1,2,none⟩) hBW (.slice p3 l3 c3)).set (x:=⟨w.heap.size + 1,3,none⟩) hBW (.slice q3 k3 d3)) hle,KS4 ((Kp.trans kw kh)) (by first | omega | (simp <;> omega))⟩
set_option linter.unusedVariables false
theorem upN_ (i j S:Int) s p l c q k d s2 p2 l2 c2 q2 k2 d2 (t:S≤0) (w:World) (hs:∀ W:World,Kp w W→Calls Tryz.prog 130 #[.agg #[.int .i64 j,.bool s2,.slice p2 l2 c2,.slice q2 k2 d2]] W fun e w'=>e = .returned (.int .i64 S)∧Kp W w'):Calls Tryz.prog 133 #[.agg #[.bool false,.int .i64 i,.bool s,.slice p l c,.slice q k d,.int .i64 j,.bool s2,.slice p2 l2 c2,.slice q2 k2 d2]] w fun e w'=>∃ v',e = .returned v'∧SV0 true v'∧Kp w w':=by
 go_enter Tryz.func133,Tryz.ntmps133
 go_wp2_with (first | (go_at_call 130;refine (hs _ ?q0).mono ?_;(case q0=>exact ((Kp.refl w).alloc _).alloc _);rintro e wv ⟨rfl,gv⟩;have kv:Kp w wv:=Kp.trans (((Kp.refl w).alloc _).alloc _) gv;have a0:=kkeep gv (b:=w.heap.size) (o:=0) (v:=.bool false) (by simp [go_sem]);have a1:=kkeep gv (b:=w.heap.size) (o:=1) (v:=.int .i64 i) (by simp [go_sem]);have a2:=kkeep gv (b:=w.heap.size) (o:=2) (v:=.bool s) (by simp [go_sem]);have a3:=kkeep gv (b:=w.heap.size) (o:=3) (v:=.slice p l c) (by simp [go_sem]);have a4:=kkeep gv (b:=w.heap.size) (o:=4) (v:=.slice q k d) (by simp [go_sem]);have a5:=kkeep gv (b:=w.heap.size) (o:=5) (v:=.int .i64 j) (by simp [go_sem]);have a6:=kkeep gv (b:=w.heap.size) (o:=6) (v:=.bool s2) (by simp [go_sem]);have a7:=kkeep gv (b:=w.heap.size) (o:=7) (v:=.slice p2 l2 c2) (by simp [go_sem]);have a8:=kkeep gv (b:=w.heap.size) (o:=8) (v:=.slice q2 k2 d2) (by simp [go_sem]);obtain ⟨r0,rz0,r1,rz1,r2,rz2,r3,rz3,r4,rz4,r5,rz5,r6,rz6,r7,rz7,r8,rz8⟩:=FK9 gv (w.heap.size + 1) (.bool false) (.int .i64 0) (.bool false) (.slice none 0 0) (.slice none 0 0) (.int .i64 0) (.bool false) (.slice none 0 0) (.slice none 0 0) (by simp [go_sem])) | (go_at_call 159;refine (none6_ _).mono ?_;rintro e w1 ⟨s5,p5,l5,c5,q5,k5,d5,s6,p6,l6,c6,q6,k6,d6,rfl,g1⟩;obtain ⟨R0,Rz0,R1,Rz1,R2,Rz2,R3,Rz3,R4,Rz4,R5,Rz5,R6,Rz6,R7,Rz7,R8,Rz8⟩:=AK9 g1 ⟨r0,rz0,r1,rz1,r2,rz2,r3,rz3,r4,rz4,r5,rz5,r6,rz6,r7,rz7,r8,rz8⟩))
 exact bodyPost_ret (v:=.agg #[.bool true,.int .i64 0,.bool s5,.slice p5 l5 c5,.slice q5 k5 d5,.int .i64 0,.bool s6,.slice p6 l6 c6,.slice q6 k6 d6]) (by simp [results,Tryz.results133,go_sem,R0,R1,R2,R3,R4,R5,R6,R7,R8]) rfl ⟨_,rfl,⟨0,0,s5,p5,l5,c5,q5,k5,d5,s6,p6,l6,c6,q6,k6,d6,rfl⟩,KS9 ((Kp.trans kv g1)) (by first | omega | (simp <;> omega))⟩
theorem upA_ (i j S:Int) s p l c q k d s2 p2 l2 c2 q2 k2 d2 (t:¬ (S≤0)) (w:World) (hs:∀ W:World,Kp w W→Calls Tryz.prog 130 #[.agg #[.int .i64 j,.bool s2,.slice p2 l2 c2,.slice q2 k2 d2]] W fun e w'=>e = .returned (.int .i64 S)∧Kp W w') (hg:∀ (W:World) s3 p3 l3 c3 q3 k3 d3,Kp w W→(∃ B3,RP B3 W s3 p3 l3 c3 q3 k3 d3 false 0)→Calls Tryz.prog 157 #[.agg #[.int .i64 i,.bool s,.slice p l c,.slice q k d],.agg #[.int .i64 0,.bool s3,.slice p3 l3 c3,.slice q3 k3 d3]] W fun e w'=>e = .returned (.agg #[.int .i64 i,.bool s,.slice p l c,.slice q k d])∧Kp W w'):Calls Tryz.prog 133 #[.agg #[.bool false,.int .i64 i,.bool s,.slice p l c,.slice q k d,.int .i64 j,.bool s2,.slice p2 l2 c2,.slice q2 k2 d2]] w fun e w'=>e = .returned (.agg #[.bool false,.int .i64 i,.bool s,.slice p l c,.slice q k d,.int .i64 j,.bool s2,.slice p2 l2 c2,.slice q2 k2 d2])∧Kp w w':=by
 go_enter Tryz.func133,Tryz.ntmps133
 go_upto_region 3 with (first | (go_at_call 130;refine (hs _ ?q0).mono ?_;(case q0=>exact ((Kp.refl w).alloc _).alloc _);rintro e wv ⟨rfl,gv⟩;have kv:Kp w wv:=Kp.trans (((Kp.refl w).alloc _).alloc _) gv;have a0:=kkeep gv (b:=w.heap.size) (o:=0) (v:=.bool false) (by simp [go_sem]);have a1:=kkeep gv (b:=w.heap.size) (o:=1) (v:=.int .i64 i) (by simp [go_sem]);have a2:=kkeep gv (b:=w.heap.size) (o:=2) (v:=.bool s) (by simp [go_sem]);have a3:=kkeep gv (b:=w.heap.size) (o:=3) (v:=.slice p l c) (by simp [go_sem]);have a4:=kkeep gv (b:=w.heap.size) (o:=4) (v:=.slice q k d) (by simp [go_sem]);have a5:=kkeep gv (b:=w.heap.size) (o:=5) (v:=.int .i64 j) (by simp [go_sem]);have a6:=kkeep gv (b:=w.heap.size) (o:=6) (v:=.bool s2) (by simp [go_sem]);have a7:=kkeep gv (b:=w.heap.size) (o:=7) (v:=.slice p2 l2 c2) (by simp [go_sem]);have a8:=kkeep gv (b:=w.heap.size) (o:=8) (v:=.slice q2 k2 d2) (by simp [go_sem]);obtain ⟨r0,rz0,r1,rz1,r2,rz2,r3,rz3,r4,rz4,r5,rz5,r6,rz6,r7,rz7,r8,rz8⟩:=FK9 gv (w.heap.size + 1) (.bool false) (.int .i64 0) (.bool false) (.slice none 0 0) (.slice none 0 0) (.int .i64 0) (.bool false) (.slice none 0 0) (.slice none 0 0) (by simp [go_sem])))
 have kw:Kp w wv:=kv
 clear kv gv
 generalize wv = W at *
 have xw1:W.cell? ⟨w.heap.size,1,none⟩ = some (.int .i64 i):=a1
 have dw1:W.drew.cell? ⟨w.heap.size,1,none⟩ = some (.int .i64 i):=a1
 have xw2:W.cell? ⟨w.heap.size,2,none⟩ = some (.bool s):=a2
 have dw2:W.drew.cell? ⟨w.heap.size,2,none⟩ = some (.bool s):=a2
 have xw3:W.cell? ⟨w.heap.size,3,none⟩ = some (.slice p l c):=a3
 have dw3:W.drew.cell? ⟨w.heap.size,3,none⟩ = some (.slice p l c):=a3
 have xw4:W.cell? ⟨w.heap.size,4,none⟩ = some (.slice q k d):=a4
 have dw4:W.drew.cell? ⟨w.heap.size,4,none⟩ = some (.slice q k d):=a4
 have xw5:W.cell? ⟨w.heap.size,5,none⟩ = some (.int .i64 j):=a5
 have dw5:W.drew.cell? ⟨w.heap.size,5,none⟩ = some (.int .i64 j):=a5
 have xw6:W.cell? ⟨w.heap.size,6,none⟩ = some (.bool s2):=a6
 have dw6:W.drew.cell? ⟨w.heap.size,6,none⟩ = some (.bool s2):=a6
 have xw7:W.cell? ⟨w.heap.size,7,none⟩ = some (.slice p2 l2 c2):=a7
 have dw7:W.drew.cell? ⟨w.heap.size,7,none⟩ = some (.slice p2 l2 c2):=a7
 have xw8:W.cell? ⟨w.heap.size,8,none⟩ = some (.slice q2 k2 d2):=a8
 have dw8:W.drew.cell? ⟨w.heap.size,8,none⟩ = some (.slice q2 k2 d2):=a8
 clear a0 a1 a2 a3 a4 a5 a6 a7 a8
 have hBW:w.heap.size + 1 < W.heap.size:=cell_lt r0
 have hn1:w.heap.size + 1≠w.heap.size:=by omega
 go_region_held3 (fun w'=>w'.cell? ⟨w.heap.size,1,none⟩ = some (.int .i64 i)∧w'.cell? ⟨w.heap.size,2,none⟩ = some (.bool s)∧w'.cell? ⟨w.heap.size,3,none⟩ = some (.slice p l c)∧w'.cell? ⟨w.heap.size,4,none⟩ = some (.slice q k d)∧w'.cell? ⟨w.heap.size,5,none⟩ = some (.int .i64 j)∧w'.cell? ⟨w.heap.size,6,none⟩ = some (.bool s2)∧w'.cell? ⟨w.heap.size,7,none⟩ = some (.slice p2 l2 c2)∧w'.cell? ⟨w.heap.size,8,none⟩ = some (.slice q2 k2 d2)) (first | (with_reducible exact ⟨xw1,xw2,xw3,xw4,xw5,xw6,xw7,xw8⟩) | (with_reducible exact ⟨dw1,dw2,dw3,dw4,dw5,dw6,dw7,dw8⟩) | (with_reducible exact ⟨bw1,bw2,bw3,bw4,bw5,bw6,bw7,bw8⟩) | (with_reducible exact ⟨cw1,cw2,cw3,cw4,cw5,cw6,cw7,cw8⟩) | (exact ⟨(CF9 hn1 cw1),(CF9 hn1 cw2),(CF9 hn1 cw3),(CF9 hn1 cw4),(CF9 hn1 cw5),(CF9 hn1 cw6),(CF9 hn1 cw7),(CF9 hn1 cw8)⟩)) (first | (go_at_call 92;refine (fin0_ _).mono ?_;rintro e wl ⟨s3,p3,l3,c3,q3,k3,d3,rfl,hp3,gl⟩;have kl:Kp W wl:=Kp.trans (Kp.drew (Kp.refl _)) gl;have bw1:=kkeep kl xw1;have bw2:=kkeep kl xw2;have bw3:=kkeep kl xw3;have bw4:=kkeep kl xw4;have bw5:=kkeep kl xw5;have bw6:=kkeep kl xw6;have bw7:=kkeep kl xw7;have bw8:=kkeep kl xw8) | (go_at_call 157;refine (hg _ s3 p3 l3 c3 q3 k3 d3 (kw.trans kl) ⟨_,hp3⟩).mono ?_;rintro e wh ⟨rfl,gh⟩;have kh:Kp W wh:=Kp.trans kl gh;have cw1:=kkeep kh xw1;have cw2:=kkeep kh xw2;have cw3:=kkeep kh xw3;have cw4:=kkeep kh xw4;have cw5:=kkeep kh xw5;have cw6:=kkeep kh xw6;have cw7:=kkeep kh xw7;have cw8:=kkeep kh xw8;obtain ⟨R0,Rz0,R1,Rz1,R2,Rz2,R3,Rz3,R4,Rz4,R5,Rz5,R6,Rz6,R7,Rz7,R8,Rz8⟩:=AK9 kh ⟨r0,rz0,r1,rz1,r2,rz2,r3,rz3,r4,rz4,r5,rz5,r6,rz6,r7,rz7,r8,rz8⟩))
 go_wp2
 have hle:w.heap.size≤W.heap.size:=by omega
 exact bodyPost_ret (v:=.agg #[.bool false,.int .i64 i,.bool s,.slice p l c,.slice q k d,.int .i64 j,.bool s2,.slice p2 l2 c2,.slice q2 k2 d2]) (by simp [results,Tryz.results133,go_sem,R0,R1,R2,R3,R4,R5,R6,R7,R8]) rfl ⟨rfl,KS9 ((Kp.trans kw kh)) (by first | omega | (simp <;> omega))⟩
theorem upB_ (i j S:Int) s p l c q k d s2 p2 l2 c2 q2 k2 d2 (t:¬ (S≤0)) (w:World) (hs:∀ W:World,Kp w W→Calls Tryz.prog 130 #[.agg #[.int .i64 j,.bool s2,.slice p2 l2 c2,.slice q2 k2 d2]] W fun e w'=>e = .returned (.int .i64 S)∧Kp W w') (hg:∀ (W:World) s3 p3 l3 c3 q3 k3 d3,Kp w W→(∃ B3,RP B3 W s3 p3 l3 c3 q3 k3 d3 false 0)→Calls Tryz.prog 157 #[.agg #[.int .i64 i,.bool s,.slice p l c,.slice q k d],.agg #[.int .i64 0,.bool s3,.slice p3 l3 c3,.slice q3 k3 d3]] W fun e w'=>e = .returned (.agg #[.int .i64 0,.bool s3,.slice p3 l3 c3,.slice q3 k3 d3])∧Kp W w'):Calls Tryz.prog 133 #[.agg #[.bool false,.int .i64 i,.bool s,.slice p l c,.slice q k d,.int .i64 j,.bool s2,.slice p2 l2 c2,.slice q2 k2 d2]] w fun e w'=>∃ s3 p3 l3 c3 q3 k3 d3,e = .returned (.agg #[.bool false,.int .i64 0,.bool s3,.slice p3 l3 c3,.slice q3 k3 d3,.int .i64 j,.bool s2,.slice p2 l2 c2,.slice q2 k2 d2])∧RP w.heap.size w' s3 p3 l3 c3 q3 k3 d3 false 0∧Kp w w':=by
 go_enter Tryz.func133,Tryz.ntmps133
 go_upto_region 3 with (first | (go_at_call 130;refine (hs _ ?q0).mono ?_;(case q0=>exact ((Kp.refl w).alloc _).alloc _);rintro e wv ⟨rfl,gv⟩;have kv:Kp w wv:=Kp.trans (((Kp.refl w).alloc _).alloc _) gv;have a0:=kkeep gv (b:=w.heap.size) (o:=0) (v:=.bool false) (by simp [go_sem]);have a1:=kkeep gv (b:=w.heap.size) (o:=1) (v:=.int .i64 i) (by simp [go_sem]);have a2:=kkeep gv (b:=w.heap.size) (o:=2) (v:=.bool s) (by simp [go_sem]);have a3:=kkeep gv (b:=w.heap.size) (o:=3) (v:=.slice p l c) (by simp [go_sem]);have a4:=kkeep gv (b:=w.heap.size) (o:=4) (v:=.slice q k d) (by simp [go_sem]);have a5:=kkeep gv (b:=w.heap.size) (o:=5) (v:=.int .i64 j) (by simp [go_sem]);have a6:=kkeep gv (b:=w.heap.size) (o:=6) (v:=.bool s2) (by simp [go_sem]);have a7:=kkeep gv (b:=w.heap.size) (o:=7) (v:=.slice p2 l2 c2) (by simp [go_sem]);have a8:=kkeep gv (b:=w.heap.size) (o:=8) (v:=.slice q2 k2 d2) (by simp [go_sem]);obtain ⟨r0,rz0,r1,rz1,r2,rz2,r3,rz3,r4,rz4,r5,rz5,r6,rz6,r7,rz7,r8,rz8⟩:=FK9 gv (w.heap.size + 1) (.bool false) (.int .i64 0) (.bool false) (.slice none 0 0) (.slice none 0 0) (.int .i64 0) (.bool false) (.slice none 0 0) (.slice none 0 0) (by simp [go_sem])))
 have kw:Kp w wv:=kv
 clear kv gv
 generalize wv = W at *
 have xw1:W.cell? ⟨w.heap.size,1,none⟩ = some (.int .i64 i):=a1
 have dw1:W.drew.cell? ⟨w.heap.size,1,none⟩ = some (.int .i64 i):=a1
 have xw2:W.cell? ⟨w.heap.size,2,none⟩ = some (.bool s):=a2
 have dw2:W.drew.cell? ⟨w.heap.size,2,none⟩ = some (.bool s):=a2
 have xw3:W.cell? ⟨w.heap.size,3,none⟩ = some (.slice p l c):=a3
 have dw3:W.drew.cell? ⟨w.heap.size,3,none⟩ = some (.slice p l c):=a3
 have xw4:W.cell? ⟨w.heap.size,4,none⟩ = some (.slice q k d):=a4
 have dw4:W.drew.cell? ⟨w.heap.size,4,none⟩ = some (.slice q k d):=a4
 have xw5:W.cell? ⟨w.heap.size,5,none⟩ = some (.int .i64 j):=a5
 have dw5:W.drew.cell? ⟨w.heap.size,5,none⟩ = some (.int .i64 j):=a5
 have xw6:W.cell? ⟨w.heap.size,6,none⟩ = some (.bool s2):=a6
 have dw6:W.drew.cell? ⟨w.heap.size,6,none⟩ = some (.bool s2):=a6
 have xw7:W.cell? ⟨w.heap.size,7,none⟩ = some (.slice p2 l2 c2):=a7
 have dw7:W.drew.cell? ⟨w.heap.size,7,none⟩ = some (.slice p2 l2 c2):=a7
 have xw8:W.cell? ⟨w.heap.size,8,none⟩ = some (.slice q2 k2 d2):=a8
 have dw8:W.drew.cell? ⟨w.heap.size,8,none⟩ = some (.slice q2 k2 d2):=a8
 clear a0 a1 a2 a3 a4 a5 a6 a7 a8
 have hBW:w.heap.size + 1 < W.heap.size:=cell_lt r0
 have hn1:w.heap.size + 1≠w.heap.size:=by omega
 go_region_held3 (fun w'=>w'.cell? ⟨w.heap.size,1,none⟩ = some (.int .i64 i)∧w'.cell? ⟨w.heap.size,2,none⟩ = some (.bool s)∧w'.cell? ⟨w.heap.size,3,none⟩ = some (.slice p l c)∧w'.cell? ⟨w.heap.size,4,none⟩ = some (.slice q k d)∧w'.cell? ⟨w.heap.size,5,none⟩ = some (.int .i64 j)∧w'.cell? ⟨w.heap.size,6,none⟩ = some (.bool s2)∧w'.cell? ⟨w.heap.size,7,none⟩ = some (.slice p2 l2 c2)∧w'.cell? ⟨w.heap.size,8,none⟩ = some (.slice q2 k2 d2)) (first | (with_reducible exact ⟨xw1,xw2,xw3,xw4,xw5,xw6,xw7,xw8⟩) | (with_reducible exact ⟨dw1,dw2,dw3,dw4,dw5,dw6,dw7,dw8⟩) | (with_reducible exact ⟨bw1,bw2,bw3,bw4,bw5,bw6,bw7,bw8⟩) | (with_reducible exact ⟨cw1,cw2,cw3,cw4,cw5,cw6,cw7,cw8⟩) | (exact ⟨(CF9 hn1 cw1),(CF9 hn1 cw2),(CF9 hn1 cw3),(CF9 hn1 cw4),(CF9 hn1 cw5),(CF9 hn1 cw6),(CF9 hn1 cw7),(CF9 hn1 cw8)⟩)) (first | (go_at_call 92;refine (fin0_ _).mono ?_;rintro e wl ⟨s3,p3,l3,c3,q3,k3,d3,rfl,hp3,gl⟩;have kl:Kp W wl:=Kp.trans (Kp.drew (Kp.refl _)) gl;have bw1:=kkeep kl xw1;have bw2:=kkeep kl xw2;have bw3:=kkeep kl xw3;have bw4:=kkeep kl xw4;have bw5:=kkeep kl xw5;have bw6:=kkeep kl xw6;have bw7:=kkeep kl xw7;have bw8:=kkeep kl xw8) | (go_at_call 157;refine (hg _ s3 p3 l3 c3 q3 k3 d3 (kw.trans kl) ⟨_,hp3⟩).mono ?_;rintro e wh ⟨rfl,gh⟩;have kh:Kp W wh:=Kp.trans kl gh;have cw1:=kkeep kh xw1;have cw2:=kkeep kh xw2;have cw3:=kkeep kh xw3;have cw4:=kkeep kh xw4;have cw5:=kkeep kh xw5;have cw6:=kkeep kh xw6;have cw7:=kkeep kh xw7;have cw8:=kkeep kh xw8;obtain ⟨R0,Rz0,R1,Rz1,R2,Rz2,R3,Rz3,R4,Rz4,R5,Rz5,R6,Rz6,R7,Rz7,R8,Rz8⟩:=AK9 kh ⟨r0,rz0,r1,rz1,r2,rz2,r3,rz3,r4,rz4,r5,rz5,r6,rz6,r7,rz7,r8,rz8⟩))
 go_wp2
 have hle:w.heap.size≤W.heap.size:=by omega
 exact bodyPost_ret (v:=.agg #[.bool false,.int .i64 0,.bool s3,.slice p3 l3 c3,.slice q3 k3 d3,.int .i64 j,.bool s2,.slice p2 l2 c2,.slice q2 k2 d2]) (by simp [results,Tryz.results133,go_sem,R0,R1,R2,R3,R4,R5,R6,R7,R8]) rfl ⟨s3,p3,l3,c3,q3,k3,d3,rfl,RP.mono ((((((((((((hp3.kp gh).mono (base':=W.heap.size) (Nat.le_refl _))).set (x:=⟨w.heap.size + 1,0,none⟩) hBW (.bool false)).set (x:=⟨w.heap.size + 1,1,none⟩) hBW (.int .i64 0)).set (x:=⟨w.heap.size + 1,2,none⟩) hBW (.bool s3)).set (x:=⟨w.heap.size + 1,3,none⟩) hBW (.slice p3 l3 c3)).set (x:=⟨w.heap.size + 1,4,none⟩) hBW (.slice q3 k3 d3)).set (x:=⟨w.heap.size + 1,5,none⟩) hBW (.int .i64 j)).set (x:=⟨w.heap.size + 1,6,none⟩) hBW (.bool s2)).set (x:=⟨w.heap.size + 1,7,none⟩) hBW (.slice p2 l2 c2)).set (x:=⟨w.heap.size + 1,8,none⟩) hBW (.slice q2 k2 d2)) hle,KS9 ((Kp.trans kw kh)) (by first | omega | (simp <;> omega))⟩
end Go.Proofs.YtaldmbeomdfafaaGreatDoor
