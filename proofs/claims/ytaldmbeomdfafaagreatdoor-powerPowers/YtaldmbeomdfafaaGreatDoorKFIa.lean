import Derived.Test.YtaldmbeomdfafaaGreatDoorKID
set_option maxHeartbeats 2000000
set_option maxRecDepth 20000
namespace Go.Proofs.YtaldmbeomdfafaaGreatDoor
open Go.RowKit
set_option linter.unusedVariables false

theorem iv_ff:Iv false 0 = 0:=by unfold Iv;rw [Fq.vV_zero];rfl
theorem RP.x0 {base:Nat} {w:World} {s:Bool} {p:Option Addr} {l c:Nat} {q:Option Addr} {k d:Nat} (h:RP base w s p l c q k d false 0):XP base w s p l c q k d 0 1 1500 :=
 (h.xp 1074 rfl).as 0 1 1500 (by decide) (by rw [iv_ff,Int.zero_mul,Int.zero_mul]) (Nat.le_refl _)
theorem int1X_ (w:World):Calls Tryz.prog 32 #[.int .i64 1] w fun e w'=>∃ s p l c q k d,e = .returned (.agg #[.bool s,.slice p l c,.slice q k d])∧XP w.heap.size w' s p l c q k d 1 1 1500∧Kp w w':=by
 obtain ⟨B,hB⟩:∃ B,B = w.heap.size:=⟨_,rfl⟩
 obtain ⟨w0,hw0⟩:∃ w0,w0 = w.alloc (.cells #[.bool false,.slice none 0 0,.slice none 0 0] 43):=⟨_,rfl⟩
 have kw:Kp w w0:=by rw [hw0];exact (Kp.refl w).alloc _
 obtain ⟨r0,r1,r2,f0,f1,f2⟩:w0.cell? ⟨B,0,none⟩ = some (.bool false)∧w0.cell? ⟨B,1,none⟩ = some (.slice none 0 0)∧w0.cell? ⟨B,2,none⟩ = some (.slice none 0 0)∧w0.frozen? ⟨B,0,none⟩ = false∧w0.frozen? ⟨B,1,none⟩ = false∧w0.frozen? ⟨B,2,none⟩ = false:=by rw [hw0,hB];simp [go_sem]
 have hlt:=cell_lt r0
 have hs:=rsmall_ 1 (by decide) w0
 have HW:Hid (w0 = w.alloc (.cells #[.bool false,.slice none 0 0,.slice none 0 0] 43)∧B = w.heap.size∧Kp w w0):=⟨hw0,hB,kw⟩
 clear hw0 hB kw
 go_enter Tryz.func32,Tryz.ntmps32
 go_wp2_with fail
 rw [← HW.out.2.1]
 try rw [← HW.out.1]
 refine hs.mono ?_;rintro e w1 ⟨v,rfl,ho,k1⟩
 obtain ⟨pv,cv,rfl,hav,hcv⟩:=ho.arr
 obtain ⟨L,hL⟩:∃ L,L = (dig 1).length:=⟨_,rfl⟩
 rw [← hL]
 obtain ⟨g4,hg4⟩:∃ g4,g4 = w1.heap.size:=⟨_,rfl⟩
 obtain ⟨w4,hw4⟩:∃ w4,w4 = w1.alloc (.cells #[.int .u32 1] 81):=⟨_,rfl⟩
 have k4:Kp w1 w4:=by rw [hw4];exact (Kp.refl _).alloc _
 have ar4:Arr w4 (some ⟨g4,0,none⟩) (dig 1):=by
  have h:=(row1 w1 1).all rfl
  rw [← hw4,← hg4] at h
  rw [dig_one6]
  exact h
 have h:=frac_ false (.slice pv (dig 1).length cv) (.slice (some ⟨g4,0,none⟩) (dig 1).length 1) (dig 1) (dig 1) 0 w4 ⟨pv,cv,rfl,hav.grown k4,hcv⟩ ⟨some ⟨g4,0,none⟩,1,rfl,ar4,by rw [dig_one6];decide⟩ (Wd_dig _) (Wd_dig _) (by rw [dig_one6];decide) (by rw [dig_one6];decide) (by rw [val_dig];decide) (by decide)
 simp only [val_dig] at h
 rw [show (dig 1).length = 1 from by rw [dig_one6];rfl] at h
 have hL1:L = 1:=by rw [hL,dig_one6];rfl
 subst hL1
 have k04:=k1.trans k4
 have HG:Hid (g4 = w1.heap.size∧w4 = w1.alloc (.cells #[.int .u32 1] 81)):=⟨hg4,hw4⟩
 replace r0:=kkeep k04 r0
 replace r1:=kkeep k04 r1
 replace r2:=kkeep k04 r2
 replace f0:=(kfro k04 hlt).trans f0
 replace f1:=(kfro k04 hlt).trans f1
 replace f2:=(kfro k04 hlt).trans f2
 have HK:Hid (Kp w0 w4∧B < w0.heap.size):=⟨k04,hlt⟩
 have hlt4:=cell_lt r0
 clear hs ho hav hcv hL hg4 hw4 k4 ar4 k1 k04 hlt
 go_wp2_with fail
 rw [← HG.out.1,← HG.out.2]
 refine h.mono ?_;rintro e w5 ⟨vn,vd,a',b',ng,rfl,o1,o2,ff,k5⟩
 obtain ⟨pn,cn,rfl,an,ln⟩:=o1.arr
 obtain ⟨pd,cd,rfl,ad,ld⟩:=o2.arr
 replace r0:=kkeep k5 r0
 replace r1:=kkeep k5 r1
 replace r2:=kkeep k5 r2
 replace f0:=(kfro k5 hlt4).trans f0
 replace f1:=(kfro k5 hlt4).trans f1
 replace f2:=(kfro k5 hlt4).trans f2
 have hp:XP w4.heap.size w5 ng pn (dig a').length cn pd (dig b').length cd 1 1 1500:=by
  have e:=frac_x 1 1 a' b' ng false (by decide) ff.1 (fun h=>ff.2 h)
  have b1:=ff.1.2.2.2.1
  have b2:=ff.1.2.2.2.2
  have h2:blen 1 = 1:=blen_uniq 1 0 (by decide) (by decide)
  refine ⟨a',b',o1,o2,ff.1.1,by decide, ?_,by simp at b1;omega,by simp at b2;omega⟩
  simpa [rvI] using e
 have hq:=(((hp.set (x:=⟨B,0,none⟩) hlt4 (.bool ng)).set (x:=⟨B,1,none⟩) hlt4 (.slice pn (dig a').length cn)).set (x:=⟨B,2,none⟩) hlt4 (.slice pd (dig b').length cd)).mono (base':=w.heap.size) (by have h1:=Below.size HW.out.2.2;have h2:=Below.size HK.out.1;omega)
 have hkw:Kp w (((w5.setCell ⟨B,0,none⟩ (.bool ng)).setCell ⟨B,1,none⟩ (.slice pn (dig a').length cn)).setCell ⟨B,2,none⟩ (.slice pd (dig b').length cd)):=by
  have hB:=HW.out.2.1
  exact ((((HW.out.2.2.trans HK.out.1).trans k5).setCell (by rw [hB];exact Nat.le_refl _) _).setCell (by rw [hB];exact Nat.le_refl _) _).setCell (by rw [hB];exact Nat.le_refl _) _
 generalize (dig a').length = La at hq hkw ⊢
 generalize (dig b').length = Lb at hq hkw ⊢
 have HO:Hid (_∧_):=⟨hq,hkw⟩
 clear h hp hq hkw o1 o2 ff k5 an ln ad ld hlt4 HG
 go_wp2
 exact bodyPost_ret (v:=.agg #[.bool ng,.slice pn La cn,.slice pd Lb cd]) (by simp [results,Tryz.results32,go_sem,r0,r1,r2]) rfl ⟨ng,pn,La,cn,pd,Lb,cd,rfl,HO.out.1,HO.out.2⟩
theorem turnXZ_ (N:Int) (M M9:Nat) s p l c q k d (w:World) (hs:∀ W:World,Kp w W→Calls Tryz.prog 34 #[.agg #[.bool s,.slice p l c,.slice q k d]] W fun e w'=>∃ s2 p2 l2 c2 q2 k2 d2,e = .returned (.agg #[.bool s2,.slice p2 l2 c2,.slice q2 k2 d2])∧XP W.heap.size w' s2 p2 l2 c2 q2 k2 d2 N M M9∧Kp W w'):Calls Tryz.prog 160 #[.agg #[.int .i64 0,.bool s,.slice p l c,.slice q k d]] w fun e w'=>∃ s2 p2 l2 c2 q2 k2 d2,e = .returned (.agg #[.int .i64 0,.bool s2,.slice p2 l2 c2,.slice q2 k2 d2])∧XP w.heap.size w' s2 p2 l2 c2 q2 k2 d2 N M M9∧Kp w w':=by
 go_enter Tryz.func160,Tryz.ntmps160
 go_wp2
 generalize hW:((w.alloc (.cells #[.int .i64 0,.bool s,.slice p l c,.slice q k d] 72)).alloc (.cells #[.int .i64 0,.bool false,.slice none 0 0,.slice none 0 0] 72)) = W
 have kw:Kp w W:=by rw [← hW];exact ((Kp.refl w).alloc _).alloc _
 have xw0:W.cell? ⟨w.heap.size,0,none⟩ = some (.int .i64 0):=by rw [← hW];simp [go_sem]
 have dw0:W.drew.cell? ⟨w.heap.size,0,none⟩ = some (.int .i64 0):=xw0
 have xw1:W.cell? ⟨w.heap.size,1,none⟩ = some (.bool s):=by rw [← hW];simp [go_sem]
 have dw1:W.drew.cell? ⟨w.heap.size,1,none⟩ = some (.bool s):=xw1
 have xw2:W.cell? ⟨w.heap.size,2,none⟩ = some (.slice p l c):=by rw [← hW];simp [go_sem]
 have dw2:W.drew.cell? ⟨w.heap.size,2,none⟩ = some (.slice p l c):=xw2
 have xw3:W.cell? ⟨w.heap.size,3,none⟩ = some (.slice q k d):=by rw [← hW];simp [go_sem]
 have dw3:W.drew.cell? ⟨w.heap.size,3,none⟩ = some (.slice q k d):=xw3
 obtain ⟨r0,rz0,r1,rz1,r2,rz2,r3,rz3⟩:W.cell? ⟨w.heap.size + 1,0,none⟩ = some (.int .i64 0)∧W.frozen? ⟨w.heap.size + 1,0,none⟩ = false∧W.cell? ⟨w.heap.size + 1,1,none⟩ = some (.bool false)∧W.frozen? ⟨w.heap.size + 1,1,none⟩ = false∧W.cell? ⟨w.heap.size + 1,2,none⟩ = some (.slice none 0 0)∧W.frozen? ⟨w.heap.size + 1,2,none⟩ = false∧W.cell? ⟨w.heap.size + 1,3,none⟩ = some (.slice none 0 0)∧W.frozen? ⟨w.heap.size + 1,3,none⟩ = false:=by rw [← hW];simp [go_sem]
 have hBW:w.heap.size + 1 < W.heap.size:=cell_lt r0
 have hn1:w.heap.size + 1≠w.heap.size:=by omega
 clear hW
 go_region_held3 (fun w'=>w'.cell? ⟨w.heap.size,0,none⟩ = some (.int .i64 0)∧w'.cell? ⟨w.heap.size,1,none⟩ = some (.bool s)∧w'.cell? ⟨w.heap.size,2,none⟩ = some (.slice p l c)∧w'.cell? ⟨w.heap.size,3,none⟩ = some (.slice q k d)) (first | (with_reducible exact ⟨xw0,xw1,xw2,xw3⟩) | (with_reducible exact ⟨dw0,dw1,dw2,dw3⟩) | (with_reducible exact ⟨aw0,aw1,aw2,aw3⟩) | (exact ⟨(CF4 hn1 aw0),(CF4 hn1 aw1),(CF4 hn1 aw2),(CF4 hn1 aw3)⟩)) (first | (go_at_call 34;refine (hs _ ?q0).mono ?_;(case q0=>exact kw.drew);rintro e wl ⟨s2,p2,l2,c2,q2,k2,d2,rfl,hp,gl⟩;have kl:Kp W wl:=Kp.trans (Kp.drew (Kp.refl _)) gl;have aw0:=kkeep kl xw0;have aw1:=kkeep kl xw1;have aw2:=kkeep kl xw2;have aw3:=kkeep kl xw3;obtain ⟨R0,Rz0,R1,Rz1,R2,Rz2,R3,Rz3⟩:=AK4 kl ⟨r0,rz0,r1,rz1,r2,rz2,r3,rz3⟩))
 go_wp2
 have hle:w.heap.size≤W.heap.size:=by omega
 exact bodyPost_ret (v:=.agg #[.int .i64 0,.bool s2,.slice p2 l2 c2,.slice q2 k2 d2]) (by simp [results,Tryz.results160,go_sem,R0,R1,R2,R3] <;> decide +kernel) rfl ⟨s2,p2,l2,c2,q2,k2,d2,rfl,XP.mono ((((((hp.mono (base':=W.heap.size) (Nat.le_refl _))).set (x:=⟨w.heap.size + 1,0,none⟩) hBW (.int .i64 0)).set (x:=⟨w.heap.size + 1,1,none⟩) hBW (.bool s2)).set (x:=⟨w.heap.size + 1,2,none⟩) hBW (.slice p2 l2 c2)).set (x:=⟨w.heap.size + 1,3,none⟩) hBW (.slice q2 k2 d2)) hle,KS4 ((Kp.trans kw kl)) (by first | omega | (simp <;> omega))⟩
theorem turnXP_ (N:Int) (M M9:Nat) s p l c q k d (w:World) (hs:∀ W:World,Kp w W→Calls Tryz.prog 34 #[.agg #[.bool s,.slice p l c,.slice q k d]] W fun e w'=>∃ s2 p2 l2 c2 q2 k2 d2,e = .returned (.agg #[.bool s2,.slice p2 l2 c2,.slice q2 k2 d2])∧XP W.heap.size w' s2 p2 l2 c2 q2 k2 d2 N M M9∧Kp W w'):Calls Tryz.prog 160 #[.agg #[.int .i64 1,.bool s,.slice p l c,.slice q k d]] w fun e w'=>∃ s2 p2 l2 c2 q2 k2 d2,e = .returned (.agg #[.int .i64 (-1),.bool s2,.slice p2 l2 c2,.slice q2 k2 d2])∧XP w.heap.size w' s2 p2 l2 c2 q2 k2 d2 N M M9∧Kp w w':=by
 go_enter Tryz.func160,Tryz.ntmps160
 go_wp2
 generalize hW:((w.alloc (.cells #[.int .i64 1,.bool s,.slice p l c,.slice q k d] 72)).alloc (.cells #[.int .i64 0,.bool false,.slice none 0 0,.slice none 0 0] 72)) = W
 have kw:Kp w W:=by rw [← hW];exact ((Kp.refl w).alloc _).alloc _
 have xw0:W.cell? ⟨w.heap.size,0,none⟩ = some (.int .i64 1):=by rw [← hW];simp [go_sem]
 have dw0:W.drew.cell? ⟨w.heap.size,0,none⟩ = some (.int .i64 1):=xw0
 have xw1:W.cell? ⟨w.heap.size,1,none⟩ = some (.bool s):=by rw [← hW];simp [go_sem]
 have dw1:W.drew.cell? ⟨w.heap.size,1,none⟩ = some (.bool s):=xw1
 have xw2:W.cell? ⟨w.heap.size,2,none⟩ = some (.slice p l c):=by rw [← hW];simp [go_sem]
 have dw2:W.drew.cell? ⟨w.heap.size,2,none⟩ = some (.slice p l c):=xw2
 have xw3:W.cell? ⟨w.heap.size,3,none⟩ = some (.slice q k d):=by rw [← hW];simp [go_sem]
 have dw3:W.drew.cell? ⟨w.heap.size,3,none⟩ = some (.slice q k d):=xw3
 obtain ⟨r0,rz0,r1,rz1,r2,rz2,r3,rz3⟩:W.cell? ⟨w.heap.size + 1,0,none⟩ = some (.int .i64 0)∧W.frozen? ⟨w.heap.size + 1,0,none⟩ = false∧W.cell? ⟨w.heap.size + 1,1,none⟩ = some (.bool false)∧W.frozen? ⟨w.heap.size + 1,1,none⟩ = false∧W.cell? ⟨w.heap.size + 1,2,none⟩ = some (.slice none 0 0)∧W.frozen? ⟨w.heap.size + 1,2,none⟩ = false∧W.cell? ⟨w.heap.size + 1,3,none⟩ = some (.slice none 0 0)∧W.frozen? ⟨w.heap.size + 1,3,none⟩ = false:=by rw [← hW];simp [go_sem]
 have hBW:w.heap.size + 1 < W.heap.size:=cell_lt r0
 have hn1:w.heap.size + 1≠w.heap.size:=by omega
 clear hW
 go_region_held3 (fun w'=>w'.cell? ⟨w.heap.size,0,none⟩ = some (.int .i64 1)∧w'.cell? ⟨w.heap.size,1,none⟩ = some (.bool s)∧w'.cell? ⟨w.heap.size,2,none⟩ = some (.slice p l c)∧w'.cell? ⟨w.heap.size,3,none⟩ = some (.slice q k d)) (first | (with_reducible exact ⟨xw0,xw1,xw2,xw3⟩) | (with_reducible exact ⟨dw0,dw1,dw2,dw3⟩) | (with_reducible exact ⟨aw0,aw1,aw2,aw3⟩) | (exact ⟨(CF4 hn1 aw0),(CF4 hn1 aw1),(CF4 hn1 aw2),(CF4 hn1 aw3)⟩)) (first | (go_at_call 34;refine (hs _ ?q0).mono ?_;(case q0=>exact kw.drew);rintro e wl ⟨s2,p2,l2,c2,q2,k2,d2,rfl,hp,gl⟩;have kl:Kp W wl:=Kp.trans (Kp.drew (Kp.refl _)) gl;have aw0:=kkeep kl xw0;have aw1:=kkeep kl xw1;have aw2:=kkeep kl xw2;have aw3:=kkeep kl xw3;obtain ⟨R0,Rz0,R1,Rz1,R2,Rz2,R3,Rz3⟩:=AK4 kl ⟨r0,rz0,r1,rz1,r2,rz2,r3,rz3⟩))
 go_wp2
 have hle:w.heap.size≤W.heap.size:=by omega
 exact bodyPost_ret (v:=.agg #[.int .i64 (-1),.bool s2,.slice p2 l2 c2,.slice q2 k2 d2]) (by simp [results,Tryz.results160,go_sem,R0,R1,R2,R3] <;> decide +kernel) rfl ⟨s2,p2,l2,c2,q2,k2,d2,rfl,XP.mono ((((((hp.mono (base':=W.heap.size) (Nat.le_refl _))).set (x:=⟨w.heap.size + 1,0,none⟩) hBW (.int .i64 (-1))).set (x:=⟨w.heap.size + 1,1,none⟩) hBW (.bool s2)).set (x:=⟨w.heap.size + 1,2,none⟩) hBW (.slice p2 l2 c2)).set (x:=⟨w.heap.size + 1,3,none⟩) hBW (.slice q2 k2 d2)) hle,KS4 ((Kp.trans kw kl)) (by first | omega | (simp <;> omega))⟩
theorem turnXM_ (N:Int) (M M9:Nat) s p l c q k d (w:World) (hs:∀ W:World,Kp w W→Calls Tryz.prog 34 #[.agg #[.bool s,.slice p l c,.slice q k d]] W fun e w'=>∃ s2 p2 l2 c2 q2 k2 d2,e = .returned (.agg #[.bool s2,.slice p2 l2 c2,.slice q2 k2 d2])∧XP W.heap.size w' s2 p2 l2 c2 q2 k2 d2 N M M9∧Kp W w'):Calls Tryz.prog 160 #[.agg #[.int .i64 (-1),.bool s,.slice p l c,.slice q k d]] w fun e w'=>∃ s2 p2 l2 c2 q2 k2 d2,e = .returned (.agg #[.int .i64 1,.bool s2,.slice p2 l2 c2,.slice q2 k2 d2])∧XP w.heap.size w' s2 p2 l2 c2 q2 k2 d2 N M M9∧Kp w w':=by
 go_enter Tryz.func160,Tryz.ntmps160
 go_wp2
 generalize hW:((w.alloc (.cells #[.int .i64 (-1),.bool s,.slice p l c,.slice q k d] 72)).alloc (.cells #[.int .i64 0,.bool false,.slice none 0 0,.slice none 0 0] 72)) = W
 have kw:Kp w W:=by rw [← hW];exact ((Kp.refl w).alloc _).alloc _
 have xw0:W.cell? ⟨w.heap.size,0,none⟩ = some (.int .i64 (-1)):=by rw [← hW];simp [go_sem]
 have dw0:W.drew.cell? ⟨w.heap.size,0,none⟩ = some (.int .i64 (-1)):=xw0
 have xw1:W.cell? ⟨w.heap.size,1,none⟩ = some (.bool s):=by rw [← hW];simp [go_sem]
 have dw1:W.drew.cell? ⟨w.heap.size,1,none⟩ = some (.bool s):=xw1
 have xw2:W.cell? ⟨w.heap.size,2,none⟩ = some (.slice p l c):=by rw [← hW];simp [go_sem]
 have dw2:W.drew.cell? ⟨w.heap.size,2,none⟩ = some (.slice p l c):=xw2
 have xw3:W.cell? ⟨w.heap.size,3,none⟩ = some (.slice q k d):=by rw [← hW];simp [go_sem]
 have dw3:W.drew.cell? ⟨w.heap.size,3,none⟩ = some (.slice q k d):=xw3
 obtain ⟨r0,rz0,r1,rz1,r2,rz2,r3,rz3⟩:W.cell? ⟨w.heap.size + 1,0,none⟩ = some (.int .i64 0)∧W.frozen? ⟨w.heap.size + 1,0,none⟩ = false∧W.cell? ⟨w.heap.size + 1,1,none⟩ = some (.bool false)∧W.frozen? ⟨w.heap.size + 1,1,none⟩ = false∧W.cell? ⟨w.heap.size + 1,2,none⟩ = some (.slice none 0 0)∧W.frozen? ⟨w.heap.size + 1,2,none⟩ = false∧W.cell? ⟨w.heap.size + 1,3,none⟩ = some (.slice none 0 0)∧W.frozen? ⟨w.heap.size + 1,3,none⟩ = false:=by rw [← hW];simp [go_sem]
 have hBW:w.heap.size + 1 < W.heap.size:=cell_lt r0
 have hn1:w.heap.size + 1≠w.heap.size:=by omega
 clear hW
 go_region_held3 (fun w'=>w'.cell? ⟨w.heap.size,0,none⟩ = some (.int .i64 (-1))∧w'.cell? ⟨w.heap.size,1,none⟩ = some (.bool s)∧w'.cell? ⟨w.heap.size,2,none⟩ = some (.slice p l c)∧w'.cell? ⟨w.heap.size,3,none⟩ = some (.slice q k d)) (first | (with_reducible exact ⟨xw0,xw1,xw2,xw3⟩) | (with_reducible exact ⟨dw0,dw1,dw2,dw3⟩) | (with_reducible exact ⟨aw0,aw1,aw2,aw3⟩) | (exact ⟨(CF4 hn1 aw0),(CF4 hn1 aw1),(CF4 hn1 aw2),(CF4 hn1 aw3)⟩)) (first | (go_at_call 34;refine (hs _ ?q0).mono ?_;(case q0=>exact kw.drew);rintro e wl ⟨s2,p2,l2,c2,q2,k2,d2,rfl,hp,gl⟩;have kl:Kp W wl:=Kp.trans (Kp.drew (Kp.refl _)) gl;have aw0:=kkeep kl xw0;have aw1:=kkeep kl xw1;have aw2:=kkeep kl xw2;have aw3:=kkeep kl xw3;obtain ⟨R0,Rz0,R1,Rz1,R2,Rz2,R3,Rz3⟩:=AK4 kl ⟨r0,rz0,r1,rz1,r2,rz2,r3,rz3⟩))
 go_wp2
 have hle:w.heap.size≤W.heap.size:=by omega
 exact bodyPost_ret (v:=.agg #[.int .i64 1,.bool s2,.slice p2 l2 c2,.slice q2 k2 d2]) (by simp [results,Tryz.results160,go_sem,R0,R1,R2,R3] <;> decide +kernel) rfl ⟨s2,p2,l2,c2,q2,k2,d2,rfl,XP.mono ((((((hp.mono (base':=W.heap.size) (Nat.le_refl _))).set (x:=⟨w.heap.size + 1,0,none⟩) hBW (.int .i64 1)).set (x:=⟨w.heap.size + 1,1,none⟩) hBW (.bool s2)).set (x:=⟨w.heap.size + 1,2,none⟩) hBW (.slice p2 l2 c2)).set (x:=⟨w.heap.size + 1,3,none⟩) hBW (.slice q2 k2 d2)) hle,KS4 ((Kp.trans kw kl)) (by first | omega | (simp <;> omega))⟩
theorem minusNX_ (i j i2 j2:Int) (N1 N2:Int) (M1 M2 D1 D2:Nat) s p l c q k d s2 p2 l2 c2 q2 k2 d2 (w:World) (hs1:∀ W:World,Kp w W→Calls Tryz.prog 160 #[.agg #[.int .i64 i,.bool s,.slice p l c,.slice q k d]] W fun e w'=>∃ s5 p5 l5 c5 q5 k5 d5,e = .returned (.agg #[.int .i64 i2,.bool s5,.slice p5 l5 c5,.slice q5 k5 d5])∧XP W.heap.size w' s5 p5 l5 c5 q5 k5 d5 N1 M1 D1∧Kp W w') (hs2:∀ W:World,Kp w W→Calls Tryz.prog 160 #[.agg #[.int .i64 j,.bool s2,.slice p2 l2 c2,.slice q2 k2 d2]] W fun e w'=>∃ s5 p5 l5 c5 q5 k5 d5,e = .returned (.agg #[.int .i64 j2,.bool s5,.slice p5 l5 c5,.slice q5 k5 d5])∧XP W.heap.size w' s5 p5 l5 c5 q5 k5 d5 N2 M2 D2∧Kp W w'):Calls Tryz.prog 134 #[.agg #[.bool false,.int .i64 i,.bool s,.slice p l c,.slice q k d,.int .i64 j,.bool s2,.slice p2 l2 c2,.slice q2 k2 d2]] w fun e w'=>∃ (s5:Bool) (p5:Option Addr) (l5 c5:Nat) (q5:Option Addr) (k5 d5:Nat) (s6:Bool) (p6:Option Addr) (l6 c6:Nat) (q6:Option Addr) (k6 d6:Nat),e = .returned (.agg #[.bool false,.int .i64 j2,.bool s5,.slice p5 l5 c5,.slice q5 k5 d5,.int .i64 i2,.bool s6,.slice p6 l6 c6,.slice q6 k6 d6])∧XP w.heap.size w' s5 p5 l5 c5 q5 k5 d5 N2 M2 D2∧XP w.heap.size w' s6 p6 l6 c6 q6 k6 d6 N1 M1 D1∧Kp w w':=by
 go_enter Tryz.func134,Tryz.ntmps134
 go_wp2
 generalize hW:((w.alloc (.cells #[.bool false,.int .i64 i,.bool s,.slice p l c,.slice q k d,.int .i64 j,.bool s2,.slice p2 l2 c2,.slice q2 k2 d2] 74)).alloc (.cells #[.bool false,.int .i64 0,.bool false,.slice none 0 0,.slice none 0 0,.int .i64 0,.bool false,.slice none 0 0,.slice none 0 0] 74)) = W
 have kw:Kp w W:=by rw [← hW];exact ((Kp.refl w).alloc _).alloc _
 have xw0:W.cell? ⟨w.heap.size,1,none⟩ = some (.int .i64 i):=by rw [← hW];simp [go_sem]
 have dw0:W.drew.cell? ⟨w.heap.size,1,none⟩ = some (.int .i64 i):=xw0
 have xw1:W.cell? ⟨w.heap.size,2,none⟩ = some (.bool s):=by rw [← hW];simp [go_sem]
 have dw1:W.drew.cell? ⟨w.heap.size,2,none⟩ = some (.bool s):=xw1
 have xw2:W.cell? ⟨w.heap.size,3,none⟩ = some (.slice p l c):=by rw [← hW];simp [go_sem]
 have dw2:W.drew.cell? ⟨w.heap.size,3,none⟩ = some (.slice p l c):=xw2
 have xw3:W.cell? ⟨w.heap.size,4,none⟩ = some (.slice q k d):=by rw [← hW];simp [go_sem]
 have dw3:W.drew.cell? ⟨w.heap.size,4,none⟩ = some (.slice q k d):=xw3
 have xw4:W.cell? ⟨w.heap.size,5,none⟩ = some (.int .i64 j):=by rw [← hW];simp [go_sem]
 have dw4:W.drew.cell? ⟨w.heap.size,5,none⟩ = some (.int .i64 j):=xw4
 have xw5:W.cell? ⟨w.heap.size,6,none⟩ = some (.bool s2):=by rw [← hW];simp [go_sem]
 have dw5:W.drew.cell? ⟨w.heap.size,6,none⟩ = some (.bool s2):=xw5
 have xw6:W.cell? ⟨w.heap.size,7,none⟩ = some (.slice p2 l2 c2):=by rw [← hW];simp [go_sem]
 have dw6:W.drew.cell? ⟨w.heap.size,7,none⟩ = some (.slice p2 l2 c2):=xw6
 have xw7:W.cell? ⟨w.heap.size,8,none⟩ = some (.slice q2 k2 d2):=by rw [← hW];simp [go_sem]
 have dw7:W.drew.cell? ⟨w.heap.size,8,none⟩ = some (.slice q2 k2 d2):=xw7
 obtain ⟨r0,rz0,r1,rz1,r2,rz2,r3,rz3,r4,rz4,r5,rz5,r6,rz6,r7,rz7,r8,rz8⟩:W.cell? ⟨w.heap.size + 1,0,none⟩ = some (.bool false)∧W.frozen? ⟨w.heap.size + 1,0,none⟩ = false∧W.cell? ⟨w.heap.size + 1,1,none⟩ = some (.int .i64 0)∧W.frozen? ⟨w.heap.size + 1,1,none⟩ = false∧W.cell? ⟨w.heap.size + 1,2,none⟩ = some (.bool false)∧W.frozen? ⟨w.heap.size + 1,2,none⟩ = false∧W.cell? ⟨w.heap.size + 1,3,none⟩ = some (.slice none 0 0)∧W.frozen? ⟨w.heap.size + 1,3,none⟩ = false∧W.cell? ⟨w.heap.size + 1,4,none⟩ = some (.slice none 0 0)∧W.frozen? ⟨w.heap.size + 1,4,none⟩ = false∧W.cell? ⟨w.heap.size + 1,5,none⟩ = some (.int .i64 0)∧W.frozen? ⟨w.heap.size + 1,5,none⟩ = false∧W.cell? ⟨w.heap.size + 1,6,none⟩ = some (.bool false)∧W.frozen? ⟨w.heap.size + 1,6,none⟩ = false∧W.cell? ⟨w.heap.size + 1,7,none⟩ = some (.slice none 0 0)∧W.frozen? ⟨w.heap.size + 1,7,none⟩ = false∧W.cell? ⟨w.heap.size + 1,8,none⟩ = some (.slice none 0 0)∧W.frozen? ⟨w.heap.size + 1,8,none⟩ = false:=by rw [← hW];simp [go_sem]
 have hBW:w.heap.size + 1 < W.heap.size:=cell_lt r0
 have hn1:w.heap.size + 1≠w.heap.size:=by omega
 clear hW
 go_region_held3 (fun w'=>w'.cell? ⟨w.heap.size,1,none⟩ = some (.int .i64 i)∧w'.cell? ⟨w.heap.size,2,none⟩ = some (.bool s)∧w'.cell? ⟨w.heap.size,3,none⟩ = some (.slice p l c)∧w'.cell? ⟨w.heap.size,4,none⟩ = some (.slice q k d)∧w'.cell? ⟨w.heap.size,5,none⟩ = some (.int .i64 j)∧w'.cell? ⟨w.heap.size,6,none⟩ = some (.bool s2)∧w'.cell? ⟨w.heap.size,7,none⟩ = some (.slice p2 l2 c2)∧w'.cell? ⟨w.heap.size,8,none⟩ = some (.slice q2 k2 d2)) (first | (with_reducible exact ⟨xw0,xw1,xw2,xw3,xw4,xw5,xw6,xw7⟩) | (with_reducible exact ⟨dw0,dw1,dw2,dw3,dw4,dw5,dw6,dw7⟩) | (with_reducible exact ⟨aw0,aw1,aw2,aw3,aw4,aw5,aw6,aw7⟩) | (with_reducible exact ⟨bw0,bw1,bw2,bw3,bw4,bw5,bw6,bw7⟩) | (exact ⟨(CF9 hn1 bw0),(CF9 hn1 bw1),(CF9 hn1 bw2),(CF9 hn1 bw3),(CF9 hn1 bw4),(CF9 hn1 bw5),(CF9 hn1 bw6),(CF9 hn1 bw7)⟩)) (first | (go_at_call_of 160 (Value.slice p2 l2 c2);refine (hs2 _ ?q0).mono ?_;(case q0=>exact kw.drew);rintro e wl ⟨s5,p5,l5,c5,q5,k5,d5,rfl,hp,gl⟩;have kl:Kp W wl:=Kp.trans (Kp.drew (Kp.refl _)) gl;have aw0:=kkeep kl xw0;have aw1:=kkeep kl xw1;have aw2:=kkeep kl xw2;have aw3:=kkeep kl xw3;have aw4:=kkeep kl xw4;have aw5:=kkeep kl xw5;have aw6:=kkeep kl xw6;have aw7:=kkeep kl xw7) | (go_at_call_of 160 (Value.slice p l c);refine (hs1 _ ?q0).mono ?_;(case q0=>exact kw.trans kl);rintro e wh ⟨s6,p6,l6,c6,q6,k6,d6,rfl,hp2,gh⟩;have kh:Kp W wh:=Kp.trans kl gh;have bw0:=kkeep kh xw0;have bw1:=kkeep kh xw1;have bw2:=kkeep kh xw2;have bw3:=kkeep kh xw3;have bw4:=kkeep kh xw4;have bw5:=kkeep kh xw5;have bw6:=kkeep kh xw6;have bw7:=kkeep kh xw7;obtain ⟨R0,Rz0,R1,Rz1,R2,Rz2,R3,Rz3,R4,Rz4,R5,Rz5,R6,Rz6,R7,Rz7,R8,Rz8⟩:=AK9 kh ⟨r0,rz0,r1,rz1,r2,rz2,r3,rz3,r4,rz4,r5,rz5,r6,rz6,r7,rz7,r8,rz8⟩))
 go_wp2
 have hle:w.heap.size≤W.heap.size:=by omega
 exact bodyPost_ret (v:=.agg #[.bool false,.int .i64 j2,.bool s5,.slice p5 l5 c5,.slice q5 k5 d5,.int .i64 i2,.bool s6,.slice p6 l6 c6,.slice q6 k6 d6]) (by simp [results,Tryz.results134,go_sem,R0,R1,R2,R3,R4,R5,R6,R7,R8]) rfl ⟨s5,p5,l5,c5,q5,k5,d5,s6,p6,l6,c6,q6,k6,d6,rfl,XP.mono ((((((((((((hp.mono (base':=W.heap.size) (Nat.le_refl _)).kp gh)).set (x:=⟨w.heap.size + 1,0,none⟩) hBW (.bool false)).set (x:=⟨w.heap.size + 1,1,none⟩) hBW (.int .i64 j2)).set (x:=⟨w.heap.size + 1,2,none⟩) hBW (.bool s5)).set (x:=⟨w.heap.size + 1,3,none⟩) hBW (.slice p5 l5 c5)).set (x:=⟨w.heap.size + 1,4,none⟩) hBW (.slice q5 k5 d5)).set (x:=⟨w.heap.size + 1,5,none⟩) hBW (.int .i64 i2)).set (x:=⟨w.heap.size + 1,6,none⟩) hBW (.bool s6)).set (x:=⟨w.heap.size + 1,7,none⟩) hBW (.slice p6 l6 c6)).set (x:=⟨w.heap.size + 1,8,none⟩) hBW (.slice q6 k6 d6)) hle,XP.mono (((((((((((hp2.mono (base':=W.heap.size) (Below.size kl))).set (x:=⟨w.heap.size + 1,0,none⟩) hBW (.bool false)).set (x:=⟨w.heap.size + 1,1,none⟩) hBW (.int .i64 j2)).set (x:=⟨w.heap.size + 1,2,none⟩) hBW (.bool s5)).set (x:=⟨w.heap.size + 1,3,none⟩) hBW (.slice p5 l5 c5)).set (x:=⟨w.heap.size + 1,4,none⟩) hBW (.slice q5 k5 d5)).set (x:=⟨w.heap.size + 1,5,none⟩) hBW (.int .i64 i2)).set (x:=⟨w.heap.size + 1,6,none⟩) hBW (.bool s6)).set (x:=⟨w.heap.size + 1,7,none⟩) hBW (.slice p6 l6 c6)).set (x:=⟨w.heap.size + 1,8,none⟩) hBW (.slice q6 k6 d6)) hle,KS9 ((Kp.trans kw kh)) (by first | omega | (simp <;> omega))⟩
end Go.Proofs.YtaldmbeomdfafaaGreatDoor
