import Derived.Test.YtoibnopiinclaaaGreatDoorKTNB
set_option maxHeartbeats 1000000
set_option maxRecDepth 20000
namespace Go.Proofs.YtoibnopiinclaaaGreatDoor
open Go.RowKit
theorem tightFFl_ (lo hi:Nat) (V1:Int) (C1 N1:Nat) (V2:Int) (C2 N2:Nat) (V6:Int) (C6 N6:Nat) (V7:Int) (C7 N7:Nat) s p l c q k d (w:World) (glo1:lo≠9221120237041090561) (glo2:lo≠9218868437227405312) (glo4:lo≠9223372036854775808) (ghi1:hi≠9221120237041090561) (ghi2:hi≠18442240474082181120) (ghi4:hi≠9223372036854775808) (hne:lo≠hi) (hs:∀ W:World,Calls Tryz.prog 32 #[.int .u64 (lo:Int)] W fun e w'=>e = .returned (.int .u64 (hi:Int))∧w' = W) (hF1:∀ W:World,Calls Tryz.prog 4 #[.int .u64 (lo:Int)] W fun e w'=>e = .returned (.bool true)∧w' = W) (hF2:∀ W:World,Calls Tryz.prog 4 #[.int .u64 (hi:Int)] W fun e w'=>e = .returned (.bool true)∧w' = W) (hZ:∀ W:World,Kp w W→Calls Tryz.prog 9 #[.int .u64 18442240474082181119] W fun e w'=>∃ s2 p2 l2 c2 q2 k2 d2,e = .returned (.agg #[.bool s2,.slice p2 l2 c2,.slice q2 k2 d2])∧Kp W w') (hB1:∀ W:World,Kp w W→Calls Tryz.prog 9 #[.int .u64 (lo:Int)] W fun e w'=>∃ s3 p3 l3 c3 q3 k3 d3,e = .returned (.agg #[.bool s3,.slice p3 l3 c3,.slice q3 k3 d3])∧XP W.heap.size w' s3 p3 l3 c3 q3 k3 d3 V1 C1 N1∧Kp W w') (hc1:∀ (W:World) s3 p3 l3 c3 q3 k3 d3,Kp w W→XP 0 W s3 p3 l3 c3 q3 k3 d3 V1 C1 N1→Calls Tryz.prog 31 #[.agg #[.bool s3,.slice p3 l3 c3,.slice q3 k3 d3],.agg #[.bool s,.slice p l c,.slice q k d]] W fun e w'=>e = .returned (.int .i64 (-1))∧Kp W w') (hB2:∀ W:World,Kp w W→Calls Tryz.prog 9 #[.int .u64 (hi:Int)] W fun e w'=>∃ s5 p5 l5 c5 q5 k5 d5,e = .returned (.agg #[.bool s5,.slice p5 l5 c5,.slice q5 k5 d5])∧XP W.heap.size w' s5 p5 l5 c5 q5 k5 d5 V2 C2 N2∧Kp W w') (hc2:∀ (W:World) s5 p5 l5 c5 q5 k5 d5,Kp w W→XP 0 W s5 p5 l5 c5 q5 k5 d5 V2 C2 N2→Calls Tryz.prog 31 #[.agg #[.bool s,.slice p l c,.slice q k d],.agg #[.bool s5,.slice p5 l5 c5,.slice q5 k5 d5]] W fun e w'=>e = .returned (.int .i64 (-1))∧Kp W w') (hs1:∀ (W:World) s3 p3 l3 c3 q3 k3 d3,Kp w W→XP 0 W s3 p3 l3 c3 q3 k3 d3 V1 C1 N1→Calls Tryz.prog 33 #[.agg #[.bool s,.slice p l c,.slice q k d],.agg #[.bool s3,.slice p3 l3 c3,.slice q3 k3 d3]] W fun e w'=>∃ s6 p6 l6 c6 q6 k6 d6,e = .returned (.agg #[.bool s6,.slice p6 l6 c6,.slice q6 k6 d6])∧XP 0 w' s6 p6 l6 c6 q6 k6 d6 V6 C6 N6∧Kp W w') (hs2:∀ (W:World) s5 p5 l5 c5 q5 k5 d5,Kp w W→XP 0 W s5 p5 l5 c5 q5 k5 d5 V2 C2 N2→Calls Tryz.prog 33 #[.agg #[.bool s5,.slice p5 l5 c5,.slice q5 k5 d5],.agg #[.bool s,.slice p l c,.slice q k d]] W fun e w'=>∃ s7 p7 l7 c7 q7 k7 d7,e = .returned (.agg #[.bool s7,.slice p7 l7 c7,.slice q7 k7 d7])∧XP 0 w' s7 p7 l7 c7 q7 k7 d7 V7 C7 N7∧Kp W w') (hcc:∀ (W:World) s6 p6 l6 c6 q6 k6 d6 s7 p7 l7 c7 q7 k7 d7,XP 0 W s6 p6 l6 c6 q6 k6 d6 V6 C6 N6→XP 0 W s7 p7 l7 c7 q7 k7 d7 V7 C7 N7→Calls Tryz.prog 31 #[.agg #[.bool s6,.slice p6 l6 c6,.slice q6 k6 d6],.agg #[.bool s7,.slice p7 l7 c7,.slice q7 k7 d7]] W fun e w'=>e = .returned (.int .i64 (-1))∧Kp W w') (hG:∀ W:World,Kp w W→Calls Tryz.prog 26 #[.bool false,.slice (some ⟨W.heap.size,0,none⟩) 1 1,.slice (some ⟨W.heap.size + 1,0,none⟩) 1 1,.int .i64 1024] ((W.alloc (.cells #[.int .u32 1] 51)).alloc (.cells #[.int .u32 1] 51)) fun e w'=>∃ s4 p4 l4 c4 q4 k4 d4,e = .returned (.agg #[.bool s4,.slice p4 l4 c4,.slice q4 k4 d4])∧Kp W w'):Calls Tryz.prog 12 #[.agg #[.bool s,.slice p l c,.slice q k d],.int .u64 (lo:Int),.int .u64 (hi:Int),.int .u64 (lo:Int)] w fun e w'=>e = .returned (.bool true)∧Kp w w':=by
  have ilo1:¬ ((lo:Int) = 9221120237041090561):=by omega
  have jlo1:((lo:Int) == 9221120237041090561) = false:=beq_eq_false_iff_ne.2 ilo1
  have ilo2:¬ ((lo:Int) = 9218868437227405312):=by omega
  have jlo2:((lo:Int) == 9218868437227405312) = false:=beq_eq_false_iff_ne.2 ilo2
  have ilo4:¬ ((lo:Int) = 9223372036854775808):=by omega
  have jlo4:((lo:Int) == 9223372036854775808) = false:=beq_eq_false_iff_ne.2 ilo4
  have ihi1:¬ ((hi:Int) = 9221120237041090561):=by omega
  have jhi1:((hi:Int) == 9221120237041090561) = false:=beq_eq_false_iff_ne.2 ihi1
  have ihi2:¬ ((hi:Int) = 18442240474082181120):=by omega
  have jhi2:((hi:Int) == 18442240474082181120) = false:=beq_eq_false_iff_ne.2 ihi2
  have ihi4:¬ ((hi:Int) = 9223372036854775808):=by omega
  have jhi4:((hi:Int) == 9223372036854775808) = false:=beq_eq_false_iff_ne.2 ihi4
  have e1:¬ ((lo:Int) = (hi:Int)):=by omega
  have e2:((lo:Int) == (hi:Int)) = false:=beq_eq_false_iff_ne.2 e1
  have e3:¬ ((hi:Int) = (lo:Int)):=by omega
  have e4:((hi:Int) == (lo:Int)) = false:=beq_eq_false_iff_ne.2 e3
  go_enter Tryz.func12,Tryz.ntmps12
  go_wp2_with fail
  refine (hs _).mono ?_;rintro e w' ⟨rfl,hw'⟩;obtain rfl:=hw'.symm;clear hw'
  go_wp2_with fail
  refine (hZ _ ((Kp.refl w).alloc _)).mono ?_;rintro e w1 ⟨s2,p2,l2,c2,q2,k2,d2,rfl,g1⟩
  go_wp2_with fail
  have HQ:=H3c.keep (H3c.keep (H3c.new w (.bool s) (.slice p l c) (.slice q k d) 32) g1) ((Kp.refl w1).alloc (.cells #[.bool s2,.slice p2 l2 c2,.slice q2 k2 d2] 32))
  have HL:=H3c.new w1 (.bool s2) (.slice p2 l2 c2) (.slice q2 k2 d2) 32
  have kW:Kp w (w1.alloc (.cells #[.bool s2,.slice p2 l2 c2,.slice q2 k2 d2] 32)):=((((Kp.refl w).alloc _)).trans g1).alloc _
  have hlt:w.heap.size < w1.heap.size:=(H3c.keep (H3c.new w (.bool s) (.slice p l c) (.slice q k d) 32) g1).lt
  generalize w1.alloc (.cells #[.bool s2,.slice p2 l2 c2,.slice q2 k2 d2] 32) = W at HQ HL kW ⊢
  generalize w1.heap.size = bL at HL hlt ⊢
  refine (hF1 _).mono ?_;rintro e w' ⟨rfl,hw'⟩;obtain rfl:=hw'.symm;clear hw'
  go_wp2_with fail
  refine (hB1 _ kW).mono ?_;rintro e w3 ⟨s3,p3,l3,c3,q3,k3,d3,rfl,hp3,g3⟩
  have hl1:bL < W.heap.size:=HL.lt
  replace HQ:=H3c.keep HQ g3
  replace HL:=H3c.keep HL g3
  replace kW:=Kp.trans kW g3
  obtain ⟨q0,q1,q2',qz0,qz1,qz2⟩:=id HQ
  obtain ⟨m0,m1,m2,z0,z1,z2⟩:=id HL
  have nQL:w.heap.size≠bL:=by omega
  have nLQ:bL≠w.heap.size:=by omega
  go_wp2_with fail
  replace HL:=H3c.put HL (.bool s3) (.slice p3 l3 c3) (.slice q3 k3 d3)
  replace HQ:=(H3c.far1 (H3c.far1 (H3c.far1 HQ ⟨bL,0,none⟩ nLQ (.bool s3)) ⟨bL,1,none⟩ nLQ (.slice p3 l3 c3)) ⟨bL,2,none⟩ nLQ (.slice q3 k3 d3))
  replace kW:Kp w ((((w3).setCell ⟨bL,0,none⟩ (.bool s3)).setCell ⟨bL,1,none⟩ (.slice p3 l3 c3)).setCell ⟨bL,2,none⟩ (.slice q3 k3 d3)):=(((kW).setCell (by simp <;> omega) _).setCell (by simp <;> omega) _).setCell (by simp <;> omega) _
  replace hp3:=XP.mono ((XP.set (XP.set (XP.set hp3 (x:=⟨bL,0,none⟩) hl1 (.bool s3)) (x:=⟨bL,1,none⟩) hl1 (.slice p3 l3 c3)) (x:=⟨bL,2,none⟩) hl1 (.slice q3 k3 d3))) (Nat.zero_le _)
  generalize (((w3).setCell ⟨bL,0,none⟩ (.bool s3)).setCell ⟨bL,1,none⟩ (.slice p3 l3 c3)).setCell ⟨bL,2,none⟩ (.slice q3 k3 d3) = W5 at HL HQ kW hp3 ⊢
  clear q0 q1 q2' qz0 qz1 qz2 m0 m1 m2 z0 z1 z2 g3 hB1 hZ hF1 hl1 g1
  refine (hc1 _ s3 p3 l3 c3 q3 k3 d3 kW hp3).mono ?_;rintro e w5 ⟨rfl,g5⟩
  replace HL:=H3c.keep HL g5
  replace HQ:=H3c.keep HQ g5
  replace kW:=Kp.trans kW g5
  replace hp3:=hp3.kp g5
  clear g5 hc1
  go_wp2_with fail
  refine (hG _ kW).mono ?_;rintro e w6 ⟨s4,p4,l4,c4,q4,k4,d4,rfl,g6⟩
  go_wp2_with fail
  replace HL:=H3c.keep HL g6
  replace HQ:=H3c.keep HQ g6
  replace kW:=Kp.trans kW g6
  replace hp3:=hp3.kp g6
  have hlL:=HL.lt
  have nb3:NB p3 q3 w6.heap.size:=hp3.nbNew (Nat.le_refl _)
  replace HL:=H3c.keep HL ((Kp.refl w6).alloc (.cells #[.bool s4,.slice p4 l4 c4,.slice q4 k4 d4] 32))
  replace HQ:=H3c.keep HQ ((Kp.refl w6).alloc (.cells #[.bool s4,.slice p4 l4 c4,.slice q4 k4 d4] 32))
  have HH:=H3c.new w6 (.bool s4) (.slice p4 l4 c4) (.slice q4 k4 d4) 32
  replace hp3:=hp3.kp ((Kp.refl w6).alloc (.cells #[.bool s4,.slice p4 l4 c4,.slice q4 k4 d4] 32))
  replace kW:=kW.alloc (.cells #[.bool s4,.slice p4 l4 c4,.slice q4 k4 d4] 32)
  clear g6 hG
  generalize w6.alloc (.cells #[.bool s4,.slice p4 l4 c4,.slice q4 k4 d4] 32) = W7 at HL HQ HH kW hp3 ⊢
  generalize w6.heap.size = bH at HH hlL nb3 ⊢
  refine (hF2 _).mono ?_;rintro e w' ⟨rfl,hw'⟩;obtain rfl:=hw'.symm;clear hw'
  go_wp2_with fail
  refine (hB2 _ kW).mono ?_;rintro e w8 ⟨s5,p5,l5,c5,q5,k5,d5,rfl,hp5,g8⟩
  have hl2:bH < W7.heap.size:=HH.lt
  replace HQ:=H3c.keep HQ g8
  replace HL:=H3c.keep HL g8
  replace HH:=H3c.keep HH g8
  replace kW:=Kp.trans kW g8
  replace hp3:=hp3.kp g8
  obtain ⟨q0,q1,q2',qz0,qz1,qz2⟩:=id HQ
  obtain ⟨m0,m1,m2,z0,z1,z2⟩:=id HH
  have nHQ:bH≠w.heap.size:=by omega
  have nQH:w.heap.size≠bH:=by omega
  have nHL:bH≠bL:=by omega
  have nLH:bL≠bH:=by omega
  go_wp2_with fail
  replace HH:=H3c.put HH (.bool s5) (.slice p5 l5 c5) (.slice q5 k5 d5)
  replace HQ:=(H3c.far1 (H3c.far1 (H3c.far1 HQ ⟨bH,0,none⟩ nHQ (.bool s5)) ⟨bH,1,none⟩ nHQ (.slice p5 l5 c5)) ⟨bH,2,none⟩ nHQ (.slice q5 k5 d5))
  replace HL:=(H3c.far1 (H3c.far1 (H3c.far1 HL ⟨bH,0,none⟩ nHL (.bool s5)) ⟨bH,1,none⟩ nHL (.slice p5 l5 c5)) ⟨bH,2,none⟩ nHL (.slice q5 k5 d5))
  replace kW:Kp w ((((w8).setCell ⟨bH,0,none⟩ (.bool s5)).setCell ⟨bH,1,none⟩ (.slice p5 l5 c5)).setCell ⟨bH,2,none⟩ (.slice q5 k5 d5)):=(((kW).setCell (by simp <;> omega) _).setCell (by simp <;> omega) _).setCell (by simp <;> omega) _
  replace hp5:=XP.mono ((XP.set (XP.set (XP.set hp5 (x:=⟨bH,0,none⟩) hl2 (.bool s5)) (x:=⟨bH,1,none⟩) hl2 (.slice p5 l5 c5)) (x:=⟨bH,2,none⟩) hl2 (.slice q5 k5 d5))) (Nat.zero_le _)
  replace hp3:=(XP.setNe (XP.setNe (XP.setNe hp3 (x:=⟨bH,0,none⟩) nb3 (.bool s5)) (x:=⟨bH,1,none⟩) nb3 (.slice p5 l5 c5)) (x:=⟨bH,2,none⟩) nb3 (.slice q5 k5 d5))
  generalize (((w8).setCell ⟨bH,0,none⟩ (.bool s5)).setCell ⟨bH,1,none⟩ (.slice p5 l5 c5)).setCell ⟨bH,2,none⟩ (.slice q5 k5 d5) = W9 at HL HQ HH kW hp3 hp5 ⊢
  clear q0 q1 q2' qz0 qz1 qz2 m0 m1 m2 z0 z1 z2 g8 hB2 hF2 hl2
  refine (hc2 _ s5 p5 l5 c5 q5 k5 d5 kW hp5).mono ?_;rintro e w9 ⟨rfl,g9⟩
  replace HL:=H3c.keep HL g9
  replace HQ:=H3c.keep HQ g9
  replace HH:=H3c.keep HH g9
  replace kW:=Kp.trans kW g9
  replace hp3:=hp3.kp g9
  replace hp5:=hp5.kp g9
  clear g9 hc2
  obtain ⟨q0,q1,q2',qz0,qz1,qz2⟩:=id HQ
  obtain ⟨m0,m1,m2,z0,z1,z2⟩:=id HL
  obtain ⟨h0,h1,h2,y0,y1,y2⟩:=id HH
  go_wp2_with fail
  have xw0:=q0
  have dw0:w9.drew.cell? ⟨w.heap.size,0,none⟩ = some (.bool s):=q0
  have xw1:=q1
  have dw1:w9.drew.cell? ⟨w.heap.size,1,none⟩ = some (.slice p l c):=q1
  have xw2:=q2'
  have dw2:w9.drew.cell? ⟨w.heap.size,2,none⟩ = some (.slice q k d):=q2'
  have xw3:=m0
  have dw3:w9.drew.cell? ⟨bL,0,none⟩ = some (.bool s3):=m0
  have xw4:=m1
  have dw4:w9.drew.cell? ⟨bL,1,none⟩ = some (.slice p3 l3 c3):=m1
  have xw5:=m2
  have dw5:w9.drew.cell? ⟨bL,2,none⟩ = some (.slice q3 k3 d3):=m2
  have xw6:=h0
  have dw6:w9.drew.cell? ⟨bH,0,none⟩ = some (.bool s5):=h0
  have xw7:=h1
  have dw7:w9.drew.cell? ⟨bH,1,none⟩ = some (.slice p5 l5 c5):=h1
  have xw8:=h2
  have dw8:w9.drew.cell? ⟨bH,2,none⟩ = some (.slice q5 k5 d5):=h2
  go_region_held3 (fun w'=>w'.cell? ⟨w.heap.size,0,none⟩ = some (.bool s)∧w'.cell? ⟨w.heap.size,1,none⟩ = some (.slice p l c)∧w'.cell? ⟨w.heap.size,2,none⟩ = some (.slice q k d)∧w'.cell? ⟨bL,0,none⟩ = some (.bool s3)∧w'.cell? ⟨bL,1,none⟩ = some (.slice p3 l3 c3)∧w'.cell? ⟨bL,2,none⟩ = some (.slice q3 k3 d3)∧w'.cell? ⟨bH,0,none⟩ = some (.bool s5)∧w'.cell? ⟨bH,1,none⟩ = some (.slice p5 l5 c5)∧w'.cell? ⟨bH,2,none⟩ = some (.slice q5 k5 d5)) (first | (with_reducible exact ⟨xw0,xw1,xw2,xw3,xw4,xw5,xw6,xw7,xw8⟩) | (with_reducible exact ⟨dw0,dw1,dw2,dw3,dw4,dw5,dw6,dw7,dw8⟩) | (with_reducible exact ⟨aw0,aw1,aw2,aw3,aw4,aw5,aw6,aw7,aw8⟩) | (with_reducible exact ⟨bw0,bw1,bw2,bw3,bw4,bw5,bw6,bw7,bw8⟩) | (with_reducible exact ⟨cw0,cw1,cw2,cw3,cw4,cw5,cw6,cw7,cw8⟩)) (first | (go_at_call_of 33 (Value.bool s3);refine (hs1 _ s3 p3 l3 c3 q3 k3 d3 ?q0 ?q1).mono ?_;(case q0=>exact kW.drew);(case q1=>exact hp3.kp (Kp.drew (Kp.refl _)));rintro e wl ⟨s6,p6,l6,c6,q6,k6,d6,rfl,hp6,gl⟩;have kl:Kp w9 wl:=Kp.trans (Kp.drew (Kp.refl _)) gl;have aw0:=kkeep kl xw0;have aw1:=kkeep kl xw1;have aw2:=kkeep kl xw2;have aw3:=kkeep kl xw3;have aw4:=kkeep kl xw4;have aw5:=kkeep kl xw5;have aw6:=kkeep kl xw6;have aw7:=kkeep kl xw7;have aw8:=kkeep kl xw8) | (go_at_call_of 33 (Value.bool s5);refine (hs2 _ s5 p5 l5 c5 q5 k5 d5 (kW.trans kl) (hp5.kp kl)).mono ?_;rintro e wm ⟨s7,p7,l7,c7,q7,k7,d7,rfl,hp7,gm⟩;have km:Kp w9 wm:=Kp.trans kl gm;have hp6m:=hp6.kp gm;have bw0:=kkeep km xw0;have bw1:=kkeep km xw1;have bw2:=kkeep km xw2;have bw3:=kkeep km xw3;have bw4:=kkeep km xw4;have bw5:=kkeep km xw5;have bw6:=kkeep km xw6;have bw7:=kkeep km xw7;have bw8:=kkeep km xw8) | (go_at_call 31;refine (hcc _ s6 p6 l6 c6 q6 k6 d6 s7 p7 l7 c7 q7 k7 d7 hp6m hp7).mono ?_;rintro e wh ⟨rfl,gh⟩;have kh:Kp w9 wh:=Kp.trans km gh;have cw0:=kkeep kh xw0;have cw1:=kkeep kh xw1;have cw2:=kkeep kh xw2;have cw3:=kkeep kh xw3;have cw4:=kkeep kh xw4;have cw5:=kkeep kh xw5;have cw6:=kkeep kh xw6;have cw7:=kkeep kh xw7;have cw8:=kkeep kh xw8))
  go_wp2
  exact bodyPost_ret (v:=.bool true) (by simp [results,Tryz.results12,go_sem]) rfl ⟨rfl,(Kp.trans kW kh)⟩
theorem tightFFle_ (lo hi:Nat) (V1:Int) (C1 N1:Nat) (V2:Int) (C2 N2:Nat) (V6:Int) (C6 N6:Nat) (V7:Int) (C7 N7:Nat) s p l c q k d (w:World) (glo1:lo≠9221120237041090561) (glo2:lo≠9218868437227405312) (glo4:lo≠9223372036854775808) (ghi1:hi≠9221120237041090561) (ghi2:hi≠18442240474082181120) (ghi4:hi≠9223372036854775808) (hne:lo≠hi) (hs:∀ W:World,Calls Tryz.prog 32 #[.int .u64 (lo:Int)] W fun e w'=>e = .returned (.int .u64 (hi:Int))∧w' = W) (hF1:∀ W:World,Calls Tryz.prog 4 #[.int .u64 (lo:Int)] W fun e w'=>e = .returned (.bool true)∧w' = W) (hF2:∀ W:World,Calls Tryz.prog 4 #[.int .u64 (hi:Int)] W fun e w'=>e = .returned (.bool true)∧w' = W) (hZ:∀ W:World,Kp w W→Calls Tryz.prog 9 #[.int .u64 18442240474082181119] W fun e w'=>∃ s2 p2 l2 c2 q2 k2 d2,e = .returned (.agg #[.bool s2,.slice p2 l2 c2,.slice q2 k2 d2])∧Kp W w') (hB1:∀ W:World,Kp w W→Calls Tryz.prog 9 #[.int .u64 (lo:Int)] W fun e w'=>∃ s3 p3 l3 c3 q3 k3 d3,e = .returned (.agg #[.bool s3,.slice p3 l3 c3,.slice q3 k3 d3])∧XP W.heap.size w' s3 p3 l3 c3 q3 k3 d3 V1 C1 N1∧Kp W w') (hc1:∀ (W:World) s3 p3 l3 c3 q3 k3 d3,Kp w W→XP 0 W s3 p3 l3 c3 q3 k3 d3 V1 C1 N1→Calls Tryz.prog 31 #[.agg #[.bool s3,.slice p3 l3 c3,.slice q3 k3 d3],.agg #[.bool s,.slice p l c,.slice q k d]] W fun e w'=>e = .returned (.int .i64 (-1))∧Kp W w') (hB2:∀ W:World,Kp w W→Calls Tryz.prog 9 #[.int .u64 (hi:Int)] W fun e w'=>∃ s5 p5 l5 c5 q5 k5 d5,e = .returned (.agg #[.bool s5,.slice p5 l5 c5,.slice q5 k5 d5])∧XP W.heap.size w' s5 p5 l5 c5 q5 k5 d5 V2 C2 N2∧Kp W w') (hc2:∀ (W:World) s5 p5 l5 c5 q5 k5 d5,Kp w W→XP 0 W s5 p5 l5 c5 q5 k5 d5 V2 C2 N2→Calls Tryz.prog 31 #[.agg #[.bool s,.slice p l c,.slice q k d],.agg #[.bool s5,.slice p5 l5 c5,.slice q5 k5 d5]] W fun e w'=>e = .returned (.int .i64 (-1))∧Kp W w') (hs1:∀ (W:World) s3 p3 l3 c3 q3 k3 d3,Kp w W→XP 0 W s3 p3 l3 c3 q3 k3 d3 V1 C1 N1→Calls Tryz.prog 33 #[.agg #[.bool s,.slice p l c,.slice q k d],.agg #[.bool s3,.slice p3 l3 c3,.slice q3 k3 d3]] W fun e w'=>∃ s6 p6 l6 c6 q6 k6 d6,e = .returned (.agg #[.bool s6,.slice p6 l6 c6,.slice q6 k6 d6])∧XP 0 w' s6 p6 l6 c6 q6 k6 d6 V6 C6 N6∧Kp W w') (hs2:∀ (W:World) s5 p5 l5 c5 q5 k5 d5,Kp w W→XP 0 W s5 p5 l5 c5 q5 k5 d5 V2 C2 N2→Calls Tryz.prog 33 #[.agg #[.bool s5,.slice p5 l5 c5,.slice q5 k5 d5],.agg #[.bool s,.slice p l c,.slice q k d]] W fun e w'=>∃ s7 p7 l7 c7 q7 k7 d7,e = .returned (.agg #[.bool s7,.slice p7 l7 c7,.slice q7 k7 d7])∧XP 0 w' s7 p7 l7 c7 q7 k7 d7 V7 C7 N7∧Kp W w') (hcc:∀ (W:World) s6 p6 l6 c6 q6 k6 d6 s7 p7 l7 c7 q7 k7 d7,XP 0 W s6 p6 l6 c6 q6 k6 d6 V6 C6 N6→XP 0 W s7 p7 l7 c7 q7 k7 d7 V7 C7 N7→Calls Tryz.prog 31 #[.agg #[.bool s6,.slice p6 l6 c6,.slice q6 k6 d6],.agg #[.bool s7,.slice p7 l7 c7,.slice q7 k7 d7]] W fun e w'=>e = .returned (.int .i64 (0))∧Kp W w') (hev:bits BinOp.and IntKind.u64 (lo:Int) 1 = 0) (hG:∀ W:World,Kp w W→Calls Tryz.prog 26 #[.bool false,.slice (some ⟨W.heap.size,0,none⟩) 1 1,.slice (some ⟨W.heap.size + 1,0,none⟩) 1 1,.int .i64 1024] ((W.alloc (.cells #[.int .u32 1] 51)).alloc (.cells #[.int .u32 1] 51)) fun e w'=>∃ s4 p4 l4 c4 q4 k4 d4,e = .returned (.agg #[.bool s4,.slice p4 l4 c4,.slice q4 k4 d4])∧Kp W w'):Calls Tryz.prog 12 #[.agg #[.bool s,.slice p l c,.slice q k d],.int .u64 (lo:Int),.int .u64 (hi:Int),.int .u64 (lo:Int)] w fun e w'=>e = .returned (.bool true)∧Kp w w':=by
  have ilo1:¬ ((lo:Int) = 9221120237041090561):=by omega
  have jlo1:((lo:Int) == 9221120237041090561) = false:=beq_eq_false_iff_ne.2 ilo1
  have ilo2:¬ ((lo:Int) = 9218868437227405312):=by omega
  have jlo2:((lo:Int) == 9218868437227405312) = false:=beq_eq_false_iff_ne.2 ilo2
  have ilo4:¬ ((lo:Int) = 9223372036854775808):=by omega
  have jlo4:((lo:Int) == 9223372036854775808) = false:=beq_eq_false_iff_ne.2 ilo4
  have ihi1:¬ ((hi:Int) = 9221120237041090561):=by omega
  have jhi1:((hi:Int) == 9221120237041090561) = false:=beq_eq_false_iff_ne.2 ihi1
  have ihi2:¬ ((hi:Int) = 18442240474082181120):=by omega
  have jhi2:((hi:Int) == 18442240474082181120) = false:=beq_eq_false_iff_ne.2 ihi2
  have ihi4:¬ ((hi:Int) = 9223372036854775808):=by omega
  have jhi4:((hi:Int) == 9223372036854775808) = false:=beq_eq_false_iff_ne.2 ihi4
  have e1:¬ ((lo:Int) = (hi:Int)):=by omega
  have e2:((lo:Int) == (hi:Int)) = false:=beq_eq_false_iff_ne.2 e1
  have e3:¬ ((hi:Int) = (lo:Int)):=by omega
  have e4:((hi:Int) == (lo:Int)) = false:=beq_eq_false_iff_ne.2 e3
  go_enter Tryz.func12,Tryz.ntmps12
  go_wp2_with fail
  refine (hs _).mono ?_;rintro e w' ⟨rfl,hw'⟩;obtain rfl:=hw'.symm;clear hw'
  go_wp2_with fail
  refine (hZ _ ((Kp.refl w).alloc _)).mono ?_;rintro e w1 ⟨s2,p2,l2,c2,q2,k2,d2,rfl,g1⟩
  go_wp2_with fail
  have HQ:=H3c.keep (H3c.keep (H3c.new w (.bool s) (.slice p l c) (.slice q k d) 32) g1) ((Kp.refl w1).alloc (.cells #[.bool s2,.slice p2 l2 c2,.slice q2 k2 d2] 32))
  have HL:=H3c.new w1 (.bool s2) (.slice p2 l2 c2) (.slice q2 k2 d2) 32
  have kW:Kp w (w1.alloc (.cells #[.bool s2,.slice p2 l2 c2,.slice q2 k2 d2] 32)):=((((Kp.refl w).alloc _)).trans g1).alloc _
  have hlt:w.heap.size < w1.heap.size:=(H3c.keep (H3c.new w (.bool s) (.slice p l c) (.slice q k d) 32) g1).lt
  generalize w1.alloc (.cells #[.bool s2,.slice p2 l2 c2,.slice q2 k2 d2] 32) = W at HQ HL kW ⊢
  generalize w1.heap.size = bL at HL hlt ⊢
  refine (hF1 _).mono ?_;rintro e w' ⟨rfl,hw'⟩;obtain rfl:=hw'.symm;clear hw'
  go_wp2_with fail
  refine (hB1 _ kW).mono ?_;rintro e w3 ⟨s3,p3,l3,c3,q3,k3,d3,rfl,hp3,g3⟩
  have hl1:bL < W.heap.size:=HL.lt
  replace HQ:=H3c.keep HQ g3
  replace HL:=H3c.keep HL g3
  replace kW:=Kp.trans kW g3
  obtain ⟨q0,q1,q2',qz0,qz1,qz2⟩:=id HQ
  obtain ⟨m0,m1,m2,z0,z1,z2⟩:=id HL
  have nQL:w.heap.size≠bL:=by omega
  have nLQ:bL≠w.heap.size:=by omega
  go_wp2_with fail
  replace HL:=H3c.put HL (.bool s3) (.slice p3 l3 c3) (.slice q3 k3 d3)
  replace HQ:=(H3c.far1 (H3c.far1 (H3c.far1 HQ ⟨bL,0,none⟩ nLQ (.bool s3)) ⟨bL,1,none⟩ nLQ (.slice p3 l3 c3)) ⟨bL,2,none⟩ nLQ (.slice q3 k3 d3))
  replace kW:Kp w ((((w3).setCell ⟨bL,0,none⟩ (.bool s3)).setCell ⟨bL,1,none⟩ (.slice p3 l3 c3)).setCell ⟨bL,2,none⟩ (.slice q3 k3 d3)):=(((kW).setCell (by simp <;> omega) _).setCell (by simp <;> omega) _).setCell (by simp <;> omega) _
  replace hp3:=XP.mono ((XP.set (XP.set (XP.set hp3 (x:=⟨bL,0,none⟩) hl1 (.bool s3)) (x:=⟨bL,1,none⟩) hl1 (.slice p3 l3 c3)) (x:=⟨bL,2,none⟩) hl1 (.slice q3 k3 d3))) (Nat.zero_le _)
  generalize (((w3).setCell ⟨bL,0,none⟩ (.bool s3)).setCell ⟨bL,1,none⟩ (.slice p3 l3 c3)).setCell ⟨bL,2,none⟩ (.slice q3 k3 d3) = W5 at HL HQ kW hp3 ⊢
  clear q0 q1 q2' qz0 qz1 qz2 m0 m1 m2 z0 z1 z2 g3 hB1 hZ hF1 hl1 g1
  refine (hc1 _ s3 p3 l3 c3 q3 k3 d3 kW hp3).mono ?_;rintro e w5 ⟨rfl,g5⟩
  replace HL:=H3c.keep HL g5
  replace HQ:=H3c.keep HQ g5
  replace kW:=Kp.trans kW g5
  replace hp3:=hp3.kp g5
  clear g5 hc1
  go_wp2_with fail
  refine (hG _ kW).mono ?_;rintro e w6 ⟨s4,p4,l4,c4,q4,k4,d4,rfl,g6⟩
  go_wp2_with fail
  replace HL:=H3c.keep HL g6
  replace HQ:=H3c.keep HQ g6
  replace kW:=Kp.trans kW g6
  replace hp3:=hp3.kp g6
  have hlL:=HL.lt
  have nb3:NB p3 q3 w6.heap.size:=hp3.nbNew (Nat.le_refl _)
  replace HL:=H3c.keep HL ((Kp.refl w6).alloc (.cells #[.bool s4,.slice p4 l4 c4,.slice q4 k4 d4] 32))
  replace HQ:=H3c.keep HQ ((Kp.refl w6).alloc (.cells #[.bool s4,.slice p4 l4 c4,.slice q4 k4 d4] 32))
  have HH:=H3c.new w6 (.bool s4) (.slice p4 l4 c4) (.slice q4 k4 d4) 32
  replace hp3:=hp3.kp ((Kp.refl w6).alloc (.cells #[.bool s4,.slice p4 l4 c4,.slice q4 k4 d4] 32))
  replace kW:=kW.alloc (.cells #[.bool s4,.slice p4 l4 c4,.slice q4 k4 d4] 32)
  clear g6 hG
  generalize w6.alloc (.cells #[.bool s4,.slice p4 l4 c4,.slice q4 k4 d4] 32) = W7 at HL HQ HH kW hp3 ⊢
  generalize w6.heap.size = bH at HH hlL nb3 ⊢
  refine (hF2 _).mono ?_;rintro e w' ⟨rfl,hw'⟩;obtain rfl:=hw'.symm;clear hw'
  go_wp2_with fail
  refine (hB2 _ kW).mono ?_;rintro e w8 ⟨s5,p5,l5,c5,q5,k5,d5,rfl,hp5,g8⟩
  have hl2:bH < W7.heap.size:=HH.lt
  replace HQ:=H3c.keep HQ g8
  replace HL:=H3c.keep HL g8
  replace HH:=H3c.keep HH g8
  replace kW:=Kp.trans kW g8
  replace hp3:=hp3.kp g8
  obtain ⟨q0,q1,q2',qz0,qz1,qz2⟩:=id HQ
  obtain ⟨m0,m1,m2,z0,z1,z2⟩:=id HH
  have nHQ:bH≠w.heap.size:=by omega
  have nQH:w.heap.size≠bH:=by omega
  have nHL:bH≠bL:=by omega
  have nLH:bL≠bH:=by omega
  go_wp2_with fail
  replace HH:=H3c.put HH (.bool s5) (.slice p5 l5 c5) (.slice q5 k5 d5)
  replace HQ:=(H3c.far1 (H3c.far1 (H3c.far1 HQ ⟨bH,0,none⟩ nHQ (.bool s5)) ⟨bH,1,none⟩ nHQ (.slice p5 l5 c5)) ⟨bH,2,none⟩ nHQ (.slice q5 k5 d5))
  replace HL:=(H3c.far1 (H3c.far1 (H3c.far1 HL ⟨bH,0,none⟩ nHL (.bool s5)) ⟨bH,1,none⟩ nHL (.slice p5 l5 c5)) ⟨bH,2,none⟩ nHL (.slice q5 k5 d5))
  replace kW:Kp w ((((w8).setCell ⟨bH,0,none⟩ (.bool s5)).setCell ⟨bH,1,none⟩ (.slice p5 l5 c5)).setCell ⟨bH,2,none⟩ (.slice q5 k5 d5)):=(((kW).setCell (by simp <;> omega) _).setCell (by simp <;> omega) _).setCell (by simp <;> omega) _
  replace hp5:=XP.mono ((XP.set (XP.set (XP.set hp5 (x:=⟨bH,0,none⟩) hl2 (.bool s5)) (x:=⟨bH,1,none⟩) hl2 (.slice p5 l5 c5)) (x:=⟨bH,2,none⟩) hl2 (.slice q5 k5 d5))) (Nat.zero_le _)
  replace hp3:=(XP.setNe (XP.setNe (XP.setNe hp3 (x:=⟨bH,0,none⟩) nb3 (.bool s5)) (x:=⟨bH,1,none⟩) nb3 (.slice p5 l5 c5)) (x:=⟨bH,2,none⟩) nb3 (.slice q5 k5 d5))
  generalize (((w8).setCell ⟨bH,0,none⟩ (.bool s5)).setCell ⟨bH,1,none⟩ (.slice p5 l5 c5)).setCell ⟨bH,2,none⟩ (.slice q5 k5 d5) = W9 at HL HQ HH kW hp3 hp5 ⊢
  clear q0 q1 q2' qz0 qz1 qz2 m0 m1 m2 z0 z1 z2 g8 hB2 hF2 hl2
  refine (hc2 _ s5 p5 l5 c5 q5 k5 d5 kW hp5).mono ?_;rintro e w9 ⟨rfl,g9⟩
  replace HL:=H3c.keep HL g9
  replace HQ:=H3c.keep HQ g9
  replace HH:=H3c.keep HH g9
  replace kW:=Kp.trans kW g9
  replace hp3:=hp3.kp g9
  replace hp5:=hp5.kp g9
  clear g9 hc2
  obtain ⟨q0,q1,q2',qz0,qz1,qz2⟩:=id HQ
  obtain ⟨m0,m1,m2,z0,z1,z2⟩:=id HL
  obtain ⟨h0,h1,h2,y0,y1,y2⟩:=id HH
  go_wp2_with fail
  have xw0:=q0
  have dw0:w9.drew.cell? ⟨w.heap.size,0,none⟩ = some (.bool s):=q0
  have xw1:=q1
  have dw1:w9.drew.cell? ⟨w.heap.size,1,none⟩ = some (.slice p l c):=q1
  have xw2:=q2'
  have dw2:w9.drew.cell? ⟨w.heap.size,2,none⟩ = some (.slice q k d):=q2'
  have xw3:=m0
  have dw3:w9.drew.cell? ⟨bL,0,none⟩ = some (.bool s3):=m0
  have xw4:=m1
  have dw4:w9.drew.cell? ⟨bL,1,none⟩ = some (.slice p3 l3 c3):=m1
  have xw5:=m2
  have dw5:w9.drew.cell? ⟨bL,2,none⟩ = some (.slice q3 k3 d3):=m2
  have xw6:=h0
  have dw6:w9.drew.cell? ⟨bH,0,none⟩ = some (.bool s5):=h0
  have xw7:=h1
  have dw7:w9.drew.cell? ⟨bH,1,none⟩ = some (.slice p5 l5 c5):=h1
  have xw8:=h2
  have dw8:w9.drew.cell? ⟨bH,2,none⟩ = some (.slice q5 k5 d5):=h2
  go_region_held3 (fun w'=>w'.cell? ⟨w.heap.size,0,none⟩ = some (.bool s)∧w'.cell? ⟨w.heap.size,1,none⟩ = some (.slice p l c)∧w'.cell? ⟨w.heap.size,2,none⟩ = some (.slice q k d)∧w'.cell? ⟨bL,0,none⟩ = some (.bool s3)∧w'.cell? ⟨bL,1,none⟩ = some (.slice p3 l3 c3)∧w'.cell? ⟨bL,2,none⟩ = some (.slice q3 k3 d3)∧w'.cell? ⟨bH,0,none⟩ = some (.bool s5)∧w'.cell? ⟨bH,1,none⟩ = some (.slice p5 l5 c5)∧w'.cell? ⟨bH,2,none⟩ = some (.slice q5 k5 d5)) (first | (with_reducible exact ⟨xw0,xw1,xw2,xw3,xw4,xw5,xw6,xw7,xw8⟩) | (with_reducible exact ⟨dw0,dw1,dw2,dw3,dw4,dw5,dw6,dw7,dw8⟩) | (with_reducible exact ⟨aw0,aw1,aw2,aw3,aw4,aw5,aw6,aw7,aw8⟩) | (with_reducible exact ⟨bw0,bw1,bw2,bw3,bw4,bw5,bw6,bw7,bw8⟩) | (with_reducible exact ⟨cw0,cw1,cw2,cw3,cw4,cw5,cw6,cw7,cw8⟩)) (first | (go_at_call_of 33 (Value.bool s3);refine (hs1 _ s3 p3 l3 c3 q3 k3 d3 ?q0 ?q1).mono ?_;(case q0=>exact kW.drew);(case q1=>exact hp3.kp (Kp.drew (Kp.refl _)));rintro e wl ⟨s6,p6,l6,c6,q6,k6,d6,rfl,hp6,gl⟩;have kl:Kp w9 wl:=Kp.trans (Kp.drew (Kp.refl _)) gl;have aw0:=kkeep kl xw0;have aw1:=kkeep kl xw1;have aw2:=kkeep kl xw2;have aw3:=kkeep kl xw3;have aw4:=kkeep kl xw4;have aw5:=kkeep kl xw5;have aw6:=kkeep kl xw6;have aw7:=kkeep kl xw7;have aw8:=kkeep kl xw8) | (go_at_call_of 33 (Value.bool s5);refine (hs2 _ s5 p5 l5 c5 q5 k5 d5 (kW.trans kl) (hp5.kp kl)).mono ?_;rintro e wm ⟨s7,p7,l7,c7,q7,k7,d7,rfl,hp7,gm⟩;have km:Kp w9 wm:=Kp.trans kl gm;have hp6m:=hp6.kp gm;have bw0:=kkeep km xw0;have bw1:=kkeep km xw1;have bw2:=kkeep km xw2;have bw3:=kkeep km xw3;have bw4:=kkeep km xw4;have bw5:=kkeep km xw5;have bw6:=kkeep km xw6;have bw7:=kkeep km xw7;have bw8:=kkeep km xw8) | (go_at_call 31;refine (hcc _ s6 p6 l6 c6 q6 k6 d6 s7 p7 l7 c7 q7 k7 d7 hp6m hp7).mono ?_;rintro e wh ⟨rfl,gh⟩;have kh:Kp w9 wh:=Kp.trans km gh;have cw0:=kkeep kh xw0;have cw1:=kkeep kh xw1;have cw2:=kkeep kh xw2;have cw3:=kkeep kh xw3;have cw4:=kkeep kh xw4;have cw5:=kkeep kh xw5;have cw6:=kkeep kh xw6;have cw7:=kkeep kh xw7;have cw8:=kkeep kh xw8))
  go_wp2
  exact bodyPost_ret (v:=.bool true) (by simp [results,Tryz.results12,go_sem]) rfl ⟨rfl,(Kp.trans kW kh)⟩
theorem tightFFh_ (lo hi:Nat) (V1:Int) (C1 N1:Nat) (V2:Int) (C2 N2:Nat) (V6:Int) (C6 N6:Nat) (V7:Int) (C7 N7:Nat) s p l c q k d (w:World) (glo1:lo≠9221120237041090561) (glo2:lo≠9218868437227405312) (glo4:lo≠9223372036854775808) (ghi1:hi≠9221120237041090561) (ghi2:hi≠18442240474082181120) (ghi4:hi≠9223372036854775808) (hne:lo≠hi) (hs:∀ W:World,Calls Tryz.prog 32 #[.int .u64 (lo:Int)] W fun e w'=>e = .returned (.int .u64 (hi:Int))∧w' = W) (hF1:∀ W:World,Calls Tryz.prog 4 #[.int .u64 (lo:Int)] W fun e w'=>e = .returned (.bool true)∧w' = W) (hF2:∀ W:World,Calls Tryz.prog 4 #[.int .u64 (hi:Int)] W fun e w'=>e = .returned (.bool true)∧w' = W) (hZ:∀ W:World,Kp w W→Calls Tryz.prog 9 #[.int .u64 18442240474082181119] W fun e w'=>∃ s2 p2 l2 c2 q2 k2 d2,e = .returned (.agg #[.bool s2,.slice p2 l2 c2,.slice q2 k2 d2])∧Kp W w') (hB1:∀ W:World,Kp w W→Calls Tryz.prog 9 #[.int .u64 (lo:Int)] W fun e w'=>∃ s3 p3 l3 c3 q3 k3 d3,e = .returned (.agg #[.bool s3,.slice p3 l3 c3,.slice q3 k3 d3])∧XP W.heap.size w' s3 p3 l3 c3 q3 k3 d3 V1 C1 N1∧Kp W w') (hc1:∀ (W:World) s3 p3 l3 c3 q3 k3 d3,Kp w W→XP 0 W s3 p3 l3 c3 q3 k3 d3 V1 C1 N1→Calls Tryz.prog 31 #[.agg #[.bool s3,.slice p3 l3 c3,.slice q3 k3 d3],.agg #[.bool s,.slice p l c,.slice q k d]] W fun e w'=>e = .returned (.int .i64 (-1))∧Kp W w') (hB2:∀ W:World,Kp w W→Calls Tryz.prog 9 #[.int .u64 (hi:Int)] W fun e w'=>∃ s5 p5 l5 c5 q5 k5 d5,e = .returned (.agg #[.bool s5,.slice p5 l5 c5,.slice q5 k5 d5])∧XP W.heap.size w' s5 p5 l5 c5 q5 k5 d5 V2 C2 N2∧Kp W w') (hc2:∀ (W:World) s5 p5 l5 c5 q5 k5 d5,Kp w W→XP 0 W s5 p5 l5 c5 q5 k5 d5 V2 C2 N2→Calls Tryz.prog 31 #[.agg #[.bool s,.slice p l c,.slice q k d],.agg #[.bool s5,.slice p5 l5 c5,.slice q5 k5 d5]] W fun e w'=>e = .returned (.int .i64 (-1))∧Kp W w') (hs1:∀ (W:World) s3 p3 l3 c3 q3 k3 d3,Kp w W→XP 0 W s3 p3 l3 c3 q3 k3 d3 V1 C1 N1→Calls Tryz.prog 33 #[.agg #[.bool s,.slice p l c,.slice q k d],.agg #[.bool s3,.slice p3 l3 c3,.slice q3 k3 d3]] W fun e w'=>∃ s6 p6 l6 c6 q6 k6 d6,e = .returned (.agg #[.bool s6,.slice p6 l6 c6,.slice q6 k6 d6])∧XP 0 w' s6 p6 l6 c6 q6 k6 d6 V6 C6 N6∧Kp W w') (hs2:∀ (W:World) s5 p5 l5 c5 q5 k5 d5,Kp w W→XP 0 W s5 p5 l5 c5 q5 k5 d5 V2 C2 N2→Calls Tryz.prog 33 #[.agg #[.bool s5,.slice p5 l5 c5,.slice q5 k5 d5],.agg #[.bool s,.slice p l c,.slice q k d]] W fun e w'=>∃ s7 p7 l7 c7 q7 k7 d7,e = .returned (.agg #[.bool s7,.slice p7 l7 c7,.slice q7 k7 d7])∧XP 0 w' s7 p7 l7 c7 q7 k7 d7 V7 C7 N7∧Kp W w') (hcc:∀ (W:World) s6 p6 l6 c6 q6 k6 d6 s7 p7 l7 c7 q7 k7 d7,XP 0 W s6 p6 l6 c6 q6 k6 d6 V6 C6 N6→XP 0 W s7 p7 l7 c7 q7 k7 d7 V7 C7 N7→Calls Tryz.prog 31 #[.agg #[.bool s6,.slice p6 l6 c6,.slice q6 k6 d6],.agg #[.bool s7,.slice p7 l7 c7,.slice q7 k7 d7]] W fun e w'=>e = .returned (.int .i64 (1))∧Kp W w') (hG:∀ W:World,Kp w W→Calls Tryz.prog 26 #[.bool false,.slice (some ⟨W.heap.size,0,none⟩) 1 1,.slice (some ⟨W.heap.size + 1,0,none⟩) 1 1,.int .i64 1024] ((W.alloc (.cells #[.int .u32 1] 51)).alloc (.cells #[.int .u32 1] 51)) fun e w'=>∃ s4 p4 l4 c4 q4 k4 d4,e = .returned (.agg #[.bool s4,.slice p4 l4 c4,.slice q4 k4 d4])∧Kp W w'):Calls Tryz.prog 12 #[.agg #[.bool s,.slice p l c,.slice q k d],.int .u64 (lo:Int),.int .u64 (hi:Int),.int .u64 (hi:Int)] w fun e w'=>e = .returned (.bool true)∧Kp w w':=by
  have ilo1:¬ ((lo:Int) = 9221120237041090561):=by omega
  have jlo1:((lo:Int) == 9221120237041090561) = false:=beq_eq_false_iff_ne.2 ilo1
  have ilo2:¬ ((lo:Int) = 9218868437227405312):=by omega
  have jlo2:((lo:Int) == 9218868437227405312) = false:=beq_eq_false_iff_ne.2 ilo2
  have ilo4:¬ ((lo:Int) = 9223372036854775808):=by omega
  have jlo4:((lo:Int) == 9223372036854775808) = false:=beq_eq_false_iff_ne.2 ilo4
  have ihi1:¬ ((hi:Int) = 9221120237041090561):=by omega
  have jhi1:((hi:Int) == 9221120237041090561) = false:=beq_eq_false_iff_ne.2 ihi1
  have ihi2:¬ ((hi:Int) = 18442240474082181120):=by omega
  have jhi2:((hi:Int) == 18442240474082181120) = false:=beq_eq_false_iff_ne.2 ihi2
  have ihi4:¬ ((hi:Int) = 9223372036854775808):=by omega
  have jhi4:((hi:Int) == 9223372036854775808) = false:=beq_eq_false_iff_ne.2 ihi4
  have e1:¬ ((lo:Int) = (hi:Int)):=by omega
  have e2:((lo:Int) == (hi:Int)) = false:=beq_eq_false_iff_ne.2 e1
  have e3:¬ ((hi:Int) = (lo:Int)):=by omega
  have e4:((hi:Int) == (lo:Int)) = false:=beq_eq_false_iff_ne.2 e3
  go_enter Tryz.func12,Tryz.ntmps12
  go_wp2_with fail
  refine (hs _).mono ?_;rintro e w' ⟨rfl,hw'⟩;obtain rfl:=hw'.symm;clear hw'
  go_wp2_with fail
  refine (hZ _ ((Kp.refl w).alloc _)).mono ?_;rintro e w1 ⟨s2,p2,l2,c2,q2,k2,d2,rfl,g1⟩
  go_wp2_with fail
  have HQ:=H3c.keep (H3c.keep (H3c.new w (.bool s) (.slice p l c) (.slice q k d) 32) g1) ((Kp.refl w1).alloc (.cells #[.bool s2,.slice p2 l2 c2,.slice q2 k2 d2] 32))
  have HL:=H3c.new w1 (.bool s2) (.slice p2 l2 c2) (.slice q2 k2 d2) 32
  have kW:Kp w (w1.alloc (.cells #[.bool s2,.slice p2 l2 c2,.slice q2 k2 d2] 32)):=((((Kp.refl w).alloc _)).trans g1).alloc _
  have hlt:w.heap.size < w1.heap.size:=(H3c.keep (H3c.new w (.bool s) (.slice p l c) (.slice q k d) 32) g1).lt
  generalize w1.alloc (.cells #[.bool s2,.slice p2 l2 c2,.slice q2 k2 d2] 32) = W at HQ HL kW ⊢
  generalize w1.heap.size = bL at HL hlt ⊢
  refine (hF1 _).mono ?_;rintro e w' ⟨rfl,hw'⟩;obtain rfl:=hw'.symm;clear hw'
  go_wp2_with fail
  refine (hB1 _ kW).mono ?_;rintro e w3 ⟨s3,p3,l3,c3,q3,k3,d3,rfl,hp3,g3⟩
  have hl1:bL < W.heap.size:=HL.lt
  replace HQ:=H3c.keep HQ g3
  replace HL:=H3c.keep HL g3
  replace kW:=Kp.trans kW g3
  obtain ⟨q0,q1,q2',qz0,qz1,qz2⟩:=id HQ
  obtain ⟨m0,m1,m2,z0,z1,z2⟩:=id HL
  have nQL:w.heap.size≠bL:=by omega
  have nLQ:bL≠w.heap.size:=by omega
  go_wp2_with fail
  replace HL:=H3c.put HL (.bool s3) (.slice p3 l3 c3) (.slice q3 k3 d3)
  replace HQ:=(H3c.far1 (H3c.far1 (H3c.far1 HQ ⟨bL,0,none⟩ nLQ (.bool s3)) ⟨bL,1,none⟩ nLQ (.slice p3 l3 c3)) ⟨bL,2,none⟩ nLQ (.slice q3 k3 d3))
  replace kW:Kp w ((((w3).setCell ⟨bL,0,none⟩ (.bool s3)).setCell ⟨bL,1,none⟩ (.slice p3 l3 c3)).setCell ⟨bL,2,none⟩ (.slice q3 k3 d3)):=(((kW).setCell (by simp <;> omega) _).setCell (by simp <;> omega) _).setCell (by simp <;> omega) _
  replace hp3:=XP.mono ((XP.set (XP.set (XP.set hp3 (x:=⟨bL,0,none⟩) hl1 (.bool s3)) (x:=⟨bL,1,none⟩) hl1 (.slice p3 l3 c3)) (x:=⟨bL,2,none⟩) hl1 (.slice q3 k3 d3))) (Nat.zero_le _)
  generalize (((w3).setCell ⟨bL,0,none⟩ (.bool s3)).setCell ⟨bL,1,none⟩ (.slice p3 l3 c3)).setCell ⟨bL,2,none⟩ (.slice q3 k3 d3) = W5 at HL HQ kW hp3 ⊢
  clear q0 q1 q2' qz0 qz1 qz2 m0 m1 m2 z0 z1 z2 g3 hB1 hZ hF1 hl1 g1
  refine (hc1 _ s3 p3 l3 c3 q3 k3 d3 kW hp3).mono ?_;rintro e w5 ⟨rfl,g5⟩
  replace HL:=H3c.keep HL g5
  replace HQ:=H3c.keep HQ g5
  replace kW:=Kp.trans kW g5
  replace hp3:=hp3.kp g5
  clear g5 hc1
  go_wp2_with fail
  refine (hG _ kW).mono ?_;rintro e w6 ⟨s4,p4,l4,c4,q4,k4,d4,rfl,g6⟩
  go_wp2_with fail
  replace HL:=H3c.keep HL g6
  replace HQ:=H3c.keep HQ g6
  replace kW:=Kp.trans kW g6
  replace hp3:=hp3.kp g6
  have hlL:=HL.lt
  have nb3:NB p3 q3 w6.heap.size:=hp3.nbNew (Nat.le_refl _)
  replace HL:=H3c.keep HL ((Kp.refl w6).alloc (.cells #[.bool s4,.slice p4 l4 c4,.slice q4 k4 d4] 32))
  replace HQ:=H3c.keep HQ ((Kp.refl w6).alloc (.cells #[.bool s4,.slice p4 l4 c4,.slice q4 k4 d4] 32))
  have HH:=H3c.new w6 (.bool s4) (.slice p4 l4 c4) (.slice q4 k4 d4) 32
  replace hp3:=hp3.kp ((Kp.refl w6).alloc (.cells #[.bool s4,.slice p4 l4 c4,.slice q4 k4 d4] 32))
  replace kW:=kW.alloc (.cells #[.bool s4,.slice p4 l4 c4,.slice q4 k4 d4] 32)
  clear g6 hG
  generalize w6.alloc (.cells #[.bool s4,.slice p4 l4 c4,.slice q4 k4 d4] 32) = W7 at HL HQ HH kW hp3 ⊢
  generalize w6.heap.size = bH at HH hlL nb3 ⊢
  refine (hF2 _).mono ?_;rintro e w' ⟨rfl,hw'⟩;obtain rfl:=hw'.symm;clear hw'
  go_wp2_with fail
  refine (hB2 _ kW).mono ?_;rintro e w8 ⟨s5,p5,l5,c5,q5,k5,d5,rfl,hp5,g8⟩
  have hl2:bH < W7.heap.size:=HH.lt
  replace HQ:=H3c.keep HQ g8
  replace HL:=H3c.keep HL g8
  replace HH:=H3c.keep HH g8
  replace kW:=Kp.trans kW g8
  replace hp3:=hp3.kp g8
  obtain ⟨q0,q1,q2',qz0,qz1,qz2⟩:=id HQ
  obtain ⟨m0,m1,m2,z0,z1,z2⟩:=id HH
  have nHQ:bH≠w.heap.size:=by omega
  have nQH:w.heap.size≠bH:=by omega
  have nHL:bH≠bL:=by omega
  have nLH:bL≠bH:=by omega
  go_wp2_with fail
  replace HH:=H3c.put HH (.bool s5) (.slice p5 l5 c5) (.slice q5 k5 d5)
  replace HQ:=(H3c.far1 (H3c.far1 (H3c.far1 HQ ⟨bH,0,none⟩ nHQ (.bool s5)) ⟨bH,1,none⟩ nHQ (.slice p5 l5 c5)) ⟨bH,2,none⟩ nHQ (.slice q5 k5 d5))
  replace HL:=(H3c.far1 (H3c.far1 (H3c.far1 HL ⟨bH,0,none⟩ nHL (.bool s5)) ⟨bH,1,none⟩ nHL (.slice p5 l5 c5)) ⟨bH,2,none⟩ nHL (.slice q5 k5 d5))
  replace kW:Kp w ((((w8).setCell ⟨bH,0,none⟩ (.bool s5)).setCell ⟨bH,1,none⟩ (.slice p5 l5 c5)).setCell ⟨bH,2,none⟩ (.slice q5 k5 d5)):=(((kW).setCell (by simp <;> omega) _).setCell (by simp <;> omega) _).setCell (by simp <;> omega) _
  replace hp5:=XP.mono ((XP.set (XP.set (XP.set hp5 (x:=⟨bH,0,none⟩) hl2 (.bool s5)) (x:=⟨bH,1,none⟩) hl2 (.slice p5 l5 c5)) (x:=⟨bH,2,none⟩) hl2 (.slice q5 k5 d5))) (Nat.zero_le _)
  replace hp3:=(XP.setNe (XP.setNe (XP.setNe hp3 (x:=⟨bH,0,none⟩) nb3 (.bool s5)) (x:=⟨bH,1,none⟩) nb3 (.slice p5 l5 c5)) (x:=⟨bH,2,none⟩) nb3 (.slice q5 k5 d5))
  generalize (((w8).setCell ⟨bH,0,none⟩ (.bool s5)).setCell ⟨bH,1,none⟩ (.slice p5 l5 c5)).setCell ⟨bH,2,none⟩ (.slice q5 k5 d5) = W9 at HL HQ HH kW hp3 hp5 ⊢
  clear q0 q1 q2' qz0 qz1 qz2 m0 m1 m2 z0 z1 z2 g8 hB2 hF2 hl2
  refine (hc2 _ s5 p5 l5 c5 q5 k5 d5 kW hp5).mono ?_;rintro e w9 ⟨rfl,g9⟩
  replace HL:=H3c.keep HL g9
  replace HQ:=H3c.keep HQ g9
  replace HH:=H3c.keep HH g9
  replace kW:=Kp.trans kW g9
  replace hp3:=hp3.kp g9
  replace hp5:=hp5.kp g9
  clear g9 hc2
  obtain ⟨q0,q1,q2',qz0,qz1,qz2⟩:=id HQ
  obtain ⟨m0,m1,m2,z0,z1,z2⟩:=id HL
  obtain ⟨h0,h1,h2,y0,y1,y2⟩:=id HH
  go_wp2_with fail
  have xw0:=q0
  have dw0:w9.drew.cell? ⟨w.heap.size,0,none⟩ = some (.bool s):=q0
  have xw1:=q1
  have dw1:w9.drew.cell? ⟨w.heap.size,1,none⟩ = some (.slice p l c):=q1
  have xw2:=q2'
  have dw2:w9.drew.cell? ⟨w.heap.size,2,none⟩ = some (.slice q k d):=q2'
  have xw3:=m0
  have dw3:w9.drew.cell? ⟨bL,0,none⟩ = some (.bool s3):=m0
  have xw4:=m1
  have dw4:w9.drew.cell? ⟨bL,1,none⟩ = some (.slice p3 l3 c3):=m1
  have xw5:=m2
  have dw5:w9.drew.cell? ⟨bL,2,none⟩ = some (.slice q3 k3 d3):=m2
  have xw6:=h0
  have dw6:w9.drew.cell? ⟨bH,0,none⟩ = some (.bool s5):=h0
  have xw7:=h1
  have dw7:w9.drew.cell? ⟨bH,1,none⟩ = some (.slice p5 l5 c5):=h1
  have xw8:=h2
  have dw8:w9.drew.cell? ⟨bH,2,none⟩ = some (.slice q5 k5 d5):=h2
  go_region_held3 (fun w'=>w'.cell? ⟨w.heap.size,0,none⟩ = some (.bool s)∧w'.cell? ⟨w.heap.size,1,none⟩ = some (.slice p l c)∧w'.cell? ⟨w.heap.size,2,none⟩ = some (.slice q k d)∧w'.cell? ⟨bL,0,none⟩ = some (.bool s3)∧w'.cell? ⟨bL,1,none⟩ = some (.slice p3 l3 c3)∧w'.cell? ⟨bL,2,none⟩ = some (.slice q3 k3 d3)∧w'.cell? ⟨bH,0,none⟩ = some (.bool s5)∧w'.cell? ⟨bH,1,none⟩ = some (.slice p5 l5 c5)∧w'.cell? ⟨bH,2,none⟩ = some (.slice q5 k5 d5)) (first | (with_reducible exact ⟨xw0,xw1,xw2,xw3,xw4,xw5,xw6,xw7,xw8⟩) | (with_reducible exact ⟨dw0,dw1,dw2,dw3,dw4,dw5,dw6,dw7,dw8⟩) | (with_reducible exact ⟨aw0,aw1,aw2,aw3,aw4,aw5,aw6,aw7,aw8⟩) | (with_reducible exact ⟨bw0,bw1,bw2,bw3,bw4,bw5,bw6,bw7,bw8⟩) | (with_reducible exact ⟨cw0,cw1,cw2,cw3,cw4,cw5,cw6,cw7,cw8⟩)) (first | (go_at_call_of 33 (Value.bool s3);refine (hs1 _ s3 p3 l3 c3 q3 k3 d3 ?q0 ?q1).mono ?_;(case q0=>exact kW.drew);(case q1=>exact hp3.kp (Kp.drew (Kp.refl _)));rintro e wl ⟨s6,p6,l6,c6,q6,k6,d6,rfl,hp6,gl⟩;have kl:Kp w9 wl:=Kp.trans (Kp.drew (Kp.refl _)) gl;have aw0:=kkeep kl xw0;have aw1:=kkeep kl xw1;have aw2:=kkeep kl xw2;have aw3:=kkeep kl xw3;have aw4:=kkeep kl xw4;have aw5:=kkeep kl xw5;have aw6:=kkeep kl xw6;have aw7:=kkeep kl xw7;have aw8:=kkeep kl xw8) | (go_at_call_of 33 (Value.bool s5);refine (hs2 _ s5 p5 l5 c5 q5 k5 d5 (kW.trans kl) (hp5.kp kl)).mono ?_;rintro e wm ⟨s7,p7,l7,c7,q7,k7,d7,rfl,hp7,gm⟩;have km:Kp w9 wm:=Kp.trans kl gm;have hp6m:=hp6.kp gm;have bw0:=kkeep km xw0;have bw1:=kkeep km xw1;have bw2:=kkeep km xw2;have bw3:=kkeep km xw3;have bw4:=kkeep km xw4;have bw5:=kkeep km xw5;have bw6:=kkeep km xw6;have bw7:=kkeep km xw7;have bw8:=kkeep km xw8) | (go_at_call 31;refine (hcc _ s6 p6 l6 c6 q6 k6 d6 s7 p7 l7 c7 q7 k7 d7 hp6m hp7).mono ?_;rintro e wh ⟨rfl,gh⟩;have kh:Kp w9 wh:=Kp.trans km gh;have cw0:=kkeep kh xw0;have cw1:=kkeep kh xw1;have cw2:=kkeep kh xw2;have cw3:=kkeep kh xw3;have cw4:=kkeep kh xw4;have cw5:=kkeep kh xw5;have cw6:=kkeep kh xw6;have cw7:=kkeep kh xw7;have cw8:=kkeep kh xw8))
  go_wp2
  exact bodyPost_ret (v:=.bool true) (by simp [results,Tryz.results12,go_sem]) rfl ⟨rfl,(Kp.trans kW kh)⟩
theorem tightFFhe_ (lo hi:Nat) (V1:Int) (C1 N1:Nat) (V2:Int) (C2 N2:Nat) (V6:Int) (C6 N6:Nat) (V7:Int) (C7 N7:Nat) s p l c q k d (w:World) (glo1:lo≠9221120237041090561) (glo2:lo≠9218868437227405312) (glo4:lo≠9223372036854775808) (ghi1:hi≠9221120237041090561) (ghi2:hi≠18442240474082181120) (ghi4:hi≠9223372036854775808) (hne:lo≠hi) (hs:∀ W:World,Calls Tryz.prog 32 #[.int .u64 (lo:Int)] W fun e w'=>e = .returned (.int .u64 (hi:Int))∧w' = W) (hF1:∀ W:World,Calls Tryz.prog 4 #[.int .u64 (lo:Int)] W fun e w'=>e = .returned (.bool true)∧w' = W) (hF2:∀ W:World,Calls Tryz.prog 4 #[.int .u64 (hi:Int)] W fun e w'=>e = .returned (.bool true)∧w' = W) (hZ:∀ W:World,Kp w W→Calls Tryz.prog 9 #[.int .u64 18442240474082181119] W fun e w'=>∃ s2 p2 l2 c2 q2 k2 d2,e = .returned (.agg #[.bool s2,.slice p2 l2 c2,.slice q2 k2 d2])∧Kp W w') (hB1:∀ W:World,Kp w W→Calls Tryz.prog 9 #[.int .u64 (lo:Int)] W fun e w'=>∃ s3 p3 l3 c3 q3 k3 d3,e = .returned (.agg #[.bool s3,.slice p3 l3 c3,.slice q3 k3 d3])∧XP W.heap.size w' s3 p3 l3 c3 q3 k3 d3 V1 C1 N1∧Kp W w') (hc1:∀ (W:World) s3 p3 l3 c3 q3 k3 d3,Kp w W→XP 0 W s3 p3 l3 c3 q3 k3 d3 V1 C1 N1→Calls Tryz.prog 31 #[.agg #[.bool s3,.slice p3 l3 c3,.slice q3 k3 d3],.agg #[.bool s,.slice p l c,.slice q k d]] W fun e w'=>e = .returned (.int .i64 (-1))∧Kp W w') (hB2:∀ W:World,Kp w W→Calls Tryz.prog 9 #[.int .u64 (hi:Int)] W fun e w'=>∃ s5 p5 l5 c5 q5 k5 d5,e = .returned (.agg #[.bool s5,.slice p5 l5 c5,.slice q5 k5 d5])∧XP W.heap.size w' s5 p5 l5 c5 q5 k5 d5 V2 C2 N2∧Kp W w') (hc2:∀ (W:World) s5 p5 l5 c5 q5 k5 d5,Kp w W→XP 0 W s5 p5 l5 c5 q5 k5 d5 V2 C2 N2→Calls Tryz.prog 31 #[.agg #[.bool s,.slice p l c,.slice q k d],.agg #[.bool s5,.slice p5 l5 c5,.slice q5 k5 d5]] W fun e w'=>e = .returned (.int .i64 (-1))∧Kp W w') (hs1:∀ (W:World) s3 p3 l3 c3 q3 k3 d3,Kp w W→XP 0 W s3 p3 l3 c3 q3 k3 d3 V1 C1 N1→Calls Tryz.prog 33 #[.agg #[.bool s,.slice p l c,.slice q k d],.agg #[.bool s3,.slice p3 l3 c3,.slice q3 k3 d3]] W fun e w'=>∃ s6 p6 l6 c6 q6 k6 d6,e = .returned (.agg #[.bool s6,.slice p6 l6 c6,.slice q6 k6 d6])∧XP 0 w' s6 p6 l6 c6 q6 k6 d6 V6 C6 N6∧Kp W w') (hs2:∀ (W:World) s5 p5 l5 c5 q5 k5 d5,Kp w W→XP 0 W s5 p5 l5 c5 q5 k5 d5 V2 C2 N2→Calls Tryz.prog 33 #[.agg #[.bool s5,.slice p5 l5 c5,.slice q5 k5 d5],.agg #[.bool s,.slice p l c,.slice q k d]] W fun e w'=>∃ s7 p7 l7 c7 q7 k7 d7,e = .returned (.agg #[.bool s7,.slice p7 l7 c7,.slice q7 k7 d7])∧XP 0 w' s7 p7 l7 c7 q7 k7 d7 V7 C7 N7∧Kp W w') (hcc:∀ (W:World) s6 p6 l6 c6 q6 k6 d6 s7 p7 l7 c7 q7 k7 d7,XP 0 W s6 p6 l6 c6 q6 k6 d6 V6 C6 N6→XP 0 W s7 p7 l7 c7 q7 k7 d7 V7 C7 N7→Calls Tryz.prog 31 #[.agg #[.bool s6,.slice p6 l6 c6,.slice q6 k6 d6],.agg #[.bool s7,.slice p7 l7 c7,.slice q7 k7 d7]] W fun e w'=>e = .returned (.int .i64 (0))∧Kp W w') (hev:bits BinOp.and IntKind.u64 (hi:Int) 1 = 0) (hG:∀ W:World,Kp w W→Calls Tryz.prog 26 #[.bool false,.slice (some ⟨W.heap.size,0,none⟩) 1 1,.slice (some ⟨W.heap.size + 1,0,none⟩) 1 1,.int .i64 1024] ((W.alloc (.cells #[.int .u32 1] 51)).alloc (.cells #[.int .u32 1] 51)) fun e w'=>∃ s4 p4 l4 c4 q4 k4 d4,e = .returned (.agg #[.bool s4,.slice p4 l4 c4,.slice q4 k4 d4])∧Kp W w'):Calls Tryz.prog 12 #[.agg #[.bool s,.slice p l c,.slice q k d],.int .u64 (lo:Int),.int .u64 (hi:Int),.int .u64 (hi:Int)] w fun e w'=>e = .returned (.bool true)∧Kp w w':=by
  have ilo1:¬ ((lo:Int) = 9221120237041090561):=by omega
  have jlo1:((lo:Int) == 9221120237041090561) = false:=beq_eq_false_iff_ne.2 ilo1
  have ilo2:¬ ((lo:Int) = 9218868437227405312):=by omega
  have jlo2:((lo:Int) == 9218868437227405312) = false:=beq_eq_false_iff_ne.2 ilo2
  have ilo4:¬ ((lo:Int) = 9223372036854775808):=by omega
  have jlo4:((lo:Int) == 9223372036854775808) = false:=beq_eq_false_iff_ne.2 ilo4
  have ihi1:¬ ((hi:Int) = 9221120237041090561):=by omega
  have jhi1:((hi:Int) == 9221120237041090561) = false:=beq_eq_false_iff_ne.2 ihi1
  have ihi2:¬ ((hi:Int) = 18442240474082181120):=by omega
  have jhi2:((hi:Int) == 18442240474082181120) = false:=beq_eq_false_iff_ne.2 ihi2
  have ihi4:¬ ((hi:Int) = 9223372036854775808):=by omega
  have jhi4:((hi:Int) == 9223372036854775808) = false:=beq_eq_false_iff_ne.2 ihi4
  have e1:¬ ((lo:Int) = (hi:Int)):=by omega
  have e2:((lo:Int) == (hi:Int)) = false:=beq_eq_false_iff_ne.2 e1
  have e3:¬ ((hi:Int) = (lo:Int)):=by omega
  have e4:((hi:Int) == (lo:Int)) = false:=beq_eq_false_iff_ne.2 e3
  go_enter Tryz.func12,Tryz.ntmps12
  go_wp2_with fail
  refine (hs _).mono ?_;rintro e w' ⟨rfl,hw'⟩;obtain rfl:=hw'.symm;clear hw'
  go_wp2_with fail
  refine (hZ _ ((Kp.refl w).alloc _)).mono ?_;rintro e w1 ⟨s2,p2,l2,c2,q2,k2,d2,rfl,g1⟩
  go_wp2_with fail
  have HQ:=H3c.keep (H3c.keep (H3c.new w (.bool s) (.slice p l c) (.slice q k d) 32) g1) ((Kp.refl w1).alloc (.cells #[.bool s2,.slice p2 l2 c2,.slice q2 k2 d2] 32))
  have HL:=H3c.new w1 (.bool s2) (.slice p2 l2 c2) (.slice q2 k2 d2) 32
  have kW:Kp w (w1.alloc (.cells #[.bool s2,.slice p2 l2 c2,.slice q2 k2 d2] 32)):=((((Kp.refl w).alloc _)).trans g1).alloc _
  have hlt:w.heap.size < w1.heap.size:=(H3c.keep (H3c.new w (.bool s) (.slice p l c) (.slice q k d) 32) g1).lt
  generalize w1.alloc (.cells #[.bool s2,.slice p2 l2 c2,.slice q2 k2 d2] 32) = W at HQ HL kW ⊢
  generalize w1.heap.size = bL at HL hlt ⊢
  refine (hF1 _).mono ?_;rintro e w' ⟨rfl,hw'⟩;obtain rfl:=hw'.symm;clear hw'
  go_wp2_with fail
  refine (hB1 _ kW).mono ?_;rintro e w3 ⟨s3,p3,l3,c3,q3,k3,d3,rfl,hp3,g3⟩
  have hl1:bL < W.heap.size:=HL.lt
  replace HQ:=H3c.keep HQ g3
  replace HL:=H3c.keep HL g3
  replace kW:=Kp.trans kW g3
  obtain ⟨q0,q1,q2',qz0,qz1,qz2⟩:=id HQ
  obtain ⟨m0,m1,m2,z0,z1,z2⟩:=id HL
  have nQL:w.heap.size≠bL:=by omega
  have nLQ:bL≠w.heap.size:=by omega
  go_wp2_with fail
  replace HL:=H3c.put HL (.bool s3) (.slice p3 l3 c3) (.slice q3 k3 d3)
  replace HQ:=(H3c.far1 (H3c.far1 (H3c.far1 HQ ⟨bL,0,none⟩ nLQ (.bool s3)) ⟨bL,1,none⟩ nLQ (.slice p3 l3 c3)) ⟨bL,2,none⟩ nLQ (.slice q3 k3 d3))
  replace kW:Kp w ((((w3).setCell ⟨bL,0,none⟩ (.bool s3)).setCell ⟨bL,1,none⟩ (.slice p3 l3 c3)).setCell ⟨bL,2,none⟩ (.slice q3 k3 d3)):=(((kW).setCell (by simp <;> omega) _).setCell (by simp <;> omega) _).setCell (by simp <;> omega) _
  replace hp3:=XP.mono ((XP.set (XP.set (XP.set hp3 (x:=⟨bL,0,none⟩) hl1 (.bool s3)) (x:=⟨bL,1,none⟩) hl1 (.slice p3 l3 c3)) (x:=⟨bL,2,none⟩) hl1 (.slice q3 k3 d3))) (Nat.zero_le _)
  generalize (((w3).setCell ⟨bL,0,none⟩ (.bool s3)).setCell ⟨bL,1,none⟩ (.slice p3 l3 c3)).setCell ⟨bL,2,none⟩ (.slice q3 k3 d3) = W5 at HL HQ kW hp3 ⊢
  clear q0 q1 q2' qz0 qz1 qz2 m0 m1 m2 z0 z1 z2 g3 hB1 hZ hF1 hl1 g1
  refine (hc1 _ s3 p3 l3 c3 q3 k3 d3 kW hp3).mono ?_;rintro e w5 ⟨rfl,g5⟩
  replace HL:=H3c.keep HL g5
  replace HQ:=H3c.keep HQ g5
  replace kW:=Kp.trans kW g5
  replace hp3:=hp3.kp g5
  clear g5 hc1
  go_wp2_with fail
  refine (hG _ kW).mono ?_;rintro e w6 ⟨s4,p4,l4,c4,q4,k4,d4,rfl,g6⟩
  go_wp2_with fail
  replace HL:=H3c.keep HL g6
  replace HQ:=H3c.keep HQ g6
  replace kW:=Kp.trans kW g6
  replace hp3:=hp3.kp g6
  have hlL:=HL.lt
  have nb3:NB p3 q3 w6.heap.size:=hp3.nbNew (Nat.le_refl _)
  replace HL:=H3c.keep HL ((Kp.refl w6).alloc (.cells #[.bool s4,.slice p4 l4 c4,.slice q4 k4 d4] 32))
  replace HQ:=H3c.keep HQ ((Kp.refl w6).alloc (.cells #[.bool s4,.slice p4 l4 c4,.slice q4 k4 d4] 32))
  have HH:=H3c.new w6 (.bool s4) (.slice p4 l4 c4) (.slice q4 k4 d4) 32
  replace hp3:=hp3.kp ((Kp.refl w6).alloc (.cells #[.bool s4,.slice p4 l4 c4,.slice q4 k4 d4] 32))
  replace kW:=kW.alloc (.cells #[.bool s4,.slice p4 l4 c4,.slice q4 k4 d4] 32)
  clear g6 hG
  generalize w6.alloc (.cells #[.bool s4,.slice p4 l4 c4,.slice q4 k4 d4] 32) = W7 at HL HQ HH kW hp3 ⊢
  generalize w6.heap.size = bH at HH hlL nb3 ⊢
  refine (hF2 _).mono ?_;rintro e w' ⟨rfl,hw'⟩;obtain rfl:=hw'.symm;clear hw'
  go_wp2_with fail
  refine (hB2 _ kW).mono ?_;rintro e w8 ⟨s5,p5,l5,c5,q5,k5,d5,rfl,hp5,g8⟩
  have hl2:bH < W7.heap.size:=HH.lt
  replace HQ:=H3c.keep HQ g8
  replace HL:=H3c.keep HL g8
  replace HH:=H3c.keep HH g8
  replace kW:=Kp.trans kW g8
  replace hp3:=hp3.kp g8
  obtain ⟨q0,q1,q2',qz0,qz1,qz2⟩:=id HQ
  obtain ⟨m0,m1,m2,z0,z1,z2⟩:=id HH
  have nHQ:bH≠w.heap.size:=by omega
  have nQH:w.heap.size≠bH:=by omega
  have nHL:bH≠bL:=by omega
  have nLH:bL≠bH:=by omega
  go_wp2_with fail
  replace HH:=H3c.put HH (.bool s5) (.slice p5 l5 c5) (.slice q5 k5 d5)
  replace HQ:=(H3c.far1 (H3c.far1 (H3c.far1 HQ ⟨bH,0,none⟩ nHQ (.bool s5)) ⟨bH,1,none⟩ nHQ (.slice p5 l5 c5)) ⟨bH,2,none⟩ nHQ (.slice q5 k5 d5))
  replace HL:=(H3c.far1 (H3c.far1 (H3c.far1 HL ⟨bH,0,none⟩ nHL (.bool s5)) ⟨bH,1,none⟩ nHL (.slice p5 l5 c5)) ⟨bH,2,none⟩ nHL (.slice q5 k5 d5))
  replace kW:Kp w ((((w8).setCell ⟨bH,0,none⟩ (.bool s5)).setCell ⟨bH,1,none⟩ (.slice p5 l5 c5)).setCell ⟨bH,2,none⟩ (.slice q5 k5 d5)):=(((kW).setCell (by simp <;> omega) _).setCell (by simp <;> omega) _).setCell (by simp <;> omega) _
  replace hp5:=XP.mono ((XP.set (XP.set (XP.set hp5 (x:=⟨bH,0,none⟩) hl2 (.bool s5)) (x:=⟨bH,1,none⟩) hl2 (.slice p5 l5 c5)) (x:=⟨bH,2,none⟩) hl2 (.slice q5 k5 d5))) (Nat.zero_le _)
  replace hp3:=(XP.setNe (XP.setNe (XP.setNe hp3 (x:=⟨bH,0,none⟩) nb3 (.bool s5)) (x:=⟨bH,1,none⟩) nb3 (.slice p5 l5 c5)) (x:=⟨bH,2,none⟩) nb3 (.slice q5 k5 d5))
  generalize (((w8).setCell ⟨bH,0,none⟩ (.bool s5)).setCell ⟨bH,1,none⟩ (.slice p5 l5 c5)).setCell ⟨bH,2,none⟩ (.slice q5 k5 d5) = W9 at HL HQ HH kW hp3 hp5 ⊢
  clear q0 q1 q2' qz0 qz1 qz2 m0 m1 m2 z0 z1 z2 g8 hB2 hF2 hl2
  refine (hc2 _ s5 p5 l5 c5 q5 k5 d5 kW hp5).mono ?_;rintro e w9 ⟨rfl,g9⟩
  replace HL:=H3c.keep HL g9
  replace HQ:=H3c.keep HQ g9
  replace HH:=H3c.keep HH g9
  replace kW:=Kp.trans kW g9
  replace hp3:=hp3.kp g9
  replace hp5:=hp5.kp g9
  clear g9 hc2
  obtain ⟨q0,q1,q2',qz0,qz1,qz2⟩:=id HQ
  obtain ⟨m0,m1,m2,z0,z1,z2⟩:=id HL
  obtain ⟨h0,h1,h2,y0,y1,y2⟩:=id HH
  go_wp2_with fail
  have xw0:=q0
  have dw0:w9.drew.cell? ⟨w.heap.size,0,none⟩ = some (.bool s):=q0
  have xw1:=q1
  have dw1:w9.drew.cell? ⟨w.heap.size,1,none⟩ = some (.slice p l c):=q1
  have xw2:=q2'
  have dw2:w9.drew.cell? ⟨w.heap.size,2,none⟩ = some (.slice q k d):=q2'
  have xw3:=m0
  have dw3:w9.drew.cell? ⟨bL,0,none⟩ = some (.bool s3):=m0
  have xw4:=m1
  have dw4:w9.drew.cell? ⟨bL,1,none⟩ = some (.slice p3 l3 c3):=m1
  have xw5:=m2
  have dw5:w9.drew.cell? ⟨bL,2,none⟩ = some (.slice q3 k3 d3):=m2
  have xw6:=h0
  have dw6:w9.drew.cell? ⟨bH,0,none⟩ = some (.bool s5):=h0
  have xw7:=h1
  have dw7:w9.drew.cell? ⟨bH,1,none⟩ = some (.slice p5 l5 c5):=h1
  have xw8:=h2
  have dw8:w9.drew.cell? ⟨bH,2,none⟩ = some (.slice q5 k5 d5):=h2
  go_region_held3 (fun w'=>w'.cell? ⟨w.heap.size,0,none⟩ = some (.bool s)∧w'.cell? ⟨w.heap.size,1,none⟩ = some (.slice p l c)∧w'.cell? ⟨w.heap.size,2,none⟩ = some (.slice q k d)∧w'.cell? ⟨bL,0,none⟩ = some (.bool s3)∧w'.cell? ⟨bL,1,none⟩ = some (.slice p3 l3 c3)∧w'.cell? ⟨bL,2,none⟩ = some (.slice q3 k3 d3)∧w'.cell? ⟨bH,0,none⟩ = some (.bool s5)∧w'.cell? ⟨bH,1,none⟩ = some (.slice p5 l5 c5)∧w'.cell? ⟨bH,2,none⟩ = some (.slice q5 k5 d5)) (first | (with_reducible exact ⟨xw0,xw1,xw2,xw3,xw4,xw5,xw6,xw7,xw8⟩) | (with_reducible exact ⟨dw0,dw1,dw2,dw3,dw4,dw5,dw6,dw7,dw8⟩) | (with_reducible exact ⟨aw0,aw1,aw2,aw3,aw4,aw5,aw6,aw7,aw8⟩) | (with_reducible exact ⟨bw0,bw1,bw2,bw3,bw4,bw5,bw6,bw7,bw8⟩) | (with_reducible exact ⟨cw0,cw1,cw2,cw3,cw4,cw5,cw6,cw7,cw8⟩)) (first | (go_at_call_of 33 (Value.bool s3);refine (hs1 _ s3 p3 l3 c3 q3 k3 d3 ?q0 ?q1).mono ?_;(case q0=>exact kW.drew);(case q1=>exact hp3.kp (Kp.drew (Kp.refl _)));rintro e wl ⟨s6,p6,l6,c6,q6,k6,d6,rfl,hp6,gl⟩;have kl:Kp w9 wl:=Kp.trans (Kp.drew (Kp.refl _)) gl;have aw0:=kkeep kl xw0;have aw1:=kkeep kl xw1;have aw2:=kkeep kl xw2;have aw3:=kkeep kl xw3;have aw4:=kkeep kl xw4;have aw5:=kkeep kl xw5;have aw6:=kkeep kl xw6;have aw7:=kkeep kl xw7;have aw8:=kkeep kl xw8) | (go_at_call_of 33 (Value.bool s5);refine (hs2 _ s5 p5 l5 c5 q5 k5 d5 (kW.trans kl) (hp5.kp kl)).mono ?_;rintro e wm ⟨s7,p7,l7,c7,q7,k7,d7,rfl,hp7,gm⟩;have km:Kp w9 wm:=Kp.trans kl gm;have hp6m:=hp6.kp gm;have bw0:=kkeep km xw0;have bw1:=kkeep km xw1;have bw2:=kkeep km xw2;have bw3:=kkeep km xw3;have bw4:=kkeep km xw4;have bw5:=kkeep km xw5;have bw6:=kkeep km xw6;have bw7:=kkeep km xw7;have bw8:=kkeep km xw8) | (go_at_call 31;refine (hcc _ s6 p6 l6 c6 q6 k6 d6 s7 p7 l7 c7 q7 k7 d7 hp6m hp7).mono ?_;rintro e wh ⟨rfl,gh⟩;have kh:Kp w9 wh:=Kp.trans km gh;have cw0:=kkeep kh xw0;have cw1:=kkeep kh xw1;have cw2:=kkeep kh xw2;have cw3:=kkeep kh xw3;have cw4:=kkeep kh xw4;have cw5:=kkeep kh xw5;have cw6:=kkeep kh xw6;have cw7:=kkeep kh xw7;have cw8:=kkeep kh xw8))
  go_wp2
  exact bodyPost_ret (v:=.bool true) (by simp [results,Tryz.results12,go_sem]) rfl ⟨rfl,(Kp.trans kW kh)⟩
end Go.Proofs.YtoibnopiinclaaaGreatDoor
