import Derived.Test.YtaidnpjgkkdloaaGreatDoorKIYd
set_option maxHeartbeats 2000000
set_option maxRecDepth 20000
namespace Go.Proofs.YtaidnpjgkkdloaaGreatDoor
open Go.RowKit

set_option linter.unusedVariables false
def infZ (L:Int):Int:=if L = 9218868437227405312 then 1 else if L = -9218868437227405312 then -1 else 0
def vF (L:Int):Int:=if L = 9218868437227405312∨L = -9218868437227405312 then 0 else vZ L
theorem bnd9_ (K:Nat) (hK:K = 1074) (L:Int) (h:BdZ L) (w:World):Calls Tryz.prog 53 #[.int .u64 (pI L)] w fun e w'=>∃ s p l c q k d,e = .returned (.agg #[.int .i64 (infZ L),.bool s,.slice p l c,.slice q k d])∧XP w.heap.size w' s p l c q k d (vF L) (2 ^ K) 1500∧Kp w w':=by
  have hb:=h
  unfold BdZ at h
  have g:=bound_ (decide (L < 0)) L.natAbs (by omega) (pw_ne L hb) w
  refine g.mono ?_
  rintro e w' ⟨s,p,l,c,q,k,d,rfl,hp,g⟩
  have e1:infS (decide (L < 0)) L.natAbs = infZ L:=by
    unfold infS infZ
    by_cases c1:L = 9218868437227405312
    · rw [if_pos (by omega),if_pos c1,decide_eq_false (by omega)];rfl
    · by_cases c2:L = -9218868437227405312
      · rw [if_pos (by omega),if_neg c1,if_pos c2,decide_eq_true (by omega)];rfl
      · rw [if_neg (by omega),if_neg c1,if_neg c2]
  have e2:Iv (fN (decide (L < 0)) L.natAbs) (fM L.natAbs) = vF L:=by
    unfold fN fM vF
    by_cases c1:L = 9218868437227405312∨L = -9218868437227405312
    · rw [if_pos (by omega),if_pos (by omega),if_pos c1]
      have:=vZ_zero
      exact this
    · rw [if_neg (by omega),if_neg (by omega),if_neg c1];rfl
  have hx:=hp.xp K hK
  rw [e2] at hx
  rw [e1]
  exact ⟨s,p,l,c,q,k,d,rfl,hx,g⟩
def cB (K:Nat) (L V:Int) (C:Nat):Int:=if L = 9218868437227405312 then 1 else if L = -9218868437227405312 then -1 else cmI (vZ L * (C:Int)) (V * ((2 ^ K:Nat):Int))
theorem cmpB_ (K:Nat) (L V:Int) (C N:Nat) (hN:N≤200000) s p l c q k d s2 p2 l2 c2 q2 k2 d2 (B1 B2:Nat) (w:World) (h1:XP B1 w s p l c q k d (vF L) (2 ^ K) 1500) (h2:XP B2 w s2 p2 l2 c2 q2 k2 d2 V C N):Calls Tryz.prog 54 #[.agg #[.int .i64 (infZ L),.bool s,.slice p l c,.slice q k d],.agg #[.int .i64 0,.bool s2,.slice p2 l2 c2,.slice q2 k2 d2]] w fun e w'=>e = .returned (.int .i64 (cB K L V C))∧Kp w w':=by
  unfold infZ cB
  by_cases cI1:L = 9218868437227405312
  · rw [if_pos cI1,if_pos cI1]
    exact endG_ 1 0 s p l c q k d s2 p2 l2 c2 q2 k2 d2 (by decide) (by decide) w
  · by_cases cI2:L = -9218868437227405312
    · rw [if_neg cI1,if_pos cI2,if_neg cI1,if_pos cI2]
      exact endL_ (-1) 0 s p l c q k d s2 p2 l2 c2 q2 k2 d2 (by decide) (by decide) w
    · rw [if_neg cI1,if_neg cI2,if_neg cI1,if_neg cI2]
      have ev:vF L = vZ L:=by unfold vF;rw [if_neg (by omega)]
      rw [ev] at h1
      exact endZ_ _ s p l c q k d s2 p2 l2 c2 q2 k2 d2 w (fun W g=>xcmp_ B1 B2 (vZ L) V (2 ^ K) C 1500 N (by omega) hN s p l c q k d s2 p2 l2 c2 q2 k2 d2 W (h1.kp g) (h2.kp g))
theorem belowM_ (X i1 Z1:Int) s2 p2 l2 c2 q2 k2 d2 (PB:Int→World→Bool→Option Addr→Nat→Nat→Option Addr→Nat→Nat→Prop) (kpB:∀ j W W' s p l c q k d,PB j W s p l c q k d→Kp W W'→PB j W' s p l c q k d) (w:World) (hb1:∀ W:World,Kp w W→Calls Tryz.prog 53 #[.int .u64 X] W fun e w'=>∃ s p l c q k d,e = .returned (.agg #[.int .i64 i1,.bool s,.slice p l c,.slice q k d])∧PB 1 w' s p l c q k d∧Kp W w') (hc1:∀ (W:World) s p l c q k d,Kp w W→PB 1 W s p l c q k d→Calls Tryz.prog 54 #[.agg #[.int .i64 i1,.bool s,.slice p l c,.slice q k d],.agg #[.int .i64 0,.bool s2,.slice p2 l2 c2,.slice q2 k2 d2]] W fun e w'=>e = .returned (.int .i64 Z1)∧Kp W w') (t1:¬ (0 < Z1)) (t2:(X == 9218868437227405311) = true):Calls Tryz.prog 24 #[.int .u64 X,.agg #[.bool s2,.slice p2 l2 c2,.slice q2 k2 d2]] w fun e w'=>e = .returned (.bool true)∧Kp w w':=by
  have k0:=(Kp.refl w).alloc (.cells #[.bool s2,.slice p2 l2 c2,.slice q2 k2 d2] 27)
  have x0:=H3c.new w (.bool s2) (.slice p2 l2 c2) (.slice q2 k2 d2) 27
  go_enter Tryz.func24,Tryz.ntmps24
  go_upto_region 2 with (first | (go_at_call 53;refine (hb1 _ k0).mono ?_;rintro e w1 ⟨s,p,l,c,q,k,d,rfl,hp1,g1⟩;have k1:=Kp.trans k0 g1;have x1:=H3c.keep x0 g1;clear g1))
  have b1:=H4c.new w1 (.int .i64 i1) (.bool s) (.slice p l c) (.slice q k d) 70
  have x2:=H3c.keep x1 ((Kp.refl w1).alloc (.cells #[.int .i64 i1,.bool s,.slice p l c,.slice q k d] 70))
  have kA:=k1.alloc (.cells #[.int .i64 i1,.bool s,.slice p l c,.slice q k d] 70)
  have p2':=kpB _ _ _ _ _ _ _ _ _ _ hp1 ((Kp.refl w1).alloc (.cells #[.int .i64 i1,.bool s,.slice p l c,.slice q k d] 70))
  clear x1 k1 hp1 x0 k0
  generalize hW:w1.alloc (.cells #[.int .i64 i1,.bool s,.slice p l c,.slice q k d] 70) = W1 at b1 x2 kA p2' ⊢
  generalize w1.heap.size = bb at b1 ⊢
  clear hW hb1
  obtain ⟨x20,x21,x22,x23,x24,x25⟩:=id x2
  go_upto_region 3 with fail
  have e1:=H4c.new W1 (.int .i64 0) (.bool s2) (.slice p2 l2 c2) (.slice q2 k2 d2) 70
  have b2:=H4c.keep b1 ((Kp.refl W1).alloc (.cells #[.int .i64 0,.bool s2,.slice p2 l2 c2,.slice q2 k2 d2] 70))
  have kB:=kA.alloc (.cells #[.int .i64 0,.bool s2,.slice p2 l2 c2,.slice q2 k2 d2] 70)
  have p3':=kpB _ _ _ _ _ _ _ _ _ _ p2' ((Kp.refl W1).alloc (.cells #[.int .i64 0,.bool s2,.slice p2 l2 c2,.slice q2 k2 d2] 70))
  clear x20 x21 x22 x23 x24 x25 x2 b1 kA p2'
  generalize hW:W1.alloc (.cells #[.int .i64 0,.bool s2,.slice p2 l2 c2,.slice q2 k2 d2] 70) = W2 at e1 b2 kB p3' ⊢
  generalize W1.heap.size = bq at e1 ⊢
  clear hW
  obtain ⟨y0,y1,y2,y3,y4,y5,y6,y7⟩:=id b2
  obtain ⟨z0,z1,z2,z3,z4,z5,z6,z7⟩:=id e1
  go_wp2_with (first | (go_at_call 54;refine (hc1 _ _ _ _ _ _ _ _ kB p3').mono ?_;rintro e w3 ⟨rfl,g3⟩;have kC:=Kp.trans kB g3;have e2:=H4c.keep e1 g3))
  exact bodyPost_ret (v:=.bool true) (by simp [results,Tryz.results24,go_sem]) rfl ⟨rfl,kC⟩
theorem belowN_ (X i1 Z1 i2 Z2:Int) s2 p2 l2 c2 q2 k2 d2 (PB:Int→World→Bool→Option Addr→Nat→Nat→Option Addr→Nat→Nat→Prop) (kpB:∀ j W W' s p l c q k d,PB j W s p l c q k d→Kp W W'→PB j W' s p l c q k d) (w:World) (hb1:∀ W:World,Kp w W→Calls Tryz.prog 53 #[.int .u64 X] W fun e w'=>∃ s p l c q k d,e = .returned (.agg #[.int .i64 i1,.bool s,.slice p l c,.slice q k d])∧PB 1 w' s p l c q k d∧Kp W w') (hc1:∀ (W:World) s p l c q k d,Kp w W→PB 1 W s p l c q k d→Calls Tryz.prog 54 #[.agg #[.int .i64 i1,.bool s,.slice p l c,.slice q k d],.agg #[.int .i64 0,.bool s2,.slice p2 l2 c2,.slice q2 k2 d2]] W fun e w'=>e = .returned (.int .i64 Z1)∧Kp W w') (t1:¬ (0 < Z1)) (t2:(X == 9218868437227405311) = false) (t3:(X == 18442240474082181120) = true) (hb2:∀ W:World,Kp w W→Calls Tryz.prog 53 #[.int .u64 18442240474082181119] W fun e w'=>∃ s p l c q k d,e = .returned (.agg #[.int .i64 i2,.bool s,.slice p l c,.slice q k d])∧PB 2 w' s p l c q k d∧Kp W w') (hc2:∀ (W:World) s p l c q k d,Kp w W→PB 2 W s p l c q k d→Calls Tryz.prog 54 #[.agg #[.int .i64 i2,.bool s,.slice p l c,.slice q k d],.agg #[.int .i64 0,.bool s2,.slice p2 l2 c2,.slice q2 k2 d2]] W fun e w'=>e = .returned (.int .i64 Z2)∧Kp W w') (tz:0 < Z2):Calls Tryz.prog 24 #[.int .u64 X,.agg #[.bool s2,.slice p2 l2 c2,.slice q2 k2 d2]] w fun e w'=>e = .returned (.bool true)∧Kp w w':=by
  have k0:=(Kp.refl w).alloc (.cells #[.bool s2,.slice p2 l2 c2,.slice q2 k2 d2] 27)
  have x0:=H3c.new w (.bool s2) (.slice p2 l2 c2) (.slice q2 k2 d2) 27
  go_enter Tryz.func24,Tryz.ntmps24
  go_upto_region 2 with (first | (go_at_call 53;refine (hb1 _ k0).mono ?_;rintro e w1 ⟨s,p,l,c,q,k,d,rfl,hp1,g1⟩;have k1:=Kp.trans k0 g1;have x1:=H3c.keep x0 g1;clear g1))
  have b1:=H4c.new w1 (.int .i64 i1) (.bool s) (.slice p l c) (.slice q k d) 70
  have x2:=H3c.keep x1 ((Kp.refl w1).alloc (.cells #[.int .i64 i1,.bool s,.slice p l c,.slice q k d] 70))
  have kA:=k1.alloc (.cells #[.int .i64 i1,.bool s,.slice p l c,.slice q k d] 70)
  have p2':=kpB _ _ _ _ _ _ _ _ _ _ hp1 ((Kp.refl w1).alloc (.cells #[.int .i64 i1,.bool s,.slice p l c,.slice q k d] 70))
  clear x1 k1 hp1 x0 k0
  generalize hW:w1.alloc (.cells #[.int .i64 i1,.bool s,.slice p l c,.slice q k d] 70) = W1 at b1 x2 kA p2' ⊢
  generalize w1.heap.size = bb at b1 ⊢
  clear hW hb1
  obtain ⟨x20,x21,x22,x23,x24,x25⟩:=id x2
  go_upto_region 3 with fail
  have e1:=H4c.new W1 (.int .i64 0) (.bool s2) (.slice p2 l2 c2) (.slice q2 k2 d2) 70
  have b2:=H4c.keep b1 ((Kp.refl W1).alloc (.cells #[.int .i64 0,.bool s2,.slice p2 l2 c2,.slice q2 k2 d2] 70))
  have kB:=kA.alloc (.cells #[.int .i64 0,.bool s2,.slice p2 l2 c2,.slice q2 k2 d2] 70)
  have p3':=kpB _ _ _ _ _ _ _ _ _ _ p2' ((Kp.refl W1).alloc (.cells #[.int .i64 0,.bool s2,.slice p2 l2 c2,.slice q2 k2 d2] 70))
  clear x20 x21 x22 x23 x24 x25 x2 b1 kA p2'
  generalize hW:W1.alloc (.cells #[.int .i64 0,.bool s2,.slice p2 l2 c2,.slice q2 k2 d2] 70) = W2 at e1 b2 kB p3' ⊢
  generalize W1.heap.size = bq at e1 ⊢
  clear hW
  obtain ⟨y0,y1,y2,y3,y4,y5,y6,y7⟩:=id b2
  obtain ⟨z0,z1,z2,z3,z4,z5,z6,z7⟩:=id e1
  go_upto_region 13 with (first | (go_at_call 54;refine (hc1 _ _ _ _ _ _ _ _ kB p3').mono ?_;rintro e w3 ⟨rfl,g3⟩;have kC:=Kp.trans kB g3;have e2:=H4c.keep e1 g3))
  clear y0 y1 y2 y3 y4 y5 y6 y7 z0 z1 z2 z3 z4 z5 z6 z7 p3' b2
  obtain ⟨z0,z1,z2,z3,_,_,_,_⟩:=id e2
  obtain ⟨dz0,dz1,dz2,dz3,_,_,_,_⟩:=H4c.keep e2 (Kp.refl _).drew
  go_region_held3 (fun w'=>w'.cell? ⟨bq,0,none⟩ = some (.int .i64 0)∧w'.cell? ⟨bq,1,none⟩ = some (.bool s2)∧w'.cell? ⟨bq,2,none⟩ = some (.slice p2 l2 c2)∧w'.cell? ⟨bq,3,none⟩ = some (.slice q2 k2 d2)) (first | with_reducible exact ⟨z0,z1,z2,z3⟩ | with_reducible exact ⟨dz0,dz1,dz2,dz3⟩ | with_reducible exact ⟨u0,u1,u2,u3⟩ | with_reducible exact ⟨v0,v1,v2,v3⟩) (first | (go_at_call 53;refine (hb2 _ kC.drew).mono ?_;rintro e w5 ⟨s5,p5,l5,c5,q5,k5,d5,rfl,hp5,g5⟩;have kk5:=Kp.trans kC.drew g5;have e5:=H4c.keep (H4c.keep e2 (Kp.refl _).drew) g5;obtain ⟨u0,u1,u2,u3,_,_,_,_⟩:=id e5) | (go_at_call 54;refine (hc2 _ _ _ _ _ _ _ _ kk5 hp5).mono ?_;rintro e w6 ⟨rfl,g6⟩;have kk6:=Kp.trans kk5 g6;obtain ⟨v0,v1,v2,v3,_,_,_,_⟩:=H4c.keep e5 g6))
  go_wp2
  exact bodyPost_ret (v:=.bool true) (by simp [results,Tryz.results24,go_sem]) rfl ⟨rfl,kk6⟩
theorem belowG_ (X i1 Z1 i2 Z2 NX X1:Int) s2 p2 l2 c2 q2 k2 d2 (PB:Int→World→Bool→Option Addr→Nat→Nat→Option Addr→Nat→Nat→Prop) (kpB:∀ j W W' s p l c q k d,PB j W s p l c q k d→Kp W W'→PB j W' s p l c q k d) (w:World) (hb1:∀ W:World,Kp w W→Calls Tryz.prog 53 #[.int .u64 X] W fun e w'=>∃ s p l c q k d,e = .returned (.agg #[.int .i64 i1,.bool s,.slice p l c,.slice q k d])∧PB 1 w' s p l c q k d∧Kp W w') (hc1:∀ (W:World) s p l c q k d,Kp w W→PB 1 W s p l c q k d→Calls Tryz.prog 54 #[.agg #[.int .i64 i1,.bool s,.slice p l c,.slice q k d],.agg #[.int .i64 0,.bool s2,.slice p2 l2 c2,.slice q2 k2 d2]] W fun e w'=>e = .returned (.int .i64 Z1)∧Kp W w') (t1:¬ (0 < Z1)) (t2:(X == 9218868437227405311) = false) (t3:(X == 18442240474082181120) = false) (t4:9223372036854775808 < X) (t5:IntKind.u64.wrap (X - 1) = X1) (hpl:∀ w:World,Calls Tryz.prog 55 #[.int .u64 X1] w fun e w'=>e = .returned (.int .u64 NX)∧w' = w) (hb2:∀ W:World,Kp w W→Calls Tryz.prog 53 #[.int .u64 NX] W fun e w'=>∃ s p l c q k d,e = .returned (.agg #[.int .i64 i2,.bool s,.slice p l c,.slice q k d])∧PB 2 w' s p l c q k d∧Kp W w') (hc2:∀ (W:World) s p l c q k d,Kp w W→PB 2 W s p l c q k d→Calls Tryz.prog 54 #[.agg #[.int .i64 i2,.bool s,.slice p l c,.slice q k d],.agg #[.int .i64 0,.bool s2,.slice p2 l2 c2,.slice q2 k2 d2]] W fun e w'=>e = .returned (.int .i64 Z2)∧Kp W w') (tz:0 < Z2):Calls Tryz.prog 24 #[.int .u64 X,.agg #[.bool s2,.slice p2 l2 c2,.slice q2 k2 d2]] w fun e w'=>e = .returned (.bool true)∧Kp w w':=by
  have k0:=(Kp.refl w).alloc (.cells #[.bool s2,.slice p2 l2 c2,.slice q2 k2 d2] 27)
  have x0:=H3c.new w (.bool s2) (.slice p2 l2 c2) (.slice q2 k2 d2) 27
  go_enter Tryz.func24,Tryz.ntmps24
  go_upto_region 2 with (first | (go_at_call 53;refine (hb1 _ k0).mono ?_;rintro e w1 ⟨s,p,l,c,q,k,d,rfl,hp1,g1⟩;have k1:=Kp.trans k0 g1;have x1:=H3c.keep x0 g1;clear g1))
  have b1:=H4c.new w1 (.int .i64 i1) (.bool s) (.slice p l c) (.slice q k d) 70
  have x2:=H3c.keep x1 ((Kp.refl w1).alloc (.cells #[.int .i64 i1,.bool s,.slice p l c,.slice q k d] 70))
  have kA:=k1.alloc (.cells #[.int .i64 i1,.bool s,.slice p l c,.slice q k d] 70)
  have p2':=kpB _ _ _ _ _ _ _ _ _ _ hp1 ((Kp.refl w1).alloc (.cells #[.int .i64 i1,.bool s,.slice p l c,.slice q k d] 70))
  clear x1 k1 hp1 x0 k0
  generalize hW:w1.alloc (.cells #[.int .i64 i1,.bool s,.slice p l c,.slice q k d] 70) = W1 at b1 x2 kA p2' ⊢
  generalize w1.heap.size = bb at b1 ⊢
  clear hW hb1
  obtain ⟨x20,x21,x22,x23,x24,x25⟩:=id x2
  go_upto_region 3 with fail
  have e1:=H4c.new W1 (.int .i64 0) (.bool s2) (.slice p2 l2 c2) (.slice q2 k2 d2) 70
  have b2:=H4c.keep b1 ((Kp.refl W1).alloc (.cells #[.int .i64 0,.bool s2,.slice p2 l2 c2,.slice q2 k2 d2] 70))
  have kB:=kA.alloc (.cells #[.int .i64 0,.bool s2,.slice p2 l2 c2,.slice q2 k2 d2] 70)
  have p3':=kpB _ _ _ _ _ _ _ _ _ _ p2' ((Kp.refl W1).alloc (.cells #[.int .i64 0,.bool s2,.slice p2 l2 c2,.slice q2 k2 d2] 70))
  clear x20 x21 x22 x23 x24 x25 x2 b1 kA p2'
  generalize hW:W1.alloc (.cells #[.int .i64 0,.bool s2,.slice p2 l2 c2,.slice q2 k2 d2] 70) = W2 at e1 b2 kB p3' ⊢
  generalize W1.heap.size = bq at e1 ⊢
  clear hW
  obtain ⟨y0,y1,y2,y3,y4,y5,y6,y7⟩:=id b2
  obtain ⟨z0,z1,z2,z3,z4,z5,z6,z7⟩:=id e1
  go_upto_region 13 with (first | (go_at_call 54;refine (hc1 _ _ _ _ _ _ _ _ kB p3').mono ?_;rintro e w3 ⟨rfl,g3⟩;have kC:=Kp.trans kB g3;have e2:=H4c.keep e1 g3) | (go_at_call 55;refine (hpl _).mono ?_;rintro e w' ⟨rfl,hw'⟩;obtain rfl:=hw'.symm;clear hw'))
  clear y0 y1 y2 y3 y4 y5 y6 y7 z0 z1 z2 z3 z4 z5 z6 z7 p3' b2
  obtain ⟨z0,z1,z2,z3,_,_,_,_⟩:=id e2
  obtain ⟨dz0,dz1,dz2,dz3,_,_,_,_⟩:=H4c.keep e2 (Kp.refl _).drew
  go_region_held3 (fun w'=>w'.cell? ⟨bq,0,none⟩ = some (.int .i64 0)∧w'.cell? ⟨bq,1,none⟩ = some (.bool s2)∧w'.cell? ⟨bq,2,none⟩ = some (.slice p2 l2 c2)∧w'.cell? ⟨bq,3,none⟩ = some (.slice q2 k2 d2)) (first | with_reducible exact ⟨z0,z1,z2,z3⟩ | with_reducible exact ⟨dz0,dz1,dz2,dz3⟩ | with_reducible exact ⟨u0,u1,u2,u3⟩ | with_reducible exact ⟨v0,v1,v2,v3⟩) (first | (go_at_call 53;refine (hb2 _ kC.drew).mono ?_;rintro e w5 ⟨s5,p5,l5,c5,q5,k5,d5,rfl,hp5,g5⟩;have kk5:=Kp.trans kC.drew g5;have e5:=H4c.keep (H4c.keep e2 (Kp.refl _).drew) g5;obtain ⟨u0,u1,u2,u3,_,_,_,_⟩:=id e5) | (go_at_call 54;refine (hc2 _ _ _ _ _ _ _ _ kk5 hp5).mono ?_;rintro e w6 ⟨rfl,g6⟩;have kk6:=Kp.trans kk5 g6;obtain ⟨v0,v1,v2,v3,_,_,_,_⟩:=H4c.keep e5 g6))
  go_wp2
  exact bodyPost_ret (v:=.bool true) (by simp [results,Tryz.results24,go_sem]) rfl ⟨rfl,kk6⟩
theorem belowP_ (X i1 Z1 i2 Z2 NX:Int) s2 p2 l2 c2 q2 k2 d2 (PB:Int→World→Bool→Option Addr→Nat→Nat→Option Addr→Nat→Nat→Prop) (kpB:∀ j W W' s p l c q k d,PB j W s p l c q k d→Kp W W'→PB j W' s p l c q k d) (w:World) (hb1:∀ W:World,Kp w W→Calls Tryz.prog 53 #[.int .u64 X] W fun e w'=>∃ s p l c q k d,e = .returned (.agg #[.int .i64 i1,.bool s,.slice p l c,.slice q k d])∧PB 1 w' s p l c q k d∧Kp W w') (hc1:∀ (W:World) s p l c q k d,Kp w W→PB 1 W s p l c q k d→Calls Tryz.prog 54 #[.agg #[.int .i64 i1,.bool s,.slice p l c,.slice q k d],.agg #[.int .i64 0,.bool s2,.slice p2 l2 c2,.slice q2 k2 d2]] W fun e w'=>e = .returned (.int .i64 Z1)∧Kp W w') (t1:¬ (0 < Z1)) (t2:(X == 9218868437227405311) = false) (t3:(X == 18442240474082181120) = false) (t4:¬ (9223372036854775808 < X)) (t5:IntKind.u64.wrap (X + 1) = NX) (hb2:∀ W:World,Kp w W→Calls Tryz.prog 53 #[.int .u64 NX] W fun e w'=>∃ s p l c q k d,e = .returned (.agg #[.int .i64 i2,.bool s,.slice p l c,.slice q k d])∧PB 2 w' s p l c q k d∧Kp W w') (hc2:∀ (W:World) s p l c q k d,Kp w W→PB 2 W s p l c q k d→Calls Tryz.prog 54 #[.agg #[.int .i64 i2,.bool s,.slice p l c,.slice q k d],.agg #[.int .i64 0,.bool s2,.slice p2 l2 c2,.slice q2 k2 d2]] W fun e w'=>e = .returned (.int .i64 Z2)∧Kp W w') (tz:0 < Z2):Calls Tryz.prog 24 #[.int .u64 X,.agg #[.bool s2,.slice p2 l2 c2,.slice q2 k2 d2]] w fun e w'=>e = .returned (.bool true)∧Kp w w':=by
  have k0:=(Kp.refl w).alloc (.cells #[.bool s2,.slice p2 l2 c2,.slice q2 k2 d2] 27)
  have x0:=H3c.new w (.bool s2) (.slice p2 l2 c2) (.slice q2 k2 d2) 27
  go_enter Tryz.func24,Tryz.ntmps24
  go_upto_region 2 with (first | (go_at_call 53;refine (hb1 _ k0).mono ?_;rintro e w1 ⟨s,p,l,c,q,k,d,rfl,hp1,g1⟩;have k1:=Kp.trans k0 g1;have x1:=H3c.keep x0 g1;clear g1))
  have b1:=H4c.new w1 (.int .i64 i1) (.bool s) (.slice p l c) (.slice q k d) 70
  have x2:=H3c.keep x1 ((Kp.refl w1).alloc (.cells #[.int .i64 i1,.bool s,.slice p l c,.slice q k d] 70))
  have kA:=k1.alloc (.cells #[.int .i64 i1,.bool s,.slice p l c,.slice q k d] 70)
  have p2':=kpB _ _ _ _ _ _ _ _ _ _ hp1 ((Kp.refl w1).alloc (.cells #[.int .i64 i1,.bool s,.slice p l c,.slice q k d] 70))
  clear x1 k1 hp1 x0 k0
  generalize hW:w1.alloc (.cells #[.int .i64 i1,.bool s,.slice p l c,.slice q k d] 70) = W1 at b1 x2 kA p2' ⊢
  generalize w1.heap.size = bb at b1 ⊢
  clear hW hb1
  obtain ⟨x20,x21,x22,x23,x24,x25⟩:=id x2
  go_upto_region 3 with fail
  have e1:=H4c.new W1 (.int .i64 0) (.bool s2) (.slice p2 l2 c2) (.slice q2 k2 d2) 70
  have b2:=H4c.keep b1 ((Kp.refl W1).alloc (.cells #[.int .i64 0,.bool s2,.slice p2 l2 c2,.slice q2 k2 d2] 70))
  have kB:=kA.alloc (.cells #[.int .i64 0,.bool s2,.slice p2 l2 c2,.slice q2 k2 d2] 70)
  have p3':=kpB _ _ _ _ _ _ _ _ _ _ p2' ((Kp.refl W1).alloc (.cells #[.int .i64 0,.bool s2,.slice p2 l2 c2,.slice q2 k2 d2] 70))
  clear x20 x21 x22 x23 x24 x25 x2 b1 kA p2'
  generalize hW:W1.alloc (.cells #[.int .i64 0,.bool s2,.slice p2 l2 c2,.slice q2 k2 d2] 70) = W2 at e1 b2 kB p3' ⊢
  generalize W1.heap.size = bq at e1 ⊢
  clear hW
  obtain ⟨y0,y1,y2,y3,y4,y5,y6,y7⟩:=id b2
  obtain ⟨z0,z1,z2,z3,z4,z5,z6,z7⟩:=id e1
  go_upto_region 13 with (first | (go_at_call 54;refine (hc1 _ _ _ _ _ _ _ _ kB p3').mono ?_;rintro e w3 ⟨rfl,g3⟩;have kC:=Kp.trans kB g3;have e2:=H4c.keep e1 g3))
  clear y0 y1 y2 y3 y4 y5 y6 y7 z0 z1 z2 z3 z4 z5 z6 z7 p3' b2
  obtain ⟨z0,z1,z2,z3,_,_,_,_⟩:=id e2
  obtain ⟨dz0,dz1,dz2,dz3,_,_,_,_⟩:=H4c.keep e2 (Kp.refl _).drew
  go_region_held3 (fun w'=>w'.cell? ⟨bq,0,none⟩ = some (.int .i64 0)∧w'.cell? ⟨bq,1,none⟩ = some (.bool s2)∧w'.cell? ⟨bq,2,none⟩ = some (.slice p2 l2 c2)∧w'.cell? ⟨bq,3,none⟩ = some (.slice q2 k2 d2)) (first | with_reducible exact ⟨z0,z1,z2,z3⟩ | with_reducible exact ⟨dz0,dz1,dz2,dz3⟩ | with_reducible exact ⟨u0,u1,u2,u3⟩ | with_reducible exact ⟨v0,v1,v2,v3⟩) (first | (go_at_call 53;refine (hb2 _ kC.drew).mono ?_;rintro e w5 ⟨s5,p5,l5,c5,q5,k5,d5,rfl,hp5,g5⟩;have kk5:=Kp.trans kC.drew g5;have e5:=H4c.keep (H4c.keep e2 (Kp.refl _).drew) g5;obtain ⟨u0,u1,u2,u3,_,_,_,_⟩:=id e5) | (go_at_call 54;refine (hc2 _ _ _ _ _ _ _ _ kk5 hp5).mono ?_;rintro e w6 ⟨rfl,g6⟩;have kk6:=Kp.trans kk5 g6;obtain ⟨v0,v1,v2,v3,_,_,_,_⟩:=H4c.keep e5 g6))
  go_wp2
  exact bodyPost_ret (v:=.bool true) (by simp [results,Tryz.results24,go_sem]) rfl ⟨rfl,kk6⟩
theorem valid9_ (L H:Int) (d:VdZ L H) (w:World):Calls Tryz.prog 23 #[.agg #[.int .u64 (pI L),.int .u64 (pI H)]] w fun e w'=>e = .returned (.bool true)∧Kp w w':=by
  have al:=abs_pw L d.lo
  have ah:=abs_pw H d.hi
  have g:=Fq.rvalid_ (decide (L < 0)) (decide (H < 0)) L.natAbs H.natAbs (by omega) (by omega) w
  have hv:Fq.vld (pw L) (pw H) = true:=by
    unfold Fq.vld
    rcases d with ⟨rfl,rfl⟩ | d'
    · decide
    · rw [snd_pw L H (by unfold BdZ;omega) (by unfold BdZ;omega),decide_eq_true (show L≤H∧L≠9218868437227405312∧H≠-9218868437227405312 by omega),decide_eq_false (pw_ne L (by unfold BdZ;omega)),decide_eq_false (pw_ne H (by unfold BdZ;omega))]
      simp
  rw [show Fq.vld (Fq.wD (decide (L < 0)) L.natAbs) (Fq.wD (decide (H < 0)) H.natAbs) = true from hv] at g
  exact g
theorem in9_ (a b:Nat) (w:World):Calls Tryz.prog 30 #[.agg #[.int .u64 ((a:Nat):Int),.int .u64 ((b:Nat):Int)]] w fun e w'=>e = .returned (.agg #[.float .f64 a,.float .f64 b])∧Kp w w':=by
  have h1:=Fq.ff64 a
  have h2:=Fq.ff64 b
  generalize (a:Int) = X at h1 ⊢
  generalize (b:Int) = Y at h2 ⊢
  go_enter Tryz.func30,Tryz.ntmps30
  go_wp2
  go_region_held3 (fun w'=>w'.cell? ⟨w.heap.size,0,none⟩ = some (.int .u64 X)∧w'.cell? ⟨w.heap.size,1,none⟩ = some (.int .u64 Y)) (simp [go_sem]) (fail)
  go_wp2
  exact bodyPost_ret (v:=.agg #[.float .f64 a,.float .f64 b]) (by simp [results,Tryz.results30,go_sem]) rfl ⟨rfl,(by repeat (with_reducible (first | assumption | exact Kp.refl _ | apply Kp.drew | apply Kp.alloc | apply Kp.drewN | (refine Kp.setCell ?_ (by first | omega | (simp <;> omega)) _) | (refine Kp.trans ?_ (by assumption)))))⟩
theorem out9_ (a b:Nat) (w:World):Calls Tryz.prog 22 #[.agg #[.float .f64 a,.float .f64 b]] w fun e w'=>e = .returned (.agg #[.int .u64 ((a:Nat):Int),.int .u64 ((b:Nat):Int)])∧Kp w w':=by
  have h1:=Fq.fb64 a
  have h2:=Fq.fb64 b
  generalize (a:Int) = X at h1 ⊢
  generalize (b:Int) = Y at h2 ⊢
  go_enter Tryz.func22,Tryz.ntmps22
  go_wp2
  go_region_held3 (fun w'=>w'.cell? ⟨w.heap.size,0,none⟩ = some (.float .f64 a)∧w'.cell? ⟨w.heap.size,1,none⟩ = some (.float .f64 b)) (simp [go_sem,World.cell?_alloc_past]) (fail)
  go_wp2
  exact bodyPost_ret (v:=.agg #[.int .u64 X,.int .u64 Y]) (by simp [results,Tryz.results22,go_sem]) rfl ⟨rfl,(by repeat (with_reducible (first | assumption | exact Kp.refl _ | apply Kp.drew | apply Kp.alloc | apply Kp.drewN | (refine Kp.setCell ?_ (by first | omega | (simp <;> omega)) _) | (refine Kp.trans ?_ (by assumption)))))⟩
theorem awakeA_ (w:World) (h:Calls Tryz.prog 8 #[.agg #[.float .f64 4591870180066957722,.float .f64 4591870180066957722],.agg #[.float .f64 4596373779694328218,.float .f64 4596373779694328218]] w fun e w'=>e = .returned (.agg #[.float .f64 4599075939470750515,.float .f64 4599075939470750516])∧Kp w w'):Calls Tryz.prog 4 #[] w fun e w'=>e = .returned (.bool true)∧Kp w w':=by
  have q1:=Fq.eqIn6 4599075939470750515 4599075939470750515
  have q2:=Fq.eqIn6 4599075939470750516 4599075939470750516
  rw [show (FloatKind.f64.format.order 4599075939470750515 4599075939470750515 == some Ordering.eq) = true from by decide +kernel] at q1
  rw [show (FloatKind.f64.format.order 4599075939470750516 4599075939470750516 == some Ordering.eq) = true from by decide +kernel] at q2
  go_enter Tryz.func4,Tryz.ntmps4
  go_wp2_with (first | (go_at_call 8;refine h.mono ?_;rintro e w1 ⟨rfl,g1⟩))
  exact bodyPost_ret (v:=.bool true) (by simp [results,Tryz.results4,go_sem]) rfl ⟨rfl,g1⟩
theorem awake6_ (w:World) (hT:TT w):Calls Tryz.prog 4 #[] w fun e w'=>e = .returned (.bool true)∧Kp w w':=by
  refine awakeA_ w ?_
  have h:=add9_ 4591870180066957722 4591870180066957722 4596373779694328218 4596373779694328218 _ _ _ _ (Rd.num 4591870180066957722 4591870180066957722 (by decide) (by decide) (by decide)) (Rd.num 4596373779694328218 4596373779694328218 (by decide) (by decide) (by decide)) w hT
  rw [show pw (aLo ((4591870180066957722:Nat):Int) ((4591870180066957722:Nat):Int) ((4596373779694328218:Nat):Int) ((4596373779694328218:Nat):Int)) = 4599075939470750515 from by decide +kernel,show pw (aHi ((4591870180066957722:Nat):Int) ((4591870180066957722:Nat):Int) ((4596373779694328218:Nat):Int) ((4596373779694328218:Nat):Int)) = 4599075939470750516 from by decide +kernel] at h
  exact h

set_option linter.unusedVariables false
theorem cB_le (K:Nat) (L V:Int) (C:Nat) (hL:L≠9218868437227405312) (h:-9218868437227405312 < L→vZ L * (C:Int)≤V * ((2 ^ K:Nat):Int)) (h2:-9218868437227405312≤L):¬ (0 < cB K L V C):=by
  unfold cB
  rw [if_neg hL]
  by_cases c:L = -9218868437227405312
  · rw [if_pos c];omega
  · rw [if_neg c]
    have:=h (by omega)
    unfold cmI
    split
    · omega
    · rw [if_neg (by omega)];omega
theorem cB_gt (K:Nat) (L V:Int) (C:Nat) (h1:-9218868437227405312 < L) (h2:L < 9218868437227405312) (h:V * ((2 ^ K:Nat):Int) < vZ L * (C:Int)):0 < cB K L V C:=by
  unfold cB
  rw [if_neg (by omega),if_neg (by omega)]
  unfold cmI
  rw [if_neg (by omega),if_pos h];omega
theorem pI_val (z:Int):pI z = if z < 0 then 9223372036854775808 + (z.natAbs:Int) else (z.natAbs:Int):=by
  unfold pI pw Fq.wD
  by_cases c:z < 0
  · rw [decide_eq_true c,if_pos c,if_pos rfl];omega
  · rw [decide_eq_false c,if_neg c,if_neg (by decide)]
theorem belowZ_ (K:Nat) (hK:K = 1074) (L V:Int) (C N:Nat) (hN:N≤200000) (hL:-9218868437227405312≤L∧L < 9218868437227405312) s2 p2 l2 c2 q2 k2 d2 (B2:Nat) (w:World) (h2:XP B2 w s2 p2 l2 c2 q2 k2 d2 V C N) (hA:-9218868437227405312 < L→vZ L * (C:Int)≤V * ((2 ^ K:Nat):Int)) (hB:L + 1 < 9218868437227405312→V * ((2 ^ K:Nat):Int) < vZ (L + 1) * (C:Int)):Calls Tryz.prog 24 #[.int .u64 (pI L),.agg #[.bool s2,.slice p2 l2 c2,.slice q2 k2 d2]] w fun e w'=>e = .returned (.bool true)∧Kp w w':=by
  obtain ⟨PB,hPB⟩:∃ PB:Int→World→Bool→Option Addr→Nat→Nat→Option Addr→Nat→Nat→Prop,PB = fun j W s p l c q k d=>∃ base,XP base W s p l c q k d (if j = 1 then vF L else vF (L + 1)) (2 ^ K) 1500:=⟨_,rfl⟩
  have kpB:∀ j W W' s p l c q k d,PB j W s p l c q k d→Kp W W'→PB j W' s p l c q k d:=by
    intro j W W' s p l c q k d h g
    rw [hPB] at h ⊢
    obtain ⟨b,h⟩:=h
    exact ⟨b,h.kp g⟩
  have hb1:∀ W:World,Kp w W→Calls Tryz.prog 53 #[.int .u64 (pI L)] W fun e w'=>∃ s p l c q k d,e = .returned (.agg #[.int .i64 (infZ L),.bool s,.slice p l c,.slice q k d])∧PB 1 w' s p l c q k d∧Kp W w':=by
    intro W _
    refine (bnd9_ K hK L (by unfold BdZ;omega) W).mono ?_
    rintro e w' ⟨s,p,l,c,q,k,d,rfl,hp,g⟩
    exact ⟨s,p,l,c,q,k,d,rfl,by rw [hPB];exact ⟨_,hp⟩,g⟩
  have hb2:∀ W:World,Kp w W→Calls Tryz.prog 53 #[.int .u64 (pI (L + 1))] W fun e w'=>∃ s p l c q k d,e = .returned (.agg #[.int .i64 (infZ (L + 1)),.bool s,.slice p l c,.slice q k d])∧PB 2 w' s p l c q k d∧Kp W w':=by
    intro W _
    refine (bnd9_ K hK (L + 1) (by unfold BdZ;omega) W).mono ?_
    rintro e w' ⟨s,p,l,c,q,k,d,rfl,hp,g⟩
    exact ⟨s,p,l,c,q,k,d,rfl,by rw [hPB];exact ⟨_,hp⟩,g⟩
  have hc1:∀ (W:World) s p l c q k d,Kp w W→PB 1 W s p l c q k d→Calls Tryz.prog 54 #[.agg #[.int .i64 (infZ L),.bool s,.slice p l c,.slice q k d],.agg #[.int .i64 0,.bool s2,.slice p2 l2 c2,.slice q2 k2 d2]] W fun e w'=>e = .returned (.int .i64 (cB K L V C))∧Kp W w':=by
    intro W s p l c q k d g h
    rw [hPB] at h
    obtain ⟨b,h⟩:=h
    exact cmpB_ K L V C N hN s p l c q k d s2 p2 l2 c2 q2 k2 d2 b B2 W h (h2.kp g)
  have hc2:∀ (W:World) s p l c q k d,Kp w W→PB 2 W s p l c q k d→Calls Tryz.prog 54 #[.agg #[.int .i64 (infZ (L + 1)),.bool s,.slice p l c,.slice q k d],.agg #[.int .i64 0,.bool s2,.slice p2 l2 c2,.slice q2 k2 d2]] W fun e w'=>e = .returned (.int .i64 (cB K (L + 1) V C))∧Kp W w':=by
    intro W s p l c q k d g h
    rw [hPB] at h
    obtain ⟨b,h⟩:=h
    exact cmpB_ K (L + 1) V C N hN s p l c q k d s2 p2 l2 c2 q2 k2 d2 b B2 W h (h2.kp g)
  have t1:=cB_le K L V C (by omega) hA hL.1
  have vL:=pI_val L
  have vM:=pI_val (L + 1)
  by_cases cM:L = 9218868437227405311
  · refine belowM_ _ _ _ s2 p2 l2 c2 q2 k2 d2 PB kpB w hb1 hc1 t1 ?_
    rw [cM];decide
  · have tz:=cB_gt K (L + 1) V C (by omega) (by omega) (hB (by omega))
    by_cases cN:L = -9218868437227405312
    · have e1:pI (L + 1) = 18442240474082181119:=by rw [cN];decide
      rw [e1] at hb2
      refine belowN_ _ _ _ _ _ s2 p2 l2 c2 q2 k2 d2 PB kpB w hb1 hc1 t1 ?_ ?_ hb2 hc2 tz
      · rw [cN];decide
      · rw [cN];decide
    · by_cases cG:L < 0
      · rw [if_pos cG] at vL
        have hp:=Fq.rplain6_ true (L.natAbs - 1) (by omega)
        have e2:Fq.pla (Fq.wD true (L.natAbs - 1)) = pw (L + 1):=by
          unfold Fq.pla Fq.wD pw
          by_cases c:L = -1
          · subst c;decide
          · rw [if_pos rfl,if_neg (by omega),decide_eq_true (show L + 1 < 0 by omega)]
            unfold Fq.wD
            rw [if_pos rfl]
            omega
        rw [e2] at hp
        refine belowG_ _ _ _ _ _ _ _ s2 p2 l2 c2 q2 k2 d2 PB kpB w hb1 hc1 t1 ?_ ?_ (by omega) ?_ hp hb2 hc2 tz
        · rw [vL];simp;omega
        · rw [vL];simp;omega
        · rw [vL,IntKind.wrap_u64];unfold Fq.wD;rw [if_pos rfl];omega
      · rw [if_neg cG] at vL
        rw [if_neg (by omega)] at vM
        refine belowP_ _ _ _ _ _ _ s2 p2 l2 c2 q2 k2 d2 PB kpB w hb1 hc1 t1 ?_ ?_ (by omega) ?_ hb2 hc2 tz
        · rw [vL];simp;omega
        · rw [vL];simp;omega
        · rw [vL,vM,IntKind.wrap_u64];omega
theorem turnZ_ (z:Int) (h:BdZ z) (w:World):Calls Tryz.prog 56 #[.int .u64 (pI z)] w fun e w'=>e = .returned (.int .u64 (pI (-z)))∧w' = w:=by
  have ha:=abs_pw z h
  have hx:bits BinOp.xor IntKind.u64 (pI z) 9223372036854775808 = ((Fq.wD (!(decide (z < 0))) z.natAbs:Nat):Int):=by
    have g:=u64_xor_nat (pw z) 9223372036854775808 (pw_lt z h) (by decide)
    have f:=flip8 (decide (z < 0)) z.natAbs (by omega)
    unfold pw at g
    rw [f] at g
    exact g
  have hp:=Fq.rplain6_ (!(decide (z < 0))) z.natAbs ha
  have e2:Fq.pla (Fq.wD (!(decide (z < 0))) z.natAbs) = pw (-z):=by
    unfold Fq.pla pw
    rw [Int.natAbs_neg]
    by_cases c0:z = 0
    · subst c0;decide
    · by_cases c:z < 0
      · rw [decide_eq_true c,decide_eq_false (show ¬ -z < 0 by omega)]
        unfold Fq.wD
        simp;omega
      · rw [decide_eq_false c,decide_eq_true (show -z < 0 by omega)]
        unfold Fq.wD
        simp;omega
  rw [e2] at hp
  show Calls Tryz.prog 56 #[.int .u64 (pI z)] w fun e w'=>e = .returned (.int .u64 ((pw (-z):Nat):Int))∧w' = w
  generalize pI z = X at hx ⊢
  generalize ((Fq.wD (!(decide (z < 0))) z.natAbs:Nat):Int) = Y at hx hp
  generalize ((pw (-z):Nat):Int) = Z at hp ⊢
  clear ha e2
  go_enter Tryz.func56,Tryz.ntmps56
  go_wp2_with (first | (go_at_call 55;refine (hp _).mono ?_;rintro e w' ⟨rfl,hw'⟩;obtain rfl:=hw'.symm;clear hw'))
  exact bodyPost_ret (v:=.int .u64 Z) (by simp [results,Tryz.results56,go_sem]) rfl ⟨rfl,rfl⟩
theorem aboveA_ (X Y:Int) s p l c q k d (PN:World→Bool→Option Addr→Nat→Nat→Option Addr→Nat→Nat→Prop) (w:World) (ht:∀ w:World,Calls Tryz.prog 56 #[.int .u64 X] w fun e w'=>e = .returned (.int .u64 Y)∧w' = w) (hn:∀ W:World,Kp w W→Calls Tryz.prog 36 #[.agg #[.bool s,.slice p l c,.slice q k d]] W fun e w'=>∃ s2 p2 l2 c2 q2 k2 d2,e = .returned (.agg #[.bool s2,.slice p2 l2 c2,.slice q2 k2 d2])∧PN w' s2 p2 l2 c2 q2 k2 d2∧Kp W w') (hb:∀ (W:World) s2 p2 l2 c2 q2 k2 d2,Kp w W→PN W s2 p2 l2 c2 q2 k2 d2→Calls Tryz.prog 24 #[.int .u64 Y,.agg #[.bool s2,.slice p2 l2 c2,.slice q2 k2 d2]] W fun e w'=>e = .returned (.bool true)∧Kp W w'):Calls Tryz.prog 25 #[.int .u64 X,.agg #[.bool s,.slice p l c,.slice q k d]] w fun e w'=>e = .returned (.bool true)∧Kp w w':=by
  have k0:=(Kp.refl w).alloc (.cells #[.bool s,.slice p l c,.slice q k d] 27)
  have x0:=H3c.new w (.bool s) (.slice p l c) (.slice q k d) 27
  go_enter Tryz.func25,Tryz.ntmps25
  go_upto_region 1 with fail
  generalize w.alloc (.cells #[.bool s,.slice p l c,.slice q k d] 27) = W at k0 x0 ⊢
  obtain ⟨z0,z1,z2,_,_,_⟩:=id x0
  obtain ⟨dz0,dz1,dz2,_,_,_⟩:=H3c.keep x0 (Kp.refl W).drew
  go_region_held3 (fun w'=>w'.cell? ⟨w.heap.size,0,none⟩ = some (.bool s)∧w'.cell? ⟨w.heap.size,1,none⟩ = some (.slice p l c)∧w'.cell? ⟨w.heap.size,2,none⟩ = some (.slice q k d)) (first | with_reducible exact ⟨z0,z1,z2⟩ | with_reducible exact ⟨dz0,dz1,dz2⟩ | with_reducible exact ⟨u0,u1,u2⟩ | with_reducible exact ⟨v0,v1,v2⟩) (first | (go_at_call 56;refine (ht _).mono ?_;rintro e w' ⟨rfl,hw'⟩;obtain rfl:=hw'.symm;clear hw') | (go_at_call 36;refine (hn _ k0.drew).mono ?_;rintro e w2 ⟨s2,p2,l2,c2,q2,k2,d2,rfl,hp2,g2⟩;have kk2:=Kp.trans k0.drew g2;have x2:=H3c.keep (H3c.keep x0 (Kp.refl W).drew) g2;obtain ⟨u0,u1,u2,_,_,_⟩:=id x2) | (go_at_call 24;refine (hb _ _ _ _ _ _ _ _ kk2 hp2).mono ?_;rintro e w3 ⟨rfl,g3⟩;have kk3:=Kp.trans kk2 g3;obtain ⟨v0,v1,v2,_,_,_⟩:=H3c.keep x2 g3))
  go_wp2
  exact bodyPost_ret (v:=.bool true) (by simp [results,Tryz.results25,go_sem]) rfl ⟨rfl,kk3⟩
theorem aboveZ_ (K:Nat) (hK:K = 1074) (H V:Int) (C N:Nat) (hN:N≤90000) (hH:-9218868437227405312 < H∧H≤9218868437227405312) s p l c q k d (B1:Nat) (w:World) (h1:XP B1 w s p l c q k d V C N) (hA:H < 9218868437227405312→V * ((2 ^ K:Nat):Int)≤vZ H * (C:Int)) (hB:-9218868437227405312 < H - 1→vZ (H - 1) * (C:Int) < V * ((2 ^ K:Nat):Int)):Calls Tryz.prog 25 #[.int .u64 (pI H),.agg #[.bool s,.slice p l c,.slice q k d]] w fun e w'=>e = .returned (.bool true)∧Kp w w':=by
  refine aboveA_ (pI H) (pI (-H)) s p l c q k d (fun W s2 p2 l2 c2 q2 k2 d2=>∃ b,XP b W s2 p2 l2 c2 q2 k2 d2 (-V) C N) w (fun w=>turnZ_ H (by unfold BdZ;omega) w) ?_ ?_
  · intro W g
    refine (xneg_ V C N (by omega) s p l c q k d B1 W (h1.kp g)).mono ?_
    rintro e w' ⟨s2,p2,l2,c2,q2,k2,d2,rfl,hp,g⟩
    exact ⟨s2,p2,l2,c2,q2,k2,d2,rfl,⟨_,hp⟩,g⟩
  · rintro W s2 p2 l2 c2 q2 k2 d2 g ⟨b,hp⟩
    refine belowZ_ K hK (-H) (-V) C _ (by omega) (by omega) s2 p2 l2 c2 q2 k2 d2 b W hp ?_ ?_
    · intro c
      have:=hA (by omega)
      rw [vZ_neg,Int.neg_mul,Int.neg_mul];omega
    · intro c
      have:=hB (by omega)
      rw [show -H + 1 = -(H - 1) from by omega,vZ_neg,Int.neg_mul,Int.neg_mul];omega

set_option linter.unusedVariables false
theorem tightA_ (a b:Nat) (P Q:Int) s1 p1 l1 c1 q1 k1 d1 (w:World) (ho:∀ w:World,Calls Tryz.prog 22 #[.agg #[.float .f64 a,.float .f64 b]] w fun e w'=>e = .returned (.agg #[.int .u64 P,.int .u64 Q])∧Kp w w') (hv:∀ w:World,Calls Tryz.prog 23 #[.agg #[.int .u64 P,.int .u64 Q]] w fun e w'=>e = .returned (.bool true)∧Kp w w') (hb:∀ W:World,Kp w W→Calls Tryz.prog 24 #[.int .u64 P,.agg #[.bool s1,.slice p1 l1 c1,.slice q1 k1 d1]] W fun e w'=>e = .returned (.bool true)∧Kp W w') (ha:∀ W:World,Kp w W→Calls Tryz.prog 25 #[.int .u64 Q,.agg #[.bool s1,.slice p1 l1 c1,.slice q1 k1 d1]] W fun e w'=>e = .returned (.bool true)∧Kp W w'):Calls Tryz.prog 7 #[.agg #[.float .f64 a,.float .f64 b],.agg #[.bool s1,.slice p1 l1 c1,.slice q1 k1 d1]] w fun e w'=>e = .returned (.bool true)∧Kp w w':=by
  have k0:=((Kp.refl w).alloc (.cells #[.float .f64 a,.float .f64 b] 32)).alloc (.cells #[.bool s1,.slice p1 l1 c1,.slice q1 k1 d1] 27)
  have x0:Fq.H2 ((w.alloc (.cells #[.float .f64 a,.float .f64 b] 32)).alloc (.cells #[.bool s1,.slice p1 l1 c1,.slice q1 k1 d1] 27)) w.heap.size (.float .f64 a) (.float .f64 b):=by unfold Fq.H2;simp [go_sem]
  have v0:H3c ((w.alloc (.cells #[.float .f64 a,.float .f64 b] 32)).alloc (.cells #[.bool s1,.slice p1 l1 c1,.slice q1 k1 d1] 27)) (w.heap.size + 1) (.bool s1) (.slice p1 l1 c1) (.slice q1 k1 d1):=by unfold H3c;simp [go_sem]
  go_enter Tryz.func7,Tryz.ntmps7
  go_upto_region 2 with (first | (go_at_call 22;refine (ho _).mono ?_;rintro e w1 ⟨rfl,g1⟩;have kW1:=Kp.trans k0 g1;have vW:=H3c.keep v0 g1;clear g1))
  have kk:=kW1.alloc (.cells #[.int .u64 P,.int .u64 Q] 45)
  have pp:=Fq.H2.new w1 (.int .u64 P) (.int .u64 Q) 45
  have vv:=H3c.keep vW ((Kp.refl w1).alloc (.cells #[.int .u64 P,.int .u64 Q] 45))
  clear k0 x0 v0 vW kW1 ho
  generalize hW:w1.alloc (.cells #[.int .u64 P,.int .u64 Q] 45) = W at kk pp vv ⊢
  generalize w1.heap.size = bb at pp ⊢
  clear hW
  obtain ⟨a0,a1,_,_⟩:=id pp
  obtain ⟨v0,v1,v2,_,_,_⟩:=id vv
  go_wp2_with (first | (go_at_call 23;refine (hv _).mono ?_;rintro e wx ⟨rfl,gx⟩;have kk:=Kp.trans kk gx;have pp:=Fq.H2.keep pp gx;have vv:=H3c.keep vv gx;obtain ⟨a0,a1,_,_⟩:=id pp;obtain ⟨v0,v1,v2,_,_,_⟩:=id vv;clear gx) | (go_at_call 24;refine (hb _ kk).mono ?_;rintro e wx ⟨rfl,gx⟩;have kk:=Kp.trans kk gx;have pp:=Fq.H2.keep pp gx;have vv:=H3c.keep vv gx;obtain ⟨a0,a1,_,_⟩:=id pp;obtain ⟨v0,v1,v2,_,_,_⟩:=id vv;clear gx) | (go_at_call 25;refine (ha _ kk).mono ?_;rintro e wx ⟨rfl,gx⟩;have kk:=Kp.trans kk gx;have pp:=Fq.H2.keep pp gx;have vv:=H3c.keep vv gx;obtain ⟨a0,a1,_,_⟩:=id pp;obtain ⟨v0,v1,v2,_,_,_⟩:=id vv;clear gx))
  exact bodyPost_ret (v:=.bool true) (by simp [results,Tryz.results7,go_sem]) rfl ⟨rfl,kk⟩
theorem tightZ_ (K:Nat) (hK:K = 1074) (L H V:Int) (C N:Nat) (hN:N≤90000) s1 p1 l1 c1 q1 k1 d1 (B1:Nat) (w:World) (h1:XP B1 w s1 p1 l1 c1 q1 k1 d1 V C N) (pt:PT K L H V C):Calls Tryz.prog 7 #[.agg #[.float .f64 (pw L),.float .f64 (pw H)],.agg #[.bool s1,.slice p1 l1 c1,.slice q1 k1 d1]] w fun e w'=>e = .returned (.bool true)∧Kp w w':=by
  obtain ⟨vd,hI,m1,m2,m3,m4⟩:=pt
  have vd':=vd
  unfold VdZ at vd'
  exact tightA_ _ _ (pI L) (pI H) s1 p1 l1 c1 q1 k1 d1 w (out9_ _ _) (valid9_ L H vd) (fun W g=>belowZ_ K hK L V C N (by omega) (by omega) s1 p1 l1 c1 q1 k1 d1 B1 W (h1.kp g) m1 m2) (fun W g=>aboveZ_ K hK H V C N hN (by omega) s1 p1 l1 c1 q1 k1 d1 B1 W (h1.kp g) m3 m4)
theorem point_ (a:Nat) (X:Int) (hi:∀ w:World,Calls Tryz.prog 30 #[.agg #[.int .u64 X,.int .u64 X]] w fun e w'=>e = .returned (.agg #[.float .f64 a,.float .f64 a])∧Kp w w') (w:World):Calls Tryz.prog 9 #[.int .u64 X] w fun e w'=>e = .returned (.agg #[.float .f64 a,.float .f64 a])∧Kp w w':=by
  have k0:=(Kp.refl w).alloc (.cells #[.float .f64 0,.float .f64 0] 32)
  have x0:=Fq.H2.new w (.float .f64 0) (.float .f64 0) 32
  go_enter Tryz.func9,Tryz.ntmps9
  go_wp2_with (first | (go_at_call 30;refine (hi _).mono ?_;rintro e w1 ⟨rfl,g1⟩;have k1:=Kp.trans k0 g1;obtain ⟨y0,y1,_,_⟩:=Fq.H2.keep x0 g1))
  exact bodyPost_ret (v:=.agg #[.float .f64 a,.float .f64 a]) (by simp [results,Tryz.results9,go_sem,y0,y1]) rfl ⟨rfl,(k1.setCell (by simp <;> omega) _).setCell (by simp <;> omega) _⟩
set_option linter.unusedVariables false
theorem lawA_ (A B C:Int) (w:World) (haw:Calls Tryz.prog 4 #[] w fun e w'=>e = .returned (.bool true)∧Kp w w') (hfA:∀ w:World,Calls Tryz.prog 5 #[.int .u64 A] w fun e w'=>e = .returned (.bool false)∧w' = w):Calls Tryz.prog 3 #[.int .u64 A,.int .u64 B,.int .u64 C] w fun e w'=>e = .returned (.bool true)∧Kp w w':=by
  go_enter Tryz.func3,Tryz.ntmps3
  go_wp2_with (first | (go_at_call 4;refine haw.mono ?_;rintro e wa ⟨rfl,ka⟩) | (go_at_call_of 5 (Value.int .u64 A);refine (hfA _).mono ?_;rintro e w' ⟨rfl,hw'⟩;obtain rfl:=hw'.symm;clear hw'))
  exact bodyPost_ret (v:=.bool true) (by simp [results,Tryz.results3,go_sem]) rfl ⟨rfl,ka⟩
set_option linter.unusedVariables false
theorem lawB_ (A B C:Int) (w:World) (haw:Calls Tryz.prog 4 #[] w fun e w'=>e = .returned (.bool true)∧Kp w w') (hfA:∀ w:World,Calls Tryz.prog 5 #[.int .u64 A] w fun e w'=>e = .returned (.bool true)∧w' = w) (hfB:∀ w:World,Calls Tryz.prog 5 #[.int .u64 B] w fun e w'=>e = .returned (.bool false)∧w' = w):Calls Tryz.prog 3 #[.int .u64 A,.int .u64 B,.int .u64 C] w fun e w'=>e = .returned (.bool true)∧Kp w w':=by
  go_enter Tryz.func3,Tryz.ntmps3
  go_wp2_with (first | (go_at_call 4;refine haw.mono ?_;rintro e wa ⟨rfl,ka⟩) | (go_at_call_of 5 (Value.int .u64 A);refine (hfA _).mono ?_;rintro e w' ⟨rfl,hw'⟩;obtain rfl:=hw'.symm;clear hw') | (go_at_call_of 5 (Value.int .u64 B);refine (hfB _).mono ?_;rintro e w' ⟨rfl,hw'⟩;obtain rfl:=hw'.symm;clear hw'))
  exact bodyPost_ret (v:=.bool true) (by simp [results,Tryz.results3,go_sem]) rfl ⟨rfl,ka⟩
set_option linter.unusedVariables false
theorem lawC_ (A B C:Int) (w:World) (haw:Calls Tryz.prog 4 #[] w fun e w'=>e = .returned (.bool true)∧Kp w w') (hfA:∀ w:World,Calls Tryz.prog 5 #[.int .u64 A] w fun e w'=>e = .returned (.bool true)∧w' = w) (hfB:∀ w:World,Calls Tryz.prog 5 #[.int .u64 B] w fun e w'=>e = .returned (.bool true)∧w' = w) (hfC:∀ w:World,Calls Tryz.prog 5 #[.int .u64 C] w fun e w'=>e = .returned (.bool false)∧w' = w):Calls Tryz.prog 3 #[.int .u64 A,.int .u64 B,.int .u64 C] w fun e w'=>e = .returned (.bool true)∧Kp w w':=by
  go_enter Tryz.func3,Tryz.ntmps3
  go_wp2_with (first | (go_at_call 4;refine haw.mono ?_;rintro e wa ⟨rfl,ka⟩) | (go_at_call_of 5 (Value.int .u64 A);refine (hfA _).mono ?_;rintro e w' ⟨rfl,hw'⟩;obtain rfl:=hw'.symm;clear hw') | (go_at_call_of 5 (Value.int .u64 B);refine (hfB _).mono ?_;rintro e w' ⟨rfl,hw'⟩;obtain rfl:=hw'.symm;clear hw') | (go_at_call_of 5 (Value.int .u64 C);refine (hfC _).mono ?_;rintro e w' ⟨rfl,hw'⟩;obtain rfl:=hw'.symm;clear hw'))
  exact bodyPost_ret (v:=.bool true) (by simp [results,Tryz.results3,go_sem]) rfl ⟨rfl,ka⟩
end Go.Proofs.YtaidnpjgkkdloaaGreatDoor
