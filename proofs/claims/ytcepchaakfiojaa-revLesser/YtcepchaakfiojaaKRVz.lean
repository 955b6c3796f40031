import Derived.Test.YtcepchaakfiojaaKRLd
import Derived.Test.YtcepchaakfiojaaKRVw
set_option maxHeartbeats 4000000
set_option maxRecDepth 20000
namespace Go.Proofs.Ytcepchaakfiojaa
open Go.RowKit
set_option linter.unusedVariables false
set_option linter.unusedSimpArgs false

def iz (z:Int):Int:=infS (decide (z < 0)) z.natAbs
def Vz (z:Int):Int:=Iv (fN (decide (z < 0)) z.natAbs) (fM z.natAbs)
theorem iz_fin (z:Int) (h:z.natAbs≠9218868437227405312):iz z = 0∧Vz z = Iv (decide (z < 0)) z.natAbs:=by
  unfold iz Vz infS fN fM
  rw [if_neg h,if_neg h,if_neg h]
  exact ⟨rfl,rfl⟩
theorem iz_inf (z:Int) (h:z.natAbs = 9218868437227405312):(z = 9218868437227405312∧iz z = 1∨z = -9218868437227405312∧iz z = -1)∧Vz z = 0:=by
  have e:Vz z = 0:=by unfold Vz fN fM;rw [if_pos h,if_pos h];exact iv0_
  rcases (by omega:z = 9218868437227405312∨z = -9218868437227405312) with c1 | c1
  · exact ⟨Or.inl ⟨c1,by rw [c1];decide⟩,e⟩
  · exact ⟨Or.inr ⟨c1,by rw [c1];decide⟩,e⟩
theorem iz_or (z:Int):iz z = 0∨((iz z = 1∨iz z = -1)∧Vz z = 0):=by
  by_cases h:z.natAbs = 9218868437227405312
  · have g:=iz_inf z h
    rcases g.1 with g1 | g1
    · exact Or.inr ⟨Or.inl g1.2,g.2⟩
    · exact Or.inr ⟨Or.inr g1.2,g.2⟩
  · exact Or.inl (iz_fin z h).1
theorem iz_or2 (z:Int):iz z = 0∨Vz z = 0:=(iz_or z).imp id (fun h=>h.2)
theorem cBz (X z:Int) (hX:BdZ X) (hz:BdZ z):cB X (iz z) (Vz z) = cmI X z:=by
  unfold BdZ at hX hz
  by_cases h:z.natAbs = 9218868437227405312
  · have g:=iz_inf z h
    unfold cB
    rcases g.1 with g1 | g1
    · rw [g1.2,if_neg (by decide),g1.1];rfl
    · rw [g1.2,if_neg (by decide),g1.1];rfl
  · have g:=iz_fin z h
    unfold cB
    rw [g.1,g.2,if_pos rfl]
    by_cases c1:X = 9218868437227405312
    · rw [if_pos c1,cmI_gt _ _ (by omega)]
    · by_cases c2:X = -9218868437227405312
      · rw [if_neg c1,if_pos c2,cmI_lt _ _ (by omega)]
      · rw [if_neg c1,if_neg c2,cmI_iv,plz_pw,plz_pw]
theorem rdz (dd z:Int) (hz:BdZ z) (h:z.natAbs≠9218868437227405312):sumW dd (Vz z) = pw z:=by
  rw [(iz_fin z h).2,sumW_exact dd _ _ (by unfold BdZ at hz;omega)]
  exact pla_pw z hz
def oz (z:Int):Bool:=decide (iz z≠0)
def PZ (a b:Int) (W:World) (v:Value):Prop:=PCv (iz a) (Vz a) (oz a) (iz b) (Vz b) (oz b) W v
theorem withZ_ (L H a b:Int) (hx:VdZ L H) (hp:VdZ a b) (ha:a≠9218868437227405312) (w:World) (v:Value) (h:PZ a b w v):Calls Try.prog 36 #[.agg #[.int .u64 (pI L),.int .u64 (pI H)],v] w fun e w'=>e = .returned (.agg #[.int .u64 (pI (iL L H a b)),.int .u64 (pI (iH L H a b))])∧Kp w w':=by
  obtain ⟨s,p,l,c,q,k,d,s2,p2,l2,c2,q2,k2,d2,rfl,h1,h2⟩:=h
  have hpa:=hp.lo
  have hpb:=hp.hi
  have hXL:=hx.lo
  have hXH:=hx.hi
  by_cases hE:L = 9218868437227405312
  · have hH:H = -9218868437227405312:=by unfold VdZ at hx;omega
    have e1:iL L H a b = 9218868437227405312:=by unfold iL;rw [if_neg (by unfold VdZ at hp;omega)]
    have e2:iH L H a b = -9218868437227405312:=by unfold iH;rw [if_neg (by unfold VdZ at hp;omega)]
    rw [e1,e2,hE,hH,pI_I9,pI_M9]
    exact withE_ _ _ _ _ s p l c q k d s2 p2 l2 c2 q2 k2 d2 rempty9_ w
  · have t0:(pI L == 9218868437227405312) = false:=by
      have:=pI_inj L 9218868437227405312 hXL (by unfold BdZ;omega)
      rw [pI_I9] at this
      simpa using fun g=>hE (this.1 g)
    have kk1:=fun (W:World) (g:Kp w W)=>against9_ L (iz b) (Vz b) hXL (iz_or b) (oz b) s2 p2 l2 c2 q2 k2 d2 W (h2.kp g)
    have kk2:=fun (W:World) (g:Kp w W)=>against9_ H (iz a) (Vz a) hXH (iz_or a) (oz a) s p l c q k d W (h1.kp g)
    have kk3:=fun (W:World) (g:Kp w W)=>against9_ L (iz a) (Vz a) hXL (iz_or a) (oz a) s p l c q k d W (h1.kp g)
    have kk4:=fun (W:World) (g:Kp w W)=>against9_ H (iz b) (Vz b) hXH (iz_or b) (oz b) s2 p2 l2 c2 q2 k2 d2 W (h2.kp g)
    rw [cBz L b hXL hpb] at kk1
    rw [cBz H a hXH hpa] at kk2
    rw [cBz L a hXL hpa] at kk3
    rw [cBz H b hXH hpb] at kk4
    unfold VdZ at hx hp
    by_cases c0:max L a≤min H b
    · have e1:iL L H a b = max L a:=if_pos c0
      have e2:iH L H a b = min H b:=if_pos c0
      rw [e1,e2]
      refine withK_ (pI L) (pI H) _ _ _ _ ((sumW (-1) (Vz a):Nat):Int) ((sumW 1 (Vz b):Nat):Int) _ _ (iz a) (iz b) _ _ s p l c q k d s2 p2 l2 c2 q2 k2 d2 rempty9_ w t0 kk1 kk2 kk3 kk4 (fun g W y=>?_) (fun g W y=>?_) ?_ ?_ ?_ ?_
      · have hf:a.natAbs≠9218868437227405312:=by rcases cmI_tri L a with q | q | q <;> omega
        rw [(iz_fin a hf).1]
        exact rnd9_ (Vz a) (-1) _ s p l c q k d W (h1.kp y)
      · have hf:b.natAbs≠9218868437227405312:=by rcases cmI_tri H b with q | q | q <;> omega
        rw [(iz_fin b hf).1]
        exact rnd9_ (Vz b) 1 _ s2 p2 l2 c2 q2 k2 d2 W (h2.kp y)
      · rcases cmI_tri L b with q | q | q
        · exact Or.inl (by omega)
        · exact Or.inr ⟨q.2,decide_eq_false (by rw [(iz_fin b (by omega)).1];decide)⟩
        · omega
      · rcases cmI_tri H a with q | q | q
        · omega
        · exact Or.inr ⟨q.2,decide_eq_false (by rw [(iz_fin a (by omega)).1];decide)⟩
        · exact Or.inl (by omega)
      · rcases cmI_tri L a with q | q | q
        · refine Or.inl ⟨by omega, ?_⟩
          rw [rdz (-1) a hpa (by omega),show max L a = a by omega];rfl
        · exact Or.inr ⟨by omega,by rw [show max L a = L by omega]⟩
        · exact Or.inr ⟨by omega,by rw [show max L a = L by omega]⟩
      · rcases cmI_tri H b with q | q | q
        · exact Or.inr ⟨by omega,by rw [show min H b = H by omega]⟩
        · exact Or.inr ⟨by omega,by rw [show min H b = H by omega]⟩
        · refine Or.inl ⟨by omega, ?_⟩
          rw [rdz 1 b hpb (by omega),show min H b = b by omega];rfl
    · have e1:iL L H a b = 9218868437227405312:=if_neg c0
      have e2:iH L H a b = -9218868437227405312:=if_neg c0
      rw [e1,e2,pI_I9,pI_M9]
      refine withX_ (pI L) (pI H) _ _ (iz a) (iz b) _ _ s p l c q k d s2 p2 l2 c2 q2 k2 d2 rempty9_ w t0 kk1 kk2 ?_
      rcases cmI_tri L b with q | q | q
      · refine Or.inr (Or.inr ⟨Or.inl (by omega), ?_⟩)
        rcases cmI_tri H a with q2 | q2 | q2
        · exact Or.inl (by omega)
        · omega
        · omega
      · refine Or.inr (Or.inr ⟨?_, ?_⟩)
        · exact Or.inr ⟨q.2,decide_eq_false (by rw [(iz_fin b (by omega)).1];decide)⟩
        · rcases cmI_tri H a with q2 | q2 | q2
          · exact Or.inl (by omega)
          · omega
          · omega
      · exact Or.inl (by omega)
set_option linter.unusedVariables false
set_option linter.unusedSimpArgs false
theorem hullE1_ (i j i2 j2:Int) s p l c q k d s2 p2 l2 c2 q2 k2 d2 s5 p5 l5 c5 q5 k5 d5 s6 p6 l6 c6 q6 k6 d6 (N2:Bool) (w:World):Calls Try.prog 35 #[.agg #[.bool true,.int .i64 i,.bool s,.slice p l c,.slice q k d,.int .i64 j,.bool s2,.slice p2 l2 c2,.slice q2 k2 d2],.agg #[.bool N2,.int .i64 i2,.bool s5,.slice p5 l5 c5,.slice q5 k5 d5,.int .i64 j2,.bool s6,.slice p6 l6 c6,.slice q6 k6 d6]] w fun e w'=>e = .returned (.agg #[.bool N2,.int .i64 i2,.bool s5,.slice p5 l5 c5,.slice q5 k5 d5,.int .i64 j2,.bool s6,.slice p6 l6 c6,.slice q6 k6 d6])∧Kp w w':=by
  go_enter Try.func35,Try.ntmps35
  go_wp2
  exact bodyPost_ret (v:=.agg #[.bool N2,.int .i64 i2,.bool s5,.slice p5 l5 c5,.slice q5 k5 d5,.int .i64 j2,.bool s6,.slice p6 l6 c6,.slice q6 k6 d6]) (by simp [results,Try.results35,go_sem]) rfl ⟨rfl,(by repeat (with_reducible (first | assumption | exact Kp.refl _ | apply Kp.drew | apply Kp.alloc | apply Kp.drewN | (refine Kp.setCell ?_ (by first | omega | (simp <;> omega)) _) | (refine Kp.trans ?_ (by assumption)))))⟩
theorem hullE2_ (i j i2 j2:Int) s p l c q k d s2 p2 l2 c2 q2 k2 d2 s5 p5 l5 c5 q5 k5 d5 s6 p6 l6 c6 q6 k6 d6 (w:World):Calls Try.prog 35 #[.agg #[.bool false,.int .i64 i,.bool s,.slice p l c,.slice q k d,.int .i64 j,.bool s2,.slice p2 l2 c2,.slice q2 k2 d2],.agg #[.bool true,.int .i64 i2,.bool s5,.slice p5 l5 c5,.slice q5 k5 d5,.int .i64 j2,.bool s6,.slice p6 l6 c6,.slice q6 k6 d6]] w fun e w'=>e = .returned (.agg #[.bool false,.int .i64 i,.bool s,.slice p l c,.slice q k d,.int .i64 j,.bool s2,.slice p2 l2 c2,.slice q2 k2 d2])∧Kp w w':=by
  go_enter Try.func35,Try.ntmps35
  go_wp2
  exact bodyPost_ret (v:=.agg #[.bool false,.int .i64 i,.bool s,.slice p l c,.slice q k d,.int .i64 j,.bool s2,.slice p2 l2 c2,.slice q2 k2 d2]) (by simp [results,Try.results35,go_sem]) rfl ⟨rfl,(by repeat (with_reducible (first | assumption | exact Kp.refl _ | apply Kp.drew | apply Kp.alloc | apply Kp.drewN | (refine Kp.setCell ?_ (by first | omega | (simp <;> omega)) _) | (refine Kp.trans ?_ (by assumption)))))⟩
theorem hullG_ (i j i2 j2:Int) s p l c q k d s2 p2 l2 c2 q2 k2 d2 s5 p5 l5 c5 q5 k5 d5 s6 p6 l6 c6 q6 k6 d6 (i3 j3:Int) s7 p7 l7 c7 q7 k7 d7 s8 p8 l8 c8 q8 k8 d8 (w:World) (hl:∀ W:World,Kp w W→Calls Try.prog 50 #[.agg #[.int .i64 i,.bool s,.slice p l c,.slice q k d],.agg #[.int .i64 i2,.bool s5,.slice p5 l5 c5,.slice q5 k5 d5]] W fun e w'=>e = .returned (.agg #[.int .i64 i3,.bool s7,.slice p7 l7 c7,.slice q7 k7 d7])∧Kp W w') (hg:∀ W:World,Kp w W→Calls Try.prog 51 #[.agg #[.int .i64 j,.bool s2,.slice p2 l2 c2,.slice q2 k2 d2],.agg #[.int .i64 j2,.bool s6,.slice p6 l6 c6,.slice q6 k6 d6]] W fun e w'=>e = .returned (.agg #[.int .i64 j3,.bool s8,.slice p8 l8 c8,.slice q8 k8 d8])∧Kp W w'):Calls Try.prog 35 #[.agg #[.bool false,.int .i64 i,.bool s,.slice p l c,.slice q k d,.int .i64 j,.bool s2,.slice p2 l2 c2,.slice q2 k2 d2],.agg #[.bool false,.int .i64 i2,.bool s5,.slice p5 l5 c5,.slice q5 k5 d5,.int .i64 j2,.bool s6,.slice p6 l6 c6,.slice q6 k6 d6]] w fun e w'=>e = .returned (.agg #[.bool false,.int .i64 i3,.bool s7,.slice p7 l7 c7,.slice q7 k7 d7,.int .i64 j3,.bool s8,.slice p8 l8 c8,.slice q8 k8 d8])∧Kp w w':=by
  go_enter Try.func35,Try.ntmps35
  go_upto_region 5 with fail
  have kw:Kp w (((w.alloc (.cells #[.bool false,.int .i64 i,.bool s,.slice p l c,.slice q k d,.int .i64 j,.bool s2,.slice p2 l2 c2,.slice q2 k2 d2] 48)).alloc (.cells #[.bool false,.int .i64 i2,.bool s5,.slice p5 l5 c5,.slice q5 k5 d5,.int .i64 j2,.bool s6,.slice p6 l6 c6,.slice q6 k6 d6] 48)).alloc (.cells #[.bool false,.int .i64 0,.bool false,.slice none 0 0,.slice none 0 0,.int .i64 0,.bool false,.slice none 0 0,.slice none 0 0] 48)):=(((Kp.refl w).alloc _).alloc _).alloc _
  generalize hW:(((w.alloc (.cells #[.bool false,.int .i64 i,.bool s,.slice p l c,.slice q k d,.int .i64 j,.bool s2,.slice p2 l2 c2,.slice q2 k2 d2] 48)).alloc (.cells #[.bool false,.int .i64 i2,.bool s5,.slice p5 l5 c5,.slice q5 k5 d5,.int .i64 j2,.bool s6,.slice p6 l6 c6,.slice q6 k6 d6] 48)).alloc (.cells #[.bool false,.int .i64 0,.bool false,.slice none 0 0,.slice none 0 0,.int .i64 0,.bool false,.slice none 0 0,.slice none 0 0] 48)) = W at kw ⊢
  have xw0:W.cell? ⟨w.heap.size,1,none⟩ = some (.int .i64 i):=by rw [← hW];simp [go_sem]
  have dw0:W.drew.cell? ⟨w.heap.size,1,none⟩ = some (.int .i64 i):=xw0
  have xw1:W.cell? ⟨w.heap.size,2,none⟩ = some (.bool s):=by rw [← hW];simp [go_sem]
  have dw1:W.drew.cell? ⟨w.heap.size,2,none⟩ = some (.bool s):=xw1
  have xw2:W.cell? ⟨w.heap.size,3,none⟩ = some (.slice p l c):=by rw [← hW];simp [go_sem]
  have dw2:W.drew.cell? ⟨w.heap.size,3,none⟩ = some (.slice p l c):=xw2
  have xw3:W.cell? ⟨w.heap.size,4,none⟩ = some (.slice q k d):=by rw [← hW];simp [go_sem]
  have dw3:W.drew.cell? ⟨w.heap.size,4,none⟩ = some (.slice q k d):=xw3
  have xw4:W.cell? ⟨w.heap.size,5,none⟩ = some (.int .i64 j):=by rw [← hW];simp [go_sem]
  have dw4:W.drew.cell? ⟨w.heap.size,5,none⟩ = some (.int .i64 j):=xw4
  have xw5:W.cell? ⟨w.heap.size,6,none⟩ = some (.bool s2):=by rw [← hW];simp [go_sem]
  have dw5:W.drew.cell? ⟨w.heap.size,6,none⟩ = some (.bool s2):=xw5
  have xw6:W.cell? ⟨w.heap.size,7,none⟩ = some (.slice p2 l2 c2):=by rw [← hW];simp [go_sem]
  have dw6:W.drew.cell? ⟨w.heap.size,7,none⟩ = some (.slice p2 l2 c2):=xw6
  have xw7:W.cell? ⟨w.heap.size,8,none⟩ = some (.slice q2 k2 d2):=by rw [← hW];simp [go_sem]
  have dw7:W.drew.cell? ⟨w.heap.size,8,none⟩ = some (.slice q2 k2 d2):=xw7
  have xw8:W.cell? ⟨w.heap.size + 1,1,none⟩ = some (.int .i64 i2):=by rw [← hW];simp [go_sem]
  have dw8:W.drew.cell? ⟨w.heap.size + 1,1,none⟩ = some (.int .i64 i2):=xw8
  have xw9:W.cell? ⟨w.heap.size + 1,2,none⟩ = some (.bool s5):=by rw [← hW];simp [go_sem]
  have dw9:W.drew.cell? ⟨w.heap.size + 1,2,none⟩ = some (.bool s5):=xw9
  have xw10:W.cell? ⟨w.heap.size + 1,3,none⟩ = some (.slice p5 l5 c5):=by rw [← hW];simp [go_sem]
  have dw10:W.drew.cell? ⟨w.heap.size + 1,3,none⟩ = some (.slice p5 l5 c5):=xw10
  have xw11:W.cell? ⟨w.heap.size + 1,4,none⟩ = some (.slice q5 k5 d5):=by rw [← hW];simp [go_sem]
  have dw11:W.drew.cell? ⟨w.heap.size + 1,4,none⟩ = some (.slice q5 k5 d5):=xw11
  have xw12:W.cell? ⟨w.heap.size + 1,5,none⟩ = some (.int .i64 j2):=by rw [← hW];simp [go_sem]
  have dw12:W.drew.cell? ⟨w.heap.size + 1,5,none⟩ = some (.int .i64 j2):=xw12
  have xw13:W.cell? ⟨w.heap.size + 1,6,none⟩ = some (.bool s6):=by rw [← hW];simp [go_sem]
  have dw13:W.drew.cell? ⟨w.heap.size + 1,6,none⟩ = some (.bool s6):=xw13
  have xw14:W.cell? ⟨w.heap.size + 1,7,none⟩ = some (.slice p6 l6 c6):=by rw [← hW];simp [go_sem]
  have dw14:W.drew.cell? ⟨w.heap.size + 1,7,none⟩ = some (.slice p6 l6 c6):=xw14
  have xw15:W.cell? ⟨w.heap.size + 1,8,none⟩ = some (.slice q6 k6 d6):=by rw [← hW];simp [go_sem]
  have dw15:W.drew.cell? ⟨w.heap.size + 1,8,none⟩ = some (.slice q6 k6 d6):=xw15
  have r0:W.cell? ⟨w.heap.size + 2,0,none⟩ = some (.bool false):=by rw [← hW];simp [go_sem]
  have rz0:W.frozen? ⟨w.heap.size + 2,0,none⟩ = false:=by rw [← hW];simp [go_sem]
  have r1:W.cell? ⟨w.heap.size + 2,1,none⟩ = some (.int .i64 0):=by rw [← hW];simp [go_sem]
  have rz1:W.frozen? ⟨w.heap.size + 2,1,none⟩ = false:=by rw [← hW];simp [go_sem]
  have r2:W.cell? ⟨w.heap.size + 2,2,none⟩ = some (.bool false):=by rw [← hW];simp [go_sem]
  have rz2:W.frozen? ⟨w.heap.size + 2,2,none⟩ = false:=by rw [← hW];simp [go_sem]
  have r3:W.cell? ⟨w.heap.size + 2,3,none⟩ = some (.slice none 0 0):=by rw [← hW];simp [go_sem]
  have rz3:W.frozen? ⟨w.heap.size + 2,3,none⟩ = false:=by rw [← hW];simp [go_sem]
  have r4:W.cell? ⟨w.heap.size + 2,4,none⟩ = some (.slice none 0 0):=by rw [← hW];simp [go_sem]
  have rz4:W.frozen? ⟨w.heap.size + 2,4,none⟩ = false:=by rw [← hW];simp [go_sem]
  have r5:W.cell? ⟨w.heap.size + 2,5,none⟩ = some (.int .i64 0):=by rw [← hW];simp [go_sem]
  have rz5:W.frozen? ⟨w.heap.size + 2,5,none⟩ = false:=by rw [← hW];simp [go_sem]
  have r6:W.cell? ⟨w.heap.size + 2,6,none⟩ = some (.bool false):=by rw [← hW];simp [go_sem]
  have rz6:W.frozen? ⟨w.heap.size + 2,6,none⟩ = false:=by rw [← hW];simp [go_sem]
  have r7:W.cell? ⟨w.heap.size + 2,7,none⟩ = some (.slice none 0 0):=by rw [← hW];simp [go_sem]
  have rz7:W.frozen? ⟨w.heap.size + 2,7,none⟩ = false:=by rw [← hW];simp [go_sem]
  have r8:W.cell? ⟨w.heap.size + 2,8,none⟩ = some (.slice none 0 0):=by rw [← hW];simp [go_sem]
  have rz8:W.frozen? ⟨w.heap.size + 2,8,none⟩ = false:=by rw [← hW];simp [go_sem]
  clear hW
  have hn1:w.heap.size + 2≠w.heap.size:=by omega
  have hn2:w.heap.size + 2≠w.heap.size + 1:=by omega
  go_region_held3 (fun w'=>w'.cell? ⟨w.heap.size,1,none⟩ = some (.int .i64 i)∧w'.cell? ⟨w.heap.size,2,none⟩ = some (.bool s)∧w'.cell? ⟨w.heap.size,3,none⟩ = some (.slice p l c)∧w'.cell? ⟨w.heap.size,4,none⟩ = some (.slice q k d)∧w'.cell? ⟨w.heap.size,5,none⟩ = some (.int .i64 j)∧w'.cell? ⟨w.heap.size,6,none⟩ = some (.bool s2)∧w'.cell? ⟨w.heap.size,7,none⟩ = some (.slice p2 l2 c2)∧w'.cell? ⟨w.heap.size,8,none⟩ = some (.slice q2 k2 d2)∧w'.cell? ⟨w.heap.size + 1,1,none⟩ = some (.int .i64 i2)∧w'.cell? ⟨w.heap.size + 1,2,none⟩ = some (.bool s5)∧w'.cell? ⟨w.heap.size + 1,3,none⟩ = some (.slice p5 l5 c5)∧w'.cell? ⟨w.heap.size + 1,4,none⟩ = some (.slice q5 k5 d5)∧w'.cell? ⟨w.heap.size + 1,5,none⟩ = some (.int .i64 j2)∧w'.cell? ⟨w.heap.size + 1,6,none⟩ = some (.bool s6)∧w'.cell? ⟨w.heap.size + 1,7,none⟩ = some (.slice p6 l6 c6)∧w'.cell? ⟨w.heap.size + 1,8,none⟩ = some (.slice q6 k6 d6)) (first | (with_reducible exact ⟨xw0,xw1,xw2,xw3,xw4,xw5,xw6,xw7,xw8,xw9,xw10,xw11,xw12,xw13,xw14,xw15⟩) | (with_reducible exact ⟨dw0,dw1,dw2,dw3,dw4,dw5,dw6,dw7,dw8,dw9,dw10,dw11,dw12,dw13,dw14,dw15⟩) | (with_reducible exact ⟨wA0,wA1,wA2,wA3,wA4,wA5,wA6,wA7,wA8,wA9,wA10,wA11,wA12,wA13,wA14,wA15⟩) | (with_reducible exact ⟨wB0,wB1,wB2,wB3,wB4,wB5,wB6,wB7,wB8,wB9,wB10,wB11,wB12,wB13,wB14,wB15⟩) | (exact ⟨((World.cell?_setCell_far _ _ _ _ hn1).trans ((World.cell?_setCell_far _ _ _ _ hn1).trans ((World.cell?_setCell_far _ _ _ _ hn1).trans ((World.cell?_setCell_far _ _ _ _ hn1).trans ((World.cell?_setCell_far _ _ _ _ hn1).trans ((World.cell?_setCell_far _ _ _ _ hn1).trans ((World.cell?_setCell_far _ _ _ _ hn1).trans ((World.cell?_setCell_far _ _ _ _ hn1).trans ((World.cell?_setCell_far _ _ _ _ hn1).trans wB0))))))))),((World.cell?_setCell_far _ _ _ _ hn1).trans ((World.cell?_setCell_far _ _ _ _ hn1).trans ((World.cell?_setCell_far _ _ _ _ hn1).trans ((World.cell?_setCell_far _ _ _ _ hn1).trans ((World.cell?_setCell_far _ _ _ _ hn1).trans ((World.cell?_setCell_far _ _ _ _ hn1).trans ((World.cell?_setCell_far _ _ _ _ hn1).trans ((World.cell?_setCell_far _ _ _ _ hn1).trans ((World.cell?_setCell_far _ _ _ _ hn1).trans wB1))))))))),((World.cell?_setCell_far _ _ _ _ hn1).trans ((World.cell?_setCell_far _ _ _ _ hn1).trans ((World.cell?_setCell_far _ _ _ _ hn1).trans ((World.cell?_setCell_far _ _ _ _ hn1).trans ((World.cell?_setCell_far _ _ _ _ hn1).trans ((World.cell?_setCell_far _ _ _ _ hn1).trans ((World.cell?_setCell_far _ _ _ _ hn1).trans ((World.cell?_setCell_far _ _ _ _ hn1).trans ((World.cell?_setCell_far _ _ _ _ hn1).trans wB2))))))))),((World.cell?_setCell_far _ _ _ _ hn1).trans ((World.cell?_setCell_far _ _ _ _ hn1).trans ((World.cell?_setCell_far _ _ _ _ hn1).trans ((World.cell?_setCell_far _ _ _ _ hn1).trans ((World.cell?_setCell_far _ _ _ _ hn1).trans ((World.cell?_setCell_far _ _ _ _ hn1).trans ((World.cell?_setCell_far _ _ _ _ hn1).trans ((World.cell?_setCell_far _ _ _ _ hn1).trans ((World.cell?_setCell_far _ _ _ _ hn1).trans wB3))))))))),((World.cell?_setCell_far _ _ _ _ hn1).trans ((World.cell?_setCell_far _ _ _ _ hn1).trans ((World.cell?_setCell_far _ _ _ _ hn1).trans ((World.cell?_setCell_far _ _ _ _ hn1).trans ((World.cell?_setCell_far _ _ _ _ hn1).trans ((World.cell?_setCell_far _ _ _ _ hn1).trans ((World.cell?_setCell_far _ _ _ _ hn1).trans ((World.cell?_setCell_far _ _ _ _ hn1).trans ((World.cell?_setCell_far _ _ _ _ hn1).trans wB4))))))))),((World.cell?_setCell_far _ _ _ _ hn1).trans ((World.cell?_setCell_far _ _ _ _ hn1).trans ((World.cell?_setCell_far _ _ _ _ hn1).trans ((World.cell?_setCell_far _ _ _ _ hn1).trans ((World.cell?_setCell_far _ _ _ _ hn1).trans ((World.cell?_setCell_far _ _ _ _ hn1).trans ((World.cell?_setCell_far _ _ _ _ hn1).trans ((World.cell?_setCell_far _ _ _ _ hn1).trans ((World.cell?_setCell_far _ _ _ _ hn1).trans wB5))))))))),((World.cell?_setCell_far _ _ _ _ hn1).trans ((World.cell?_setCell_far _ _ _ _ hn1).trans ((World.cell?_setCell_far _ _ _ _ hn1).trans ((World.cell?_setCell_far _ _ _ _ hn1).trans ((World.cell?_setCell_far _ _ _ _ hn1).trans ((World.cell?_setCell_far _ _ _ _ hn1).trans ((World.cell?_setCell_far _ _ _ _ hn1).trans ((World.cell?_setCell_far _ _ _ _ hn1).trans ((World.cell?_setCell_far _ _ _ _ hn1).trans wB6))))))))),((World.cell?_setCell_far _ _ _ _ hn1).trans ((World.cell?_setCell_far _ _ _ _ hn1).trans ((World.cell?_setCell_far _ _ _ _ hn1).trans ((World.cell?_setCell_far _ _ _ _ hn1).trans ((World.cell?_setCell_far _ _ _ _ hn1).trans ((World.cell?_setCell_far _ _ _ _ hn1).trans ((World.cell?_setCell_far _ _ _ _ hn1).trans ((World.cell?_setCell_far _ _ _ _ hn1).trans ((World.cell?_setCell_far _ _ _ _ hn1).trans wB7))))))))),((World.cell?_setCell_far _ _ _ _ hn2).trans ((World.cell?_setCell_far _ _ _ _ hn2).trans ((World.cell?_setCell_far _ _ _ _ hn2).trans ((World.cell?_setCell_far _ _ _ _ hn2).trans ((World.cell?_setCell_far _ _ _ _ hn2).trans ((World.cell?_setCell_far _ _ _ _ hn2).trans ((World.cell?_setCell_far _ _ _ _ hn2).trans ((World.cell?_setCell_far _ _ _ _ hn2).trans ((World.cell?_setCell_far _ _ _ _ hn2).trans wB8))))))))),((World.cell?_setCell_far _ _ _ _ hn2).trans ((World.cell?_setCell_far _ _ _ _ hn2).trans ((World.cell?_setCell_far _ _ _ _ hn2).trans ((World.cell?_setCell_far _ _ _ _ hn2).trans ((World.cell?_setCell_far _ _ _ _ hn2).trans ((World.cell?_setCell_far _ _ _ _ hn2).trans ((World.cell?_setCell_far _ _ _ _ hn2).trans ((World.cell?_setCell_far _ _ _ _ hn2).trans ((World.cell?_setCell_far _ _ _ _ hn2).trans wB9))))))))),((World.cell?_setCell_far _ _ _ _ hn2).trans ((World.cell?_setCell_far _ _ _ _ hn2).trans ((World.cell?_setCell_far _ _ _ _ hn2).trans ((World.cell?_setCell_far _ _ _ _ hn2).trans ((World.cell?_setCell_far _ _ _ _ hn2).trans ((World.cell?_setCell_far _ _ _ _ hn2).trans ((World.cell?_setCell_far _ _ _ _ hn2).trans ((World.cell?_setCell_far _ _ _ _ hn2).trans ((World.cell?_setCell_far _ _ _ _ hn2).trans wB10))))))))),((World.cell?_setCell_far _ _ _ _ hn2).trans ((World.cell?_setCell_far _ _ _ _ hn2).trans ((World.cell?_setCell_far _ _ _ _ hn2).trans ((World.cell?_setCell_far _ _ _ _ hn2).trans ((World.cell?_setCell_far _ _ _ _ hn2).trans ((World.cell?_setCell_far _ _ _ _ hn2).trans ((World.cell?_setCell_far _ _ _ _ hn2).trans ((World.cell?_setCell_far _ _ _ _ hn2).trans ((World.cell?_setCell_far _ _ _ _ hn2).trans wB11))))))))),((World.cell?_setCell_far _ _ _ _ hn2).trans ((World.cell?_setCell_far _ _ _ _ hn2).trans ((World.cell?_setCell_far _ _ _ _ hn2).trans ((World.cell?_setCell_far _ _ _ _ hn2).trans ((World.cell?_setCell_far _ _ _ _ hn2).trans ((World.cell?_setCell_far _ _ _ _ hn2).trans ((World.cell?_setCell_far _ _ _ _ hn2).trans ((World.cell?_setCell_far _ _ _ _ hn2).trans ((World.cell?_setCell_far _ _ _ _ hn2).trans wB12))))))))),((World.cell?_setCell_far _ _ _ _ hn2).trans ((World.cell?_setCell_far _ _ _ _ hn2).trans ((World.cell?_setCell_far _ _ _ _ hn2).trans ((World.cell?_setCell_far _ _ _ _ hn2).trans ((World.cell?_setCell_far _ _ _ _ hn2).trans ((World.cell?_setCell_far _ _ _ _ hn2).trans ((World.cell?_setCell_far _ _ _ _ hn2).trans ((World.cell?_setCell_far _ _ _ _ hn2).trans ((World.cell?_setCell_far _ _ _ _ hn2).trans wB13))))))))),((World.cell?_setCell_far _ _ _ _ hn2).trans ((World.cell?_setCell_far _ _ _ _ hn2).trans ((World.cell?_setCell_far _ _ _ _ hn2).trans ((World.cell?_setCell_far _ _ _ _ hn2).trans ((World.cell?_setCell_far _ _ _ _ hn2).trans ((World.cell?_setCell_far _ _ _ _ hn2).trans ((World.cell?_setCell_far _ _ _ _ hn2).trans ((World.cell?_setCell_far _ _ _ _ hn2).trans ((World.cell?_setCell_far _ _ _ _ hn2).trans wB14))))))))),((World.cell?_setCell_far _ _ _ _ hn2).trans ((World.cell?_setCell_far _ _ _ _ hn2).trans ((World.cell?_setCell_far _ _ _ _ hn2).trans ((World.cell?_setCell_far _ _ _ _ hn2).trans ((World.cell?_setCell_far _ _ _ _ hn2).trans ((World.cell?_setCell_far _ _ _ _ hn2).trans ((World.cell?_setCell_far _ _ _ _ hn2).trans ((World.cell?_setCell_far _ _ _ _ hn2).trans ((World.cell?_setCell_far _ _ _ _ hn2).trans wB15)))))))))⟩)) (first | (go_at_call 50;refine (hl _ ?q0).mono ?_;(case q0=>exact kw.drew);rintro e wA ⟨rfl,gA⟩;have kA:Kp W wA:=Kp.trans (Kp.drew (Kp.refl _)) gA;have wA0:=kkeep kA xw0;have wA1:=kkeep kA xw1;have wA2:=kkeep kA xw2;have wA3:=kkeep kA xw3;have wA4:=kkeep kA xw4;have wA5:=kkeep kA xw5;have wA6:=kkeep kA xw6;have wA7:=kkeep kA xw7;have wA8:=kkeep kA xw8;have wA9:=kkeep kA xw9;have wA10:=kkeep kA xw10;have wA11:=kkeep kA xw11;have wA12:=kkeep kA xw12;have wA13:=kkeep kA xw13;have wA14:=kkeep kA xw14;have wA15:=kkeep kA xw15) | (go_at_call 51;refine (hg _ ?q1).mono ?_;(case q1=>exact kw.trans kA);rintro e wB ⟨rfl,gB⟩;have kB:Kp W wB:=Kp.trans kA gB;have wB0:=kkeep kB xw0;have wB1:=kkeep kB xw1;have wB2:=kkeep kB xw2;have wB3:=kkeep kB xw3;have wB4:=kkeep kB xw4;have wB5:=kkeep kB xw5;have wB6:=kkeep kB xw6;have wB7:=kkeep kB xw7;have wB8:=kkeep kB xw8;have wB9:=kkeep kB xw9;have wB10:=kkeep kB xw10;have wB11:=kkeep kB xw11;have wB12:=kkeep kB xw12;have wB13:=kkeep kB xw13;have wB14:=kkeep kB xw14;have wB15:=kkeep kB xw15;have R0:=kkeep kB r0;have Rz0:wB.frozen? ⟨w.heap.size + 2,0,none⟩ = false:=(kfro kB (cell_lt r0)).trans rz0;have R1:=kkeep kB r1;have Rz1:wB.frozen? ⟨w.heap.size + 2,1,none⟩ = false:=(kfro kB (cell_lt r1)).trans rz1;have R2:=kkeep kB r2;have Rz2:wB.frozen? ⟨w.heap.size + 2,2,none⟩ = false:=(kfro kB (cell_lt r2)).trans rz2;have R3:=kkeep kB r3;have Rz3:wB.frozen? ⟨w.heap.size + 2,3,none⟩ = false:=(kfro kB (cell_lt r3)).trans rz3;have R4:=kkeep kB r4;have Rz4:wB.frozen? ⟨w.heap.size + 2,4,none⟩ = false:=(kfro kB (cell_lt r4)).trans rz4;have R5:=kkeep kB r5;have Rz5:wB.frozen? ⟨w.heap.size + 2,5,none⟩ = false:=(kfro kB (cell_lt r5)).trans rz5;have R6:=kkeep kB r6;have Rz6:wB.frozen? ⟨w.heap.size + 2,6,none⟩ = false:=(kfro kB (cell_lt r6)).trans rz6;have R7:=kkeep kB r7;have Rz7:wB.frozen? ⟨w.heap.size + 2,7,none⟩ = false:=(kfro kB (cell_lt r7)).trans rz7;have R8:=kkeep kB r8;have Rz8:wB.frozen? ⟨w.heap.size + 2,8,none⟩ = false:=(kfro kB (cell_lt r8)).trans rz8))
  all_goals (
    go_wp2
    exact bodyPost_ret (v:=.agg #[.bool false,.int .i64 i3,.bool s7,.slice p7 l7 c7,.slice q7 k7 d7,.int .i64 j3,.bool s8,.slice p8 l8 c8,.slice q8 k8 d8]) (by simp [results,Try.results35,go_sem,R0,R1,R2,R3,R4,R5,R6,R7,R8]) rfl ⟨rfl,((((((((((Kp.trans kw kB)).setCell (by simp <;> omega) _).setCell (by simp <;> omega) _).setCell (by simp <;> omega) _).setCell (by simp <;> omega) _).setCell (by simp <;> omega) _).setCell (by simp <;> omega) _).setCell (by simp <;> omega) _).setCell (by simp <;> omega) _).setCell (by simp <;> omega) _⟩)
theorem hullTT_ (i j i2 j2:Int) s p l c q k d s2 p2 l2 c2 q2 k2 d2 s5 p5 l5 c5 q5 k5 d5 s6 p6 l6 c6 q6 k6 d6 (w:World) (hl:∀ W:World,Kp w W→Calls Try.prog 50 #[.agg #[.int .i64 i,.bool s,.slice p l c,.slice q k d],.agg #[.int .i64 i2,.bool s5,.slice p5 l5 c5,.slice q5 k5 d5]] W fun e w'=>e = .returned (.agg #[.int .i64 i2,.bool s5,.slice p5 l5 c5,.slice q5 k5 d5])∧Kp W w') (hg:∀ W:World,Kp w W→Calls Try.prog 51 #[.agg #[.int .i64 j,.bool s2,.slice p2 l2 c2,.slice q2 k2 d2],.agg #[.int .i64 j2,.bool s6,.slice p6 l6 c6,.slice q6 k6 d6]] W fun e w'=>e = .returned (.agg #[.int .i64 j2,.bool s6,.slice p6 l6 c6,.slice q6 k6 d6])∧Kp W w'):Calls Try.prog 35 #[.agg #[.bool false,.int .i64 i,.bool s,.slice p l c,.slice q k d,.int .i64 j,.bool s2,.slice p2 l2 c2,.slice q2 k2 d2],.agg #[.bool false,.int .i64 i2,.bool s5,.slice p5 l5 c5,.slice q5 k5 d5,.int .i64 j2,.bool s6,.slice p6 l6 c6,.slice q6 k6 d6]] w fun e w'=>e = .returned (.agg #[.bool false,.int .i64 i2,.bool s5,.slice p5 l5 c5,.slice q5 k5 d5,.int .i64 j2,.bool s6,.slice p6 l6 c6,.slice q6 k6 d6])∧Kp w w' :=
  hullG_ i j i2 j2 s p l c q k d s2 p2 l2 c2 q2 k2 d2 s5 p5 l5 c5 q5 k5 d5 s6 p6 l6 c6 q6 k6 d6 i2 j2 s5 p5 l5 c5 q5 k5 d5 s6 p6 l6 c6 q6 k6 d6 w hl hg
theorem hullTS_ (i j i2 j2:Int) s p l c q k d s2 p2 l2 c2 q2 k2 d2 s5 p5 l5 c5 q5 k5 d5 s6 p6 l6 c6 q6 k6 d6 (w:World) (hl:∀ W:World,Kp w W→Calls Try.prog 50 #[.agg #[.int .i64 i,.bool s,.slice p l c,.slice q k d],.agg #[.int .i64 i2,.bool s5,.slice p5 l5 c5,.slice q5 k5 d5]] W fun e w'=>e = .returned (.agg #[.int .i64 i2,.bool s5,.slice p5 l5 c5,.slice q5 k5 d5])∧Kp W w') (hg:∀ W:World,Kp w W→Calls Try.prog 51 #[.agg #[.int .i64 j,.bool s2,.slice p2 l2 c2,.slice q2 k2 d2],.agg #[.int .i64 j2,.bool s6,.slice p6 l6 c6,.slice q6 k6 d6]] W fun e w'=>e = .returned (.agg #[.int .i64 j,.bool s2,.slice p2 l2 c2,.slice q2 k2 d2])∧Kp W w'):Calls Try.prog 35 #[.agg #[.bool false,.int .i64 i,.bool s,.slice p l c,.slice q k d,.int .i64 j,.bool s2,.slice p2 l2 c2,.slice q2 k2 d2],.agg #[.bool false,.int .i64 i2,.bool s5,.slice p5 l5 c5,.slice q5 k5 d5,.int .i64 j2,.bool s6,.slice p6 l6 c6,.slice q6 k6 d6]] w fun e w'=>e = .returned (.agg #[.bool false,.int .i64 i2,.bool s5,.slice p5 l5 c5,.slice q5 k5 d5,.int .i64 j,.bool s2,.slice p2 l2 c2,.slice q2 k2 d2])∧Kp w w' :=
  hullG_ i j i2 j2 s p l c q k d s2 p2 l2 c2 q2 k2 d2 s5 p5 l5 c5 q5 k5 d5 s6 p6 l6 c6 q6 k6 d6 i2 j s5 p5 l5 c5 q5 k5 d5 s2 p2 l2 c2 q2 k2 d2 w hl hg
theorem hullST_ (i j i2 j2:Int) s p l c q k d s2 p2 l2 c2 q2 k2 d2 s5 p5 l5 c5 q5 k5 d5 s6 p6 l6 c6 q6 k6 d6 (w:World) (hl:∀ W:World,Kp w W→Calls Try.prog 50 #[.agg #[.int .i64 i,.bool s,.slice p l c,.slice q k d],.agg #[.int .i64 i2,.bool s5,.slice p5 l5 c5,.slice q5 k5 d5]] W fun e w'=>e = .returned (.agg #[.int .i64 i,.bool s,.slice p l c,.slice q k d])∧Kp W w') (hg:∀ W:World,Kp w W→Calls Try.prog 51 #[.agg #[.int .i64 j,.bool s2,.slice p2 l2 c2,.slice q2 k2 d2],.agg #[.int .i64 j2,.bool s6,.slice p6 l6 c6,.slice q6 k6 d6]] W fun e w'=>e = .returned (.agg #[.int .i64 j2,.bool s6,.slice p6 l6 c6,.slice q6 k6 d6])∧Kp W w'):Calls Try.prog 35 #[.agg #[.bool false,.int .i64 i,.bool s,.slice p l c,.slice q k d,.int .i64 j,.bool s2,.slice p2 l2 c2,.slice q2 k2 d2],.agg #[.bool false,.int .i64 i2,.bool s5,.slice p5 l5 c5,.slice q5 k5 d5,.int .i64 j2,.bool s6,.slice p6 l6 c6,.slice q6 k6 d6]] w fun e w'=>e = .returned (.agg #[.bool false,.int .i64 i,.bool s,.slice p l c,.slice q k d,.int .i64 j2,.bool s6,.slice p6 l6 c6,.slice q6 k6 d6])∧Kp w w' :=
  hullG_ i j i2 j2 s p l c q k d s2 p2 l2 c2 q2 k2 d2 s5 p5 l5 c5 q5 k5 d5 s6 p6 l6 c6 q6 k6 d6 i j2 s p l c q k d s6 p6 l6 c6 q6 k6 d6 w hl hg
theorem hullSS_ (i j i2 j2:Int) s p l c q k d s2 p2 l2 c2 q2 k2 d2 s5 p5 l5 c5 q5 k5 d5 s6 p6 l6 c6 q6 k6 d6 (w:World) (hl:∀ W:World,Kp w W→Calls Try.prog 50 #[.agg #[.int .i64 i,.bool s,.slice p l c,.slice q k d],.agg #[.int .i64 i2,.bool s5,.slice p5 l5 c5,.slice q5 k5 d5]] W fun e w'=>e = .returned (.agg #[.int .i64 i,.bool s,.slice p l c,.slice q k d])∧Kp W w') (hg:∀ W:World,Kp w W→Calls Try.prog 51 #[.agg #[.int .i64 j,.bool s2,.slice p2 l2 c2,.slice q2 k2 d2],.agg #[.int .i64 j2,.bool s6,.slice p6 l6 c6,.slice q6 k6 d6]] W fun e w'=>e = .returned (.agg #[.int .i64 j,.bool s2,.slice p2 l2 c2,.slice q2 k2 d2])∧Kp W w'):Calls Try.prog 35 #[.agg #[.bool false,.int .i64 i,.bool s,.slice p l c,.slice q k d,.int .i64 j,.bool s2,.slice p2 l2 c2,.slice q2 k2 d2],.agg #[.bool false,.int .i64 i2,.bool s5,.slice p5 l5 c5,.slice q5 k5 d5,.int .i64 j2,.bool s6,.slice p6 l6 c6,.slice q6 k6 d6]] w fun e w'=>e = .returned (.agg #[.bool false,.int .i64 i,.bool s,.slice p l c,.slice q k d,.int .i64 j,.bool s2,.slice p2 l2 c2,.slice q2 k2 d2])∧Kp w w' :=
  hullG_ i j i2 j2 s p l c q k d s2 p2 l2 c2 q2 k2 d2 s5 p5 l5 c5 q5 k5 d5 s6 p6 l6 c6 q6 k6 d6 i j s p l c q k d s2 p2 l2 c2 q2 k2 d2 w hl hg
end Go.Proofs.Ytcepchaakfiojaa
