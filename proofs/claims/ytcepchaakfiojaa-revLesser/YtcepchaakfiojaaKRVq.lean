import Derived.Test.YtcepchaakfiojaaKRLa
import Derived.Test.YtcepchaakfiojaaKRVi
set_option maxHeartbeats 4000000
set_option maxRecDepth 20000
namespace Go.Proofs.Ytcepchaakfiojaa
open Go.RowKit
set_option linter.unusedVariables false
set_option linter.unusedSimpArgs false

theorem opP_pw (x:Int) (h:BdZ x):opP (pw x) = pw (-x):=by
  have h2:=abs_pw x h
  unfold opP pw Fq.wD
  rcases Int.lt_trichotomy x 0 with c | c | c
  · rw [decide_eq_true c,decide_eq_false (show ¬ -x < 0 by omega),Int.natAbs_neg]
    simp;repeat' split
    all_goals omega
  · subst c;rfl
  · rw [decide_eq_false (show ¬ x < 0 by omega),decide_eq_true (show -x < 0 by omega),Int.natAbs_neg]
    simp;repeat' split
    all_goals omega
theorem vd_neg (L H:Int) (h:VdZ L H):VdZ (-H) (-L):=by unfold VdZ at *;omega
theorem minus9_ (x:Int) (h:BdZ x) (w:World):Calls Try.prog 37 #[.float .f64 (pw x)] w fun e w'=>e = .returned (.float .f64 (pw (-x)))∧w' = w:=by
  have g:=minus6_ (decide (x < 0)) x.natAbs (abs_pw x h) w
  have e:=opP_pw x h
  unfold pw at e ⊢
  rw [e] at g
  exact g
theorem neg9_ (a b:Nat) (L H:Int) (hx:Rd a b L H) (w:World):Calls Try.prog 24 #[.agg #[.float .f64 a,.float .f64 b]] w fun e w'=>e = .returned (.agg #[.float .f64 (pw (-H)),.float .f64 (pw (-L))])∧Kp w w' :=
  neg6c_ a b _ _ _ _ hx.call (minus9_ L hx.vd.lo) (minus9_ H hx.vd.hi) w
theorem empty9_ (w:World):Calls Try.prog 14 #[] w fun e w'=>e = .returned (.agg #[.float .f64 9218868437227405312,.float .f64 18442240474082181120])∧Kp w w':=by
  refine (Fq.empty6_ w).mono ?_
  exact fun e w' h=>⟨h.1,by first | exact h.2 | (rw [h.2];exact (Kp.refl _).alloc _)⟩
theorem rnegPp_ (a b:Nat) (ha:a < 18446744073709551616) (hb:b < 18446744073709551616) (w:World):Calls Try.prog 25 #[.agg #[.int .u64 ((a:Nat):Int),.int .u64 ((b:Nat):Int)]] w fun e w'=>e = .returned (.agg #[.int .u64 ((opP (Fq.rhi a b):Nat):Int),.int .u64 ((opP (Fq.rlo a b):Nat):Int)])∧Kp w w':=by
  by_cases s1:Fq.snd a b = true
  · obtain ⟨n,m,l1,e1⟩:=rlo_w a b ha hb
    obtain ⟨g,r,l2,e2⟩:=rhi_w a b ha hb
    have q1:opP (Fq.rhi a b) = Fq.pla (Fq.wD (!g) r):=by rw [e2,opP_w g r (by omega)];rfl
    have q2:opP (Fq.rlo a b) = Fq.pla (Fq.wD (!n) m):=by rw [e1,opP_w n m (by omega)];rfl
    rw [q1,q2]
    have i1:=rlo_inf a b s1 n m e1
    have i2:=rhi_inf a b s1 g r e2
    exact rneg7c_ _ _ _ _ (SV1 n m g r) (SV1 (!g) r (!n) m) w (fun W _=>ofSound_ a b ha hb s1 n g m r l1 l2 e1 e2 W) (fun W v _ h=>minusS_ n g m r W v h) (fun W v _ h=>leastV_ (!g) (!n) r m l2 l1 (fun h=>by rw [i2 h];rfl) (fun h=>by rw [i1 h];rfl) W v h)
  · have s1:Fq.snd a b = false:=by simpa using s1
    have q1:opP (Fq.rhi a b) = 9218868437227405312:=by rw [show Fq.rhi a b = 18442240474082181120 from by rw [Fq.rhi,if_neg (by rw [s1];decide)]];decide +kernel
    have q2:opP (Fq.rlo a b) = 18442240474082181120:=by rw [show Fq.rlo a b = 9218868437227405312 from by rw [Fq.rlo,if_neg (by rw [s1];decide)]];decide +kernel
    rw [q1,q2]
    exact rneg7c_ _ _ _ _ (fun _ v=>SV0 true v) (fun _ v=>SV0 true v) w (fun W _=>ofEmpty_ a b ha hb s1 W) (fun W v _ h=>minusX_ W v h) (fun W v _ h=>leastN_ W v h)

theorem rnegZz_ (a b:Nat) (L H:Int) (hx:Rd a b L H) (w:World):Calls Try.prog 25 #[.agg #[.int .u64 ((a:Nat):Int),.int .u64 ((b:Nat):Int)]] w fun e w'=>e = .returned (.agg #[.int .u64 (pI (-H)),.int .u64 (pI (-L))])∧Kp w w':=by
  have g:=rnegPp_ a b hx.1 hx.2.1 w
  rw [hx.2.2.2.1,hx.2.2.2.2,opP_pw L hx.vd.lo,opP_pw H hx.vd.hi] at g
  exact g
theorem pmin9_ (a b c d e f:Nat) (Lb Hb Lc Hc Lx Hx:Int) (rb:Rd a b Lb Hb) (rc:Rd c d Lc Hc) (rx:Rd e f Lx Hx) (w:World):Calls Try.prog 6 #[.agg #[.float .f64 a,.float .f64 b],.agg #[.float .f64 c,.float .f64 d],.agg #[.float .f64 e,.float .f64 f]] w fun e w'=>e = .returned (.agg #[.float .f64 (pw (mnL Lb Hb Lc Hc Lx Hx)),.float .f64 (pw (mnH Lb Hb Lc Hc Lx Hx))])∧Kp w w':=by
  have db:=rb.vd
  have dc:=rc.vd
  have D1:=db
  have D2:=dc
  unfold VdZ at D1 D2
  have he1:=fun w=>isemp9_ (pw Lb) (pw Hb) Lb Hb (Rd.of db) w
  have he2:=fun w=>isemp9_ (pw Lc) (pw Hc) Lc Hc (Rd.of dc) w
  by_cases c1:Lb = 9218868437227405312
  · have e1:mnL Lb Hb Lc Hc Lx Hx = 9218868437227405312:=if_pos (Or.inl c1)
    have e2:mnH Lb Hb Lc Hc Lx Hx = -9218868437227405312:=if_pos (Or.inl c1)
    rw [e1,e2,pw_I,pw_MI]
    rw [decide_eq_true c1] at he1
    exact minE1_ a b c d e f _ _ _ _ rb.call rc.call empty9_ he1 w
  · rw [decide_eq_false c1] at he1
    by_cases c2:Lc = 9218868437227405312
    · have e1:mnL Lb Hb Lc Hc Lx Hx = 9218868437227405312:=if_pos (Or.inr (Or.inl c2))
      have e2:mnH Lb Hb Lc Hc Lx Hx = -9218868437227405312:=if_pos (Or.inr (Or.inl c2))
      rw [e1,e2,pw_I,pw_MI]
      rw [decide_eq_true c2] at he2
      exact minE2_ a b c d e f _ _ _ _ rb.call rc.call empty9_ he1 he2 w
    · rw [decide_eq_false c2] at he2
      have t1:=plt9 Hb Lc db.hi dc.lo
      have t2:=plt9 Hc Lb dc.hi db.lo
      by_cases c3:Hb < Lc
      · have e1:mnL Lb Hb Lc Hc Lx Hx = 9218868437227405312:=if_pos (Or.inr (Or.inr c3))
        have e2:mnH Lb Hb Lc Hc Lx Hx = -9218868437227405312:=if_pos (Or.inr (Or.inr c3))
        rw [e1,e2,pw_I,pw_MI]
        rw [decide_eq_true c3] at t1
        exact minE3_ a b c d e f _ _ _ _ rb.call rc.call empty9_ he1 he2 t1 w
      · rw [decide_eq_false c3] at t1
        have n1:¬ (Lb = 9218868437227405312∨Lc = 9218868437227405312∨Hb < Lc):=by omega
        by_cases c4:Hc < Lb
        · have e1:mnL Lb Hb Lc Hc Lx Hx = iL Lx Hx Lc Hc:=by unfold mnL;rw [if_neg n1,if_pos c4]
          have e2:mnH Lb Hb Lc Hc Lx Hx = iH Lx Hx Lc Hc:=by unfold mnH;rw [if_neg n1,if_pos c4]
          rw [e1,e2]
          rw [decide_eq_true c4] at t2
          exact minC_ a b c d e f _ _ _ _ rb.call rc.call empty9_ he1 he2 t1 t2 _ _ (fun w=>meet9_ e f (pw Lc) (pw Hc) Lx Hx Lc Hc rx (Rd.of dc) w) w
        · have e1:mnL Lb Hb Lc Hc Lx Hx = iL Lx Hx Lc 9218868437227405312:=by unfold mnL;rw [if_neg n1,if_neg c4]
          have e2:mnH Lb Hb Lc Hc Lx Hx = iH Lx Hx Lc 9218868437227405312:=by unfold mnH;rw [if_neg n1,if_neg c4]
          rw [e1,e2]
          rw [decide_eq_false c4] at t2
          have d3:VdZ Lc 9218868437227405312:=by unfold VdZ;omega
          have r3:=Rd.of d3
          rw [pw_I] at r3
          exact minX_ a b c d e f _ _ _ _ rb.call rc.call empty9_ he1 he2 t1 t2 (fun w=>(Fq.inf1_ w).mono (fun e w' q=>⟨q.1,by rw [q.2];exact Kp.refl _⟩)) _ _ (fun w=>meet9_ e f (pw Lc) 9218868437227405312 Lx Hx Lc 9218868437227405312 rx r3 w) w
set_option linter.unusedVariables false
set_option linter.unusedSimpArgs false
theorem pmaxw_ (a1 a2 b1 b2 x1 x2 p1 p2 q1 q2 y1 y2 r1 r2 s1 s2:Nat) (hn1:∀ W:World,Calls Try.prog 24 #[.agg #[.float .f64 a1,.float .f64 a2]] W fun e w'=>e = .returned (.agg #[.float .f64 p1,.float .f64 p2])∧Kp W w') (hn2:∀ W:World,Calls Try.prog 24 #[.agg #[.float .f64 b1,.float .f64 b2]] W fun e w'=>e = .returned (.agg #[.float .f64 q1,.float .f64 q2])∧Kp W w') (hn3:∀ W:World,Calls Try.prog 24 #[.agg #[.float .f64 x1,.float .f64 x2]] W fun e w'=>e = .returned (.agg #[.float .f64 y1,.float .f64 y2])∧Kp W w') (hm:∀ W:World,Calls Try.prog 6 #[.agg #[.float .f64 p1,.float .f64 p2],.agg #[.float .f64 q1,.float .f64 q2],.agg #[.float .f64 y1,.float .f64 y2]] W fun e w'=>e = .returned (.agg #[.float .f64 r1,.float .f64 r2])∧Kp W w') (hn4:∀ W:World,Calls Try.prog 24 #[.agg #[.float .f64 r1,.float .f64 r2]] W fun e w'=>e = .returned (.agg #[.float .f64 s1,.float .f64 s2])∧Kp W w') (w:World):Calls Try.prog 8 #[.agg #[.float .f64 a1,.float .f64 a2],.agg #[.float .f64 b1,.float .f64 b2],.agg #[.float .f64 x1,.float .f64 x2]] w fun e w'=>e = .returned (.agg #[.float .f64 s1,.float .f64 s2])∧Kp w w':=by
  go_enter Try.func8,Try.ntmps8
  go_upto_region 1 with fail
  have kw:Kp w ((((w.alloc (.cells #[.float .f64 a1,.float .f64 a2] 29)).alloc (.cells #[.float .f64 b1,.float .f64 b2] 29)).alloc (.cells #[.float .f64 x1,.float .f64 x2] 29)).alloc (.cells #[.float .f64 0,.float .f64 0] 29)):=((((Kp.refl w).alloc _).alloc _).alloc _).alloc _
  have hA:BK ((((w.alloc (.cells #[.float .f64 a1,.float .f64 a2] 29)).alloc (.cells #[.float .f64 b1,.float .f64 b2] 29)).alloc (.cells #[.float .f64 x1,.float .f64 x2] 29)).alloc (.cells #[.float .f64 0,.float .f64 0] 29)) w.heap.size #[.float .f64 a1,.float .f64 a2] 29:=((((BK.new w _ _).kp ((Kp.refl _).alloc _)).kp ((Kp.refl _).alloc _)).kp ((Kp.refl _).alloc _))
  have hB:BK ((((w.alloc (.cells #[.float .f64 a1,.float .f64 a2] 29)).alloc (.cells #[.float .f64 b1,.float .f64 b2] 29)).alloc (.cells #[.float .f64 x1,.float .f64 x2] 29)).alloc (.cells #[.float .f64 0,.float .f64 0] 29)) (w.heap.size + 1) #[.float .f64 b1,.float .f64 b2] 29:=((BK.newAt (by simp) _ _).kp ((Kp.refl _).alloc _)).kp ((Kp.refl _).alloc _)
  have hX:BK ((((w.alloc (.cells #[.float .f64 a1,.float .f64 a2] 29)).alloc (.cells #[.float .f64 b1,.float .f64 b2] 29)).alloc (.cells #[.float .f64 x1,.float .f64 x2] 29)).alloc (.cells #[.float .f64 0,.float .f64 0] 29)) (w.heap.size + 2) #[.float .f64 x1,.float .f64 x2] 29:=(BK.newAt (by simp) _ _).kp ((Kp.refl _).alloc _)
  have hR:BK ((((w.alloc (.cells #[.float .f64 a1,.float .f64 a2] 29)).alloc (.cells #[.float .f64 b1,.float .f64 b2] 29)).alloc (.cells #[.float .f64 x1,.float .f64 x2] 29)).alloc (.cells #[.float .f64 0,.float .f64 0] 29)) (w.heap.size + 3) #[.float .f64 0,.float .f64 0] 29:=BK.newAt (by simp) _ _
  generalize ((((w.alloc (.cells #[.float .f64 a1,.float .f64 a2] 29)).alloc (.cells #[.float .f64 b1,.float .f64 b2] 29)).alloc (.cells #[.float .f64 x1,.float .f64 x2] 29)).alloc (.cells #[.float .f64 0,.float .f64 0] 29)) = W at kw hA hB hX hR ⊢
  have xw0:W.cell? ⟨w.heap.size,0,none⟩ = some (.float .f64 a1):=(hA.cell 0).trans rfl
  have dw0:W.drew.cell? ⟨w.heap.size,0,none⟩ = some (.float .f64 a1):=xw0
  have xw1:W.cell? ⟨w.heap.size,1,none⟩ = some (.float .f64 a2):=(hA.cell 1).trans rfl
  have dw1:W.drew.cell? ⟨w.heap.size,1,none⟩ = some (.float .f64 a2):=xw1
  have xw2:W.cell? ⟨w.heap.size + 1,0,none⟩ = some (.float .f64 b1):=(hB.cell 0).trans rfl
  have dw2:W.drew.cell? ⟨w.heap.size + 1,0,none⟩ = some (.float .f64 b1):=xw2
  have xw3:W.cell? ⟨w.heap.size + 1,1,none⟩ = some (.float .f64 b2):=(hB.cell 1).trans rfl
  have dw3:W.drew.cell? ⟨w.heap.size + 1,1,none⟩ = some (.float .f64 b2):=xw3
  have xw4:W.cell? ⟨w.heap.size + 2,0,none⟩ = some (.float .f64 x1):=(hX.cell 0).trans rfl
  have dw4:W.drew.cell? ⟨w.heap.size + 2,0,none⟩ = some (.float .f64 x1):=xw4
  have xw5:W.cell? ⟨w.heap.size + 2,1,none⟩ = some (.float .f64 x2):=(hX.cell 1).trans rfl
  have dw5:W.drew.cell? ⟨w.heap.size + 2,1,none⟩ = some (.float .f64 x2):=xw5
  clear hA hB hX
  go_region_held3 (fun w'=>w'.cell? ⟨w.heap.size,0,none⟩ = some (.float .f64 a1)∧w'.cell? ⟨w.heap.size,1,none⟩ = some (.float .f64 a2)∧w'.cell? ⟨w.heap.size + 1,0,none⟩ = some (.float .f64 b1)∧w'.cell? ⟨w.heap.size + 1,1,none⟩ = some (.float .f64 b2)∧w'.cell? ⟨w.heap.size + 2,0,none⟩ = some (.float .f64 x1)∧w'.cell? ⟨w.heap.size + 2,1,none⟩ = some (.float .f64 x2)) (first | (with_reducible exact ⟨xw0,xw1,xw2,xw3,xw4,xw5⟩) | (with_reducible exact ⟨dw0,dw1,dw2,dw3,dw4,dw5⟩) | (with_reducible exact ⟨ca0,ca1,ca2,ca3,ca4,ca5⟩) | (with_reducible exact ⟨cb0,cb1,cb2,cb3,cb4,cb5⟩) | (with_reducible exact ⟨cc0,cc1,cc2,cc3,cc4,cc5⟩) | (with_reducible exact ⟨cd0,cd1,cd2,cd3,cd4,cd5⟩) | (with_reducible exact ⟨ce0,ce1,ce2,ce3,ce4,ce5⟩) | (exact ⟨((World.cell?_setCell_far _ _ _ _ (by simp <;> omega)).trans ((World.cell?_setCell_far _ _ _ _ (by simp <;> omega)).trans ce0)),((World.cell?_setCell_far _ _ _ _ (by simp <;> omega)).trans ((World.cell?_setCell_far _ _ _ _ (by simp <;> omega)).trans ce1)),((World.cell?_setCell_far _ _ _ _ (by simp <;> omega)).trans ((World.cell?_setCell_far _ _ _ _ (by simp <;> omega)).trans ce2)),((World.cell?_setCell_far _ _ _ _ (by simp <;> omega)).trans ((World.cell?_setCell_far _ _ _ _ (by simp <;> omega)).trans ce3)),((World.cell?_setCell_far _ _ _ _ (by simp <;> omega)).trans ((World.cell?_setCell_far _ _ _ _ (by simp <;> omega)).trans ce4)),((World.cell?_setCell_far _ _ _ _ (by simp <;> omega)).trans ((World.cell?_setCell_far _ _ _ _ (by simp <;> omega)).trans ce5))⟩)) (first | (have z9:=kd;clear z9;go_at_call 24;refine (hn4 _).mono ?_;rintro e w4 ⟨rfl,g4⟩;have ke:Kp W w4:=Kp.trans kd g4;have ce0:=kkeep ke xw0;have ce1:=kkeep ke xw1;have ce2:=kkeep ke xw2;have ce3:=kkeep ke xw3;have ce4:=kkeep ke xw4;have ce5:=kkeep ke xw5;have hRe:=hR.kp ke;have r0:w4.cell? ⟨w.heap.size + 3,0,none⟩ = some (.float .f64 0):=(hRe.cell 0).trans rfl;have rz0:=hRe.frozen 0;have r1:w4.cell? ⟨w.heap.size + 3,1,none⟩ = some (.float .f64 0):=(hRe.cell 1).trans rfl;have rz1:=hRe.frozen 1;skip) | (have z9:=kc;clear z9;go_at_call 6;refine (hm _).mono ?_;rintro e w3 ⟨rfl,g3⟩;have kd:Kp W w3:=Kp.trans kc g3;have cd0:=kkeep kd xw0;have cd1:=kkeep kd xw1;have cd2:=kkeep kd xw2;have cd3:=kkeep kd xw3;have cd4:=kkeep kd xw4;have cd5:=kkeep kd xw5) | (have z9:=kb;clear z9;go_at_call 24;refine (hn3 _).mono ?_;rintro e w2 ⟨rfl,g2⟩;have kc:Kp W w2:=Kp.trans kb g2;have cc0:=kkeep kc xw0;have cc1:=kkeep kc xw1;have cc2:=kkeep kc xw2;have cc3:=kkeep kc xw3;have cc4:=kkeep kc xw4;have cc5:=kkeep kc xw5) | (have z9:=ka;clear z9;go_at_call 24;refine (hn2 _).mono ?_;rintro e w1 ⟨rfl,g1⟩;have kb:Kp W w1:=Kp.trans ka g1;have cb0:=kkeep kb xw0;have cb1:=kkeep kb xw1;have cb2:=kkeep kb xw2;have cb3:=kkeep kb xw3;have cb4:=kkeep kb xw4;have cb5:=kkeep kb xw5) | (go_at_call 24;refine (hn1 _).mono ?_;rintro e w0 ⟨rfl,g0⟩;have ka:Kp W w0:=Kp.trans (Kp.drew (Kp.refl _)) g0;have ca0:=kkeep ka xw0;have ca1:=kkeep ka xw1;have ca2:=kkeep ka xw2;have ca3:=kkeep ka xw3;have ca4:=kkeep ka xw4;have ca5:=kkeep ka xw5))
  go_wp2
  exact bodyPost_ret (v:=.agg #[.float .f64 s1,.float .f64 s2]) (by simp [results,Try.results8,go_sem,r0,r1]) rfl ⟨rfl,(((Kp.trans kw ke).setCell (by first | omega | (simp <;> omega)) _).setCell (by first | omega | (simp <;> omega)) _)⟩
theorem rmaxw_ (a1 a2 b1 b2 x1 x2 p1 p2 q1 q2 y1 y2 r1 r2 s1 s2:Int) (hn1:∀ W:World,Calls Try.prog 25 #[.agg #[.int .u64 a1,.int .u64 a2]] W fun e w'=>e = .returned (.agg #[.int .u64 p1,.int .u64 p2])∧Kp W w') (hn2:∀ W:World,Calls Try.prog 25 #[.agg #[.int .u64 b1,.int .u64 b2]] W fun e w'=>e = .returned (.agg #[.int .u64 q1,.int .u64 q2])∧Kp W w') (hn3:∀ W:World,Calls Try.prog 25 #[.agg #[.int .u64 x1,.int .u64 x2]] W fun e w'=>e = .returned (.agg #[.int .u64 y1,.int .u64 y2])∧Kp W w') (hm:∀ W:World,Calls Try.prog 7 #[.agg #[.int .u64 p1,.int .u64 p2],.agg #[.int .u64 q1,.int .u64 q2],.agg #[.int .u64 y1,.int .u64 y2]] W fun e w'=>e = .returned (.agg #[.int .u64 r1,.int .u64 r2])∧Kp W w') (hn4:∀ W:World,Calls Try.prog 25 #[.agg #[.int .u64 r1,.int .u64 r2]] W fun e w'=>e = .returned (.agg #[.int .u64 s1,.int .u64 s2])∧Kp W w') (w:World):Calls Try.prog 9 #[.agg #[.int .u64 a1,.int .u64 a2],.agg #[.int .u64 b1,.int .u64 b2],.agg #[.int .u64 x1,.int .u64 x2]] w fun e w'=>e = .returned (.agg #[.int .u64 s1,.int .u64 s2])∧Kp w w':=by
  go_enter Try.func9,Try.ntmps9
  go_upto_region 1 with fail
  have kw:Kp w ((((w.alloc (.cells #[.int .u64 a1,.int .u64 a2] 24)).alloc (.cells #[.int .u64 b1,.int .u64 b2] 24)).alloc (.cells #[.int .u64 x1,.int .u64 x2] 24)).alloc (.cells #[.int .u64 0,.int .u64 0] 24)):=((((Kp.refl w).alloc _).alloc _).alloc _).alloc _
  have hA:BK ((((w.alloc (.cells #[.int .u64 a1,.int .u64 a2] 24)).alloc (.cells #[.int .u64 b1,.int .u64 b2] 24)).alloc (.cells #[.int .u64 x1,.int .u64 x2] 24)).alloc (.cells #[.int .u64 0,.int .u64 0] 24)) w.heap.size #[.int .u64 a1,.int .u64 a2] 24:=((((BK.new w _ _).kp ((Kp.refl _).alloc _)).kp ((Kp.refl _).alloc _)).kp ((Kp.refl _).alloc _))
  have hB:BK ((((w.alloc (.cells #[.int .u64 a1,.int .u64 a2] 24)).alloc (.cells #[.int .u64 b1,.int .u64 b2] 24)).alloc (.cells #[.int .u64 x1,.int .u64 x2] 24)).alloc (.cells #[.int .u64 0,.int .u64 0] 24)) (w.heap.size + 1) #[.int .u64 b1,.int .u64 b2] 24:=((BK.newAt (by simp) _ _).kp ((Kp.refl _).alloc _)).kp ((Kp.refl _).alloc _)
  have hX:BK ((((w.alloc (.cells #[.int .u64 a1,.int .u64 a2] 24)).alloc (.cells #[.int .u64 b1,.int .u64 b2] 24)).alloc (.cells #[.int .u64 x1,.int .u64 x2] 24)).alloc (.cells #[.int .u64 0,.int .u64 0] 24)) (w.heap.size + 2) #[.int .u64 x1,.int .u64 x2] 24:=(BK.newAt (by simp) _ _).kp ((Kp.refl _).alloc _)
  have hR:BK ((((w.alloc (.cells #[.int .u64 a1,.int .u64 a2] 24)).alloc (.cells #[.int .u64 b1,.int .u64 b2] 24)).alloc (.cells #[.int .u64 x1,.int .u64 x2] 24)).alloc (.cells #[.int .u64 0,.int .u64 0] 24)) (w.heap.size + 3) #[.int .u64 0,.int .u64 0] 24:=BK.newAt (by simp) _ _
  generalize ((((w.alloc (.cells #[.int .u64 a1,.int .u64 a2] 24)).alloc (.cells #[.int .u64 b1,.int .u64 b2] 24)).alloc (.cells #[.int .u64 x1,.int .u64 x2] 24)).alloc (.cells #[.int .u64 0,.int .u64 0] 24)) = W at kw hA hB hX hR ⊢
  have xw0:W.cell? ⟨w.heap.size,0,none⟩ = some (.int .u64 a1):=(hA.cell 0).trans rfl
  have dw0:W.drew.cell? ⟨w.heap.size,0,none⟩ = some (.int .u64 a1):=xw0
  have xw1:W.cell? ⟨w.heap.size,1,none⟩ = some (.int .u64 a2):=(hA.cell 1).trans rfl
  have dw1:W.drew.cell? ⟨w.heap.size,1,none⟩ = some (.int .u64 a2):=xw1
  have xw2:W.cell? ⟨w.heap.size + 1,0,none⟩ = some (.int .u64 b1):=(hB.cell 0).trans rfl
  have dw2:W.drew.cell? ⟨w.heap.size + 1,0,none⟩ = some (.int .u64 b1):=xw2
  have xw3:W.cell? ⟨w.heap.size + 1,1,none⟩ = some (.int .u64 b2):=(hB.cell 1).trans rfl
  have dw3:W.drew.cell? ⟨w.heap.size + 1,1,none⟩ = some (.int .u64 b2):=xw3
  have xw4:W.cell? ⟨w.heap.size + 2,0,none⟩ = some (.int .u64 x1):=(hX.cell 0).trans rfl
  have dw4:W.drew.cell? ⟨w.heap.size + 2,0,none⟩ = some (.int .u64 x1):=xw4
  have xw5:W.cell? ⟨w.heap.size + 2,1,none⟩ = some (.int .u64 x2):=(hX.cell 1).trans rfl
  have dw5:W.drew.cell? ⟨w.heap.size + 2,1,none⟩ = some (.int .u64 x2):=xw5
  clear hA hB hX
  go_region_held3 (fun w'=>w'.cell? ⟨w.heap.size,0,none⟩ = some (.int .u64 a1)∧w'.cell? ⟨w.heap.size,1,none⟩ = some (.int .u64 a2)∧w'.cell? ⟨w.heap.size + 1,0,none⟩ = some (.int .u64 b1)∧w'.cell? ⟨w.heap.size + 1,1,none⟩ = some (.int .u64 b2)∧w'.cell? ⟨w.heap.size + 2,0,none⟩ = some (.int .u64 x1)∧w'.cell? ⟨w.heap.size + 2,1,none⟩ = some (.int .u64 x2)) (first | (with_reducible exact ⟨xw0,xw1,xw2,xw3,xw4,xw5⟩) | (with_reducible exact ⟨dw0,dw1,dw2,dw3,dw4,dw5⟩) | (with_reducible exact ⟨ca0,ca1,ca2,ca3,ca4,ca5⟩) | (with_reducible exact ⟨cb0,cb1,cb2,cb3,cb4,cb5⟩) | (with_reducible exact ⟨cc0,cc1,cc2,cc3,cc4,cc5⟩) | (with_reducible exact ⟨cd0,cd1,cd2,cd3,cd4,cd5⟩) | (with_reducible exact ⟨ce0,ce1,ce2,ce3,ce4,ce5⟩) | (exact ⟨((World.cell?_setCell_far _ _ _ _ (by simp <;> omega)).trans ((World.cell?_setCell_far _ _ _ _ (by simp <;> omega)).trans ce0)),((World.cell?_setCell_far _ _ _ _ (by simp <;> omega)).trans ((World.cell?_setCell_far _ _ _ _ (by simp <;> omega)).trans ce1)),((World.cell?_setCell_far _ _ _ _ (by simp <;> omega)).trans ((World.cell?_setCell_far _ _ _ _ (by simp <;> omega)).trans ce2)),((World.cell?_setCell_far _ _ _ _ (by simp <;> omega)).trans ((World.cell?_setCell_far _ _ _ _ (by simp <;> omega)).trans ce3)),((World.cell?_setCell_far _ _ _ _ (by simp <;> omega)).trans ((World.cell?_setCell_far _ _ _ _ (by simp <;> omega)).trans ce4)),((World.cell?_setCell_far _ _ _ _ (by simp <;> omega)).trans ((World.cell?_setCell_far _ _ _ _ (by simp <;> omega)).trans ce5))⟩)) (first | (have z9:=kd;clear z9;go_at_call 25;refine (hn4 _).mono ?_;rintro e w4 ⟨rfl,g4⟩;have ke:Kp W w4:=Kp.trans kd g4;have ce0:=kkeep ke xw0;have ce1:=kkeep ke xw1;have ce2:=kkeep ke xw2;have ce3:=kkeep ke xw3;have ce4:=kkeep ke xw4;have ce5:=kkeep ke xw5;have hRe:=hR.kp ke;have r0:w4.cell? ⟨w.heap.size + 3,0,none⟩ = some (.int .u64 0):=(hRe.cell 0).trans rfl;have rz0:=hRe.frozen 0;have r1:w4.cell? ⟨w.heap.size + 3,1,none⟩ = some (.int .u64 0):=(hRe.cell 1).trans rfl;have rz1:=hRe.frozen 1;skip) | (have z9:=kc;clear z9;go_at_call 7;refine (hm _).mono ?_;rintro e w3 ⟨rfl,g3⟩;have kd:Kp W w3:=Kp.trans kc g3;have cd0:=kkeep kd xw0;have cd1:=kkeep kd xw1;have cd2:=kkeep kd xw2;have cd3:=kkeep kd xw3;have cd4:=kkeep kd xw4;have cd5:=kkeep kd xw5) | (have z9:=kb;clear z9;go_at_call 25;refine (hn3 _).mono ?_;rintro e w2 ⟨rfl,g2⟩;have kc:Kp W w2:=Kp.trans kb g2;have cc0:=kkeep kc xw0;have cc1:=kkeep kc xw1;have cc2:=kkeep kc xw2;have cc3:=kkeep kc xw3;have cc4:=kkeep kc xw4;have cc5:=kkeep kc xw5) | (have z9:=ka;clear z9;go_at_call 25;refine (hn2 _).mono ?_;rintro e w1 ⟨rfl,g1⟩;have kb:Kp W w1:=Kp.trans ka g1;have cb0:=kkeep kb xw0;have cb1:=kkeep kb xw1;have cb2:=kkeep kb xw2;have cb3:=kkeep kb xw3;have cb4:=kkeep kb xw4;have cb5:=kkeep kb xw5) | (go_at_call 25;refine (hn1 _).mono ?_;rintro e w0 ⟨rfl,g0⟩;have ka:Kp W w0:=Kp.trans (Kp.drew (Kp.refl _)) g0;have ca0:=kkeep ka xw0;have ca1:=kkeep ka xw1;have ca2:=kkeep ka xw2;have ca3:=kkeep ka xw3;have ca4:=kkeep ka xw4;have ca5:=kkeep ka xw5))
  go_wp2
  exact bodyPost_ret (v:=.agg #[.int .u64 s1,.int .u64 s2]) (by simp [results,Try.results9,go_sem,r0,r1]) rfl ⟨rfl,(((Kp.trans kw ke).setCell (by first | omega | (simp <;> omega)) _).setCell (by first | omega | (simp <;> omega)) _)⟩
end Go.Proofs.Ytcepchaakfiojaa
