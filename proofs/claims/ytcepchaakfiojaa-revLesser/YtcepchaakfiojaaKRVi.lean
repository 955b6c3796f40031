import Derived.Test.YtcepchaakfiojaaKRVl
import Derived.Laws.AppendOwn
set_option maxHeartbeats 2000000
set_option maxRecDepth 20000
namespace Go.Proofs.Ytcepchaakfiojaa
open Go.RowKit
set_option linter.unusedVariables false
set_option linter.unusedSimpArgs false

def mnL (Lb Hb Lc Hc Lx Hx:Int):Int:=if Lb = 9218868437227405312∨Lc = 9218868437227405312∨Hb < Lc then 9218868437227405312 else if Hc < Lb then iL Lx Hx Lc Hc else iL Lx Hx Lc 9218868437227405312
def mnH (Lb Hb Lc Hc Lx Hx:Int):Int:=if Lb = 9218868437227405312∨Lc = 9218868437227405312∨Hb < Lc then -9218868437227405312 else if Hc < Lb then iH Lx Hx Lc Hc else iH Lx Hx Lc 9218868437227405312
theorem mn_0 (Lb Hb Lc Hc Lx Hx:Int) (h:¬ Lc≤Hb):mnL Lb Hb Lc Hc Lx Hx = 9218868437227405312∧mnH Lb Hb Lc Hc Lx Hx = -9218868437227405312:=by
  unfold mnL mnH
  rw [if_pos (Or.inr (Or.inr (by omega))),if_pos (Or.inr (Or.inr (by omega)))]
  exact ⟨rfl,rfl⟩
theorem mn_1 (Lb Hb Lc Hc Lx Hx:Int) (db:VdZ Lb Hb) (dc:VdZ Lc Hc) (dx:VdZ Lx Hx) (eb:Lb≠9218868437227405312) (ec:Lc≠9218868437227405312) (h1:Lc≤Hb) (h2:¬ Lb≤Hc):min 9218868437227405312 (iL Lx Hx Lc (min Hc Hb)) = mnL Lb Hb Lc Hc Lx Hx∧max (-9218868437227405312) (iH Lx Hx Lc (min Hc Hb)) = mnH Lb Hb Lc Hc Lx Hx:=by
  unfold VdZ at db dc dx
  unfold mnL mnH
  have n1:¬ (Lb = 9218868437227405312∨Lc = 9218868437227405312∨Hb < Lc):=by omega
  have n2:Hc < Lb:=by omega
  rw [if_neg n1,if_neg n1,if_pos n2,if_pos n2,show min Hc Hb = Hc from by omega]
  unfold iL iH
  repeat' split
  all_goals omega
theorem mn_2 (Lb Hb Lc Hc Lx Hx:Int) (db:VdZ Lb Hb) (dc:VdZ Lc Hc) (dx:VdZ Lx Hx) (eb:Lb≠9218868437227405312) (ec:Lc≠9218868437227405312) (h1:Lc≤Hb) (h2:Lb≤Hc):min (min 9218868437227405312 (iL Lx Hx Lc (min Hc Hb))) (iL Lx Hx (max Lc Lb) 9218868437227405312) = mnL Lb Hb Lc Hc Lx Hx∧max (max (-9218868437227405312) (iH Lx Hx Lc (min Hc Hb))) (iH Lx Hx (max Lc Lb) 9218868437227405312) = mnH Lb Hb Lc Hc Lx Hx:=by
  unfold VdZ at db dc dx
  unfold mnL mnH
  have n1:¬ (Lb = 9218868437227405312∨Lc = 9218868437227405312∨Hb < Lc):=by omega
  have n2:¬ Hc < Lb:=by omega
  rw [if_neg n1,if_neg n1,if_neg n2,if_neg n2]
  unfold iL iH
  constructor
  · by_cases a1:max Lx Lc≤min Hx (min Hc Hb) <;> by_cases a2:max Lx (max Lc Lb)≤min Hx 9218868437227405312 <;> by_cases a3:max Lx Lc≤min Hx 9218868437227405312
    all_goals simp only [a1,a2,a3,if_true,if_false]
    all_goals omega
  · by_cases a1:max Lx Lc≤min Hx (min Hc Hb) <;> by_cases a2:max Lx (max Lc Lb)≤min Hx 9218868437227405312 <;> by_cases a3:max Lx Lc≤min Hx 9218868437227405312
    all_goals simp only [a1,a2,a3,if_true,if_false]
    all_goals omega
set_option linter.unusedVariables false
set_option linter.unusedSimpArgs false

theorem addr_addV (b off j:Nat):(⟨b,off,none⟩:Addr).add j = ⟨b,off + j,none⟩:=by
  unfold Addr.add
  by_cases c:j = 0
  · subst c;simp
  · simp [c]
theorem infP0:(Try.prog.info? 56).map (fun i=>(i.zero,i.size,i.bytes)) = some (some (.agg #[.bool false,.int .i64 0,.bool false,.slice none 0 0,.slice none 0 0,.int .i64 0,.bool false,.int .i64 0,.bool false,.slice none 0 0,.slice none 0 0,.int .i64 0,.bool false]),13,168):=by kernel_rfl
theorem infP:∃ i,Try.prog.info? 56 = some i∧i.zero = some (.agg #[.bool false,.int .i64 0,.bool false,.slice none 0 0,.slice none 0 0,.int .i64 0,.bool false,.int .i64 0,.bool false,.slice none 0 0,.slice none 0 0,.int .i64 0,.bool false])∧i.size = 13∧i.bytes = 168:=info_parts infP0
theorem prow_ {w:World} {base n:Nat} {v:Value} {xs:List Value} (h:w.ownsRow base 56 13 v n xs) (hn:0 < n):∃ g cap,v = .slice (some ⟨g,0,none⟩) n cap∧base≤g∧g < w.heap.size∧(∃ C,BK w g C 56)∧∀ j u,xs[j]? = some u→w.cell? ⟨g,0 + j,none⟩ = some u:=by
  have hc:∀ g,v.ownBlock = some g→∀ j u,xs[j]? = some u→w.cell? ((⟨g,0,none⟩:Addr).add j) = some u:=fun g hg=>World.ownsRow.cells h hg
  rcases h.2 with ⟨h1,h2⟩ | ⟨g,cap,cur,h1,h2,h3,h4,h5,h6,h7⟩
  · omega
  · have h9:BK w g cur 56:=h3
    refine ⟨g,cap,h1,h2,h9.lt,⟨cur,h9⟩,fun j u hj=>?_⟩
    have a0:=hc g (by rw [h1];rfl) j u hj
    rw [addr_addV] at a0
    exact a0
theorem prow_mono {w:World} {base n:Nat} {v:Value} {xs:List Value} (h:w.ownsRow base 56 13 v n xs):w.ownsRow 0 56 13 v n xs:=by
  refine ⟨h.1, ?_⟩
  rcases h.2 with h' | ⟨g,cap,cur,h1,h2,h3⟩
  · exact Or.inl h'
  · exact Or.inr ⟨g,cap,cur,h1,Nat.zero_le _,h3⟩
theorem prow_kp {w w':World} {base n:Nat} {v:Value} {xs:List Value} (h:w.ownsRow base 56 13 v n xs) (k:Kp w w'):w'.ownsRow base 56 13 v n xs:=by
  refine ⟨h.1, ?_⟩
  rcases h.2 with h' | ⟨g,cap,cur,h1,h2,h3,h4,h5,h6,h7⟩
  · exact Or.inl h'
  · have h9:BK w g cur 56:=h3
    exact Or.inr ⟨g,cap,cur,h1,h2,h9.kp k,h4,h5,h6,h7⟩
theorem prow_set {w:World} {base n:Nat} {v:Value} {xs:List Value} (h:w.ownsRow base 56 13 v n xs) {b:Nat} (hb:∀ g,v.ownBlock = some g→g≠b) (o:Nat) (u:Value):(w.setCell ⟨b,o,none⟩ u).ownsRow base 56 13 v n xs:=ownsRow_setCell_other h (fun e=>hb _ e rfl) u
theorem BK.gr {w w':World} {b:Nat} {C:Array Value} {t:TypeId} (h:BK w b C t) {row:Option Nat} (hg:w.grownBy w' row) (ne:row≠some b):BK w' b C t:=by
  unfold BK at h ⊢
  rw [hg.block b (BK.lt h) (fun e=>ne e.symm)]
  exact h
theorem Own.gr {w w':World} {base:Nat} {p:Option Addr} {l c:Nat} {xs:List Int} (h:Own w base (.slice p l c) xs) {row:Option Nat} (hg:w.grownBy w' row) (hr:∀ g,row = some g→∃ C t,BK w g C t∧t≠81):Own w' base (.slice p l c) xs:=by
  refine World.ownsRow.kept h hg ?_
  rcases p with _ | a
  · exact Or.inl rfl
  · refine Or.inr (fun e=>?_)
    obtain ⟨C,t,hC,ht⟩:=hr a.block e.symm
    exact h.bkNe hC ht a rfl rfl
theorem VP.gr {base:Nat} {w w':World} {s:Bool} {p:Option Addr} {l c:Nat} {q:Option Addr} {k d:Nat} {V:Int} (h:VP base w s p l c q k d V) {row:Option Nat} (hg:w.grownBy w' row) (hr:∀ g,row = some g→∃ C t,BK w g C t∧t≠81):VP base w' s p l c q k d V:=by
  obtain ⟨x,y,h1,h2,h3⟩:=h
  exact ⟨x,y,h1.gr hg hr,h2.gr hg hr,h3⟩
theorem PCv.gr {ia Va ib Vb:Int} {oa ob:Bool} {W W':World} {v:Value} (h:PCv ia Va oa ib Vb ob W v) {row:Option Nat} (hg:W.grownBy W' row) (hr:∀ g,row = some g→∃ C t,BK W g C t∧t≠81):PCv ia Va oa ib Vb ob W' v:=by
  obtain ⟨s,p,l,c,q,k,d,s2,p2,l2,c2,q2,k2,d2,e,h1,h2⟩:=h
  exact ⟨s,p,l,c,q,k,d,s2,p2,l2,c2,q2,k2,d2,e,h1.gr hg hr,h2.gr hg hr⟩
theorem PCv.setB {ia Va ib Vb:Int} {oa ob:Bool} {W:World} {v:Value} (h:PCv ia Va oa ib Vb ob W v) {b:Nat} {C:Array Value} {t:TypeId} (hb:BK W b C t) (ht:t≠81) (i:Nat) (u:Value):PCv ia Va oa ib Vb ob (W.setCell ⟨b,i,none⟩ u) v:=by
  obtain ⟨s,p,l,c,q,k,d,s2,p2,l2,c2,q2,k2,d2,e,h1,h2⟩:=h
  exact ⟨s,p,l,c,q,k,d,s2,p2,l2,c2,q2,k2,d2,e,h1.setB hb ht i u,h2.setB hb ht i u⟩
set_option linter.unusedVariables false
set_option linter.unusedSimpArgs false
theorem againstC_ (X i i5 R:Int) (isx o:Bool) (N5:Bool) (M5:Nat) s p l c q k d (hii:∀ w:World,Calls Try.prog 63 #[.int .u64 X] w fun e w'=>e = .returned (.bool isx)∧w' = w) (tx:isx = true∨(isx = false∧(i != 0) = true)) (w:World) (hbo:∀ w:World,Calls Try.prog 30 #[.int .u64 X] w fun e w'=>∃ s5 p5 l5 c5 q5 k5 d5,e = .returned (.agg #[.int .i64 i5,.bool s5,.slice p5 l5 c5,.slice q5 k5 d5])∧RP w.heap.size w' s5 p5 l5 c5 q5 k5 d5 N5 M5∧Kp w w') (hcm:∀ (W:World) s5 p5 l5 c5 q5 k5 d5,Kp w W→RP 0 W s5 p5 l5 c5 q5 k5 d5 N5 M5→Calls Try.prog 19 #[.agg #[.int .i64 i5,.bool s5,.slice p5 l5 c5,.slice q5 k5 d5],.agg #[.int .i64 i,.bool s,.slice p l c,.slice q k d]] W fun e w'=>e = .returned (.int .i64 R)∧Kp W w'):Calls Try.prog 52 #[.int .u64 X,.agg #[.int .i64 i,.bool s,.slice p l c,.slice q k d,.int .i64 1,.bool o]] w fun e w'=>e = .returned (.int .i64 R)∧Kp w w':=by
  rcases tx with rfl | ⟨rfl,t2⟩
  all_goals (
    go_enter Try.func52,Try.ntmps52
    go_wp2_with (first | (go_at_call 63;refine (hii _).mono ?_;rintro e w' ⟨rfl,rfl⟩))
    have kw:Kp w (w.alloc (.cells #[.int .i64 i,.bool s,.slice p l c,.slice q k d,.int .i64 1,.bool o] 54)):=(Kp.refl w).alloc _
    have hB:BK (w.alloc (.cells #[.int .i64 i,.bool s,.slice p l c,.slice q k d,.int .i64 1,.bool o] 54)) w.heap.size #[.int .i64 i,.bool s,.slice p l c,.slice q k d,.int .i64 1,.bool o] 54:=BK.new w _ _
    generalize (w.alloc (.cells #[.int .i64 i,.bool s,.slice p l c,.slice q k d,.int .i64 1,.bool o] 54)) = W at kw hB ⊢
    have xw0:W.cell? ⟨w.heap.size,0,none⟩ = some (.int .i64 i):=(hB.cell 0).trans rfl
    have dw0:W.drew.cell? ⟨w.heap.size,0,none⟩ = some (.int .i64 i):=xw0
    have xw1:W.cell? ⟨w.heap.size,1,none⟩ = some (.bool s):=(hB.cell 1).trans rfl
    have dw1:W.drew.cell? ⟨w.heap.size,1,none⟩ = some (.bool s):=xw1
    have xw2:W.cell? ⟨w.heap.size,2,none⟩ = some (.slice p l c):=(hB.cell 2).trans rfl
    have dw2:W.drew.cell? ⟨w.heap.size,2,none⟩ = some (.slice p l c):=xw2
    have xw3:W.cell? ⟨w.heap.size,3,none⟩ = some (.slice q k d):=(hB.cell 3).trans rfl
    have dw3:W.drew.cell? ⟨w.heap.size,3,none⟩ = some (.slice q k d):=xw3
    go_region_held3 (fun w'=>w'.cell? ⟨w.heap.size,0,none⟩ = some (.int .i64 i)∧w'.cell? ⟨w.heap.size,1,none⟩ = some (.bool s)∧w'.cell? ⟨w.heap.size,2,none⟩ = some (.slice p l c)∧w'.cell? ⟨w.heap.size,3,none⟩ = some (.slice q k d)) (first | (with_reducible exact ⟨xw0,xw1,xw2,xw3⟩) | (with_reducible exact ⟨dw0,dw1,dw2,dw3⟩) | (with_reducible exact ⟨wA0,wA1,wA2,wA3⟩) | (with_reducible exact ⟨wB0,wB1,wB2,wB3⟩)) (first | (go_at_call 30;refine (hbo _).mono ?_;rintro e wA ⟨s5,p5,l5,c5,q5,k5,d5,rfl,hA,gA⟩;have kA:Kp W wA:=Kp.trans (Kp.drew (Kp.refl _)) gA;have wA0:=kkeep kA xw0;have wA1:=kkeep kA xw1;have wA2:=kkeep kA xw2;have wA3:=kkeep kA xw3) | (go_at_call 19;refine (hcm _ s5 p5 l5 c5 q5 k5 d5 (Kp.trans kw kA) (hA.mono (Nat.zero_le _))).mono ?_;rintro e wB ⟨rfl,gB⟩;have kB:Kp W wB:=Kp.trans kA gB;have wB0:=kkeep kB xw0;have wB1:=kkeep kB xw1;have wB2:=kkeep kB xw2;have wB3:=kkeep kB xw3))
    go_wp2
    exact bodyPost_ret (v:=.int .i64 R) (by simp [results,Try.results52,go_sem]) rfl ⟨rfl,(Kp.trans kw kB)⟩)
theorem againstN_ (X R S T9:Int) (isx o:Bool) (N5:Bool) (M5:Nat) s p l c q k d (hii:∀ w:World,Calls Try.prog 63 #[.int .u64 X] w fun e w'=>e = .returned (.bool isx)∧w' = w) (tx:isx = false) (w:World) (hfb:∀ w:World,Calls Try.prog 41 #[.int .u64 X] w fun e w'=>∃ s5 p5 l5 c5 q5 k5 d5,e = .returned (.agg #[.bool s5,.slice p5 l5 c5,.slice q5 k5 d5])∧RP w.heap.size w' s5 p5 l5 c5 q5 k5 d5 N5 M5∧Kp w w') (hs:∀ (W:World) s5 p5 l5 c5 q5 k5 d5,RP 0 W s5 p5 l5 c5 q5 k5 d5 N5 M5→Calls Try.prog 42 #[.agg #[.bool s5,.slice p5 l5 c5,.slice q5 k5 d5]] W fun e w'=>e = .returned (.int .i64 S)∧Kp W w') (ht:∀ W:World,Kp w W→Calls Try.prog 42 #[.agg #[.bool s,.slice p l c,.slice q k d]] W fun e w'=>e = .returned (.int .i64 T9)∧Kp W w') (hc:((S != T9) = true∧wrap64 (S - T9) = R)∨(T9 = S∧(S == 0) = true∧R = 0)∨(T9 = S∧(S == 0) = false∧∃ X8 C8:Int,bits .andNot .u64 X 9223372036854775808 = X8∧(∀ W:World,Kp w W→Calls Try.prog 64 #[.int .u64 X8,.int .i64 1,.agg #[.bool false,.slice p l c,.slice q k d]] W fun e w'=>e = .returned (.int .i64 C8)∧Kp W w')∧wrap64 (S * C8) = R)):Calls Try.prog 52 #[.int .u64 X,.agg #[.int .i64 0,.bool s,.slice p l c,.slice q k d,.int .i64 1,.bool o]] w fun e w'=>e = .returned (.int .i64 R)∧Kp w w':=by
  subst tx
  have hB0:BK (w.alloc (.cells #[.int .i64 0,.bool s,.slice p l c,.slice q k d,.int .i64 1,.bool o] 54)) w.heap.size #[.int .i64 0,.bool s,.slice p l c,.slice q k d,.int .i64 1,.bool o] 54:=BK.new w _ _
  rcases hc with ⟨t1,e1⟩ | ⟨rfl,t1,e1⟩ | ⟨rfl,t1,X8,C8,e8,hpw,e1⟩
  iterate 2 (
    go_enter Try.func52,Try.ntmps52
    go_wp2_with (first | (go_at_call 63;refine (hii _).mono ?_;rintro e w' ⟨rfl,rfl⟩) | (have z9:=K2;go_at_call 42;refine (ht _ (by repeat (with_reducible (first | assumption | exact Kp.refl _ | apply Kp.drew | apply Kp.alloc | apply Kp.drewN | (refine Kp.setCell ?_ (by first | omega | (simp <;> omega)) _) | (refine Kp.trans ?_ (by assumption)))))).mono ?_;rintro e w3 ⟨rfl,g3⟩;have K3:Kp w1 w3:=Kp.trans K2 g3;have hB3:=hB1.kp K3;have y0:w3.cell? ⟨w.heap.size,0,none⟩ = some (.int .i64 0):=(hB3.cell 0).trans rfl;have yz0:=hB3.frozen 0;have y1:w3.cell? ⟨w.heap.size,1,none⟩ = some (.bool s):=(hB3.cell 1).trans rfl;have yz1:=hB3.frozen 1;have y2:w3.cell? ⟨w.heap.size,2,none⟩ = some (.slice p l c):=(hB3.cell 2).trans rfl;have yz2:=hB3.frozen 2;have y3:w3.cell? ⟨w.heap.size,3,none⟩ = some (.slice q k d):=(hB3.cell 3).trans rfl;have yz3:=hB3.frozen 3;have y4:w3.cell? ⟨w.heap.size,4,none⟩ = some (.int .i64 1):=(hB3.cell 4).trans rfl;have yz4:=hB3.frozen 4;have y5:w3.cell? ⟨w.heap.size,5,none⟩ = some (.bool o):=(hB3.cell 5).trans rfl;have yz5:=hB3.frozen 5;skip) | (have z9:=hp5;go_at_call 42;refine (hs _ s5 p5 l5 c5 q5 k5 d5 (RP.mono (RP.kp hp5 (by repeat (with_reducible (first | assumption | exact Kp.refl _ | apply Kp.drew | apply Kp.alloc | apply Kp.drewN | (refine Kp.setCell ?_ (by first | omega | (simp <;> omega)) _) | (refine Kp.trans ?_ (by assumption)))))) (Nat.zero_le _))).mono ?_;rintro e w2 ⟨rfl,g2⟩;have K2:Kp w1 w2:=Kp.trans (by repeat (with_reducible (first | assumption | exact Kp.refl _ | apply Kp.drew | apply Kp.alloc | apply Kp.drewN | (refine Kp.setCell ?_ (by first | omega | (simp <;> omega)) _) | (refine Kp.trans ?_ (by assumption))))) g2;have hB2:=hB1.kp K2;have u0:w2.cell? ⟨w.heap.size,0,none⟩ = some (.int .i64 0):=(hB2.cell 0).trans rfl;have uz0:=hB2.frozen 0;have u1:w2.cell? ⟨w.heap.size,1,none⟩ = some (.bool s):=(hB2.cell 1).trans rfl;have uz1:=hB2.frozen 1;have u2:w2.cell? ⟨w.heap.size,2,none⟩ = some (.slice p l c):=(hB2.cell 2).trans rfl;have uz2:=hB2.frozen 2;have u3:w2.cell? ⟨w.heap.size,3,none⟩ = some (.slice q k d):=(hB2.cell 3).trans rfl;have uz3:=hB2.frozen 3;have u4:w2.cell? ⟨w.heap.size,4,none⟩ = some (.int .i64 1):=(hB2.cell 4).trans rfl;have uz4:=hB2.frozen 4;have u5:w2.cell? ⟨w.heap.size,5,none⟩ = some (.bool o):=(hB2.cell 5).trans rfl;have uz5:=hB2.frozen 5;skip) | (go_at_call 41;refine (hfb _).mono ?_;rintro e w1 ⟨s5,p5,l5,c5,q5,k5,d5,rfl,hp5,g1⟩;have hB1:=hB0.kp g1;have r0:w1.cell? ⟨w.heap.size,0,none⟩ = some (.int .i64 0):=(hB1.cell 0).trans rfl;have rz0:=hB1.frozen 0;have r1:w1.cell? ⟨w.heap.size,1,none⟩ = some (.bool s):=(hB1.cell 1).trans rfl;have rz1:=hB1.frozen 1;have r2:w1.cell? ⟨w.heap.size,2,none⟩ = some (.slice p l c):=(hB1.cell 2).trans rfl;have rz2:=hB1.frozen 2;have r3:w1.cell? ⟨w.heap.size,3,none⟩ = some (.slice q k d):=(hB1.cell 3).trans rfl;have rz3:=hB1.frozen 3;have r4:w1.cell? ⟨w.heap.size,4,none⟩ = some (.int .i64 1):=(hB1.cell 4).trans rfl;have rz4:=hB1.frozen 4;have r5:w1.cell? ⟨w.heap.size,5,none⟩ = some (.bool o):=(hB1.cell 5).trans rfl;have rz5:=hB1.frozen 5;skip))
    exact bodyPost_ret (v:=.int .i64 R) (by simp [results,Try.results52,go_sem,e1]) rfl ⟨rfl,(by repeat (with_reducible (first | assumption | exact Kp.refl _ | apply Kp.drew | apply Kp.alloc | apply Kp.drewN | (refine Kp.setCell ?_ (by first | omega | (simp <;> omega)) _) | (refine Kp.trans ?_ (by assumption)))))⟩
    )
  go_enter Try.func52,Try.ntmps52
  go_upto_region 10 with (first | (go_at_call 63;refine (hii _).mono ?_;rintro e w' ⟨rfl,rfl⟩) | (have z9:=K2;go_at_call 42;refine (ht _ (by repeat (with_reducible (first | assumption | exact Kp.refl _ | apply Kp.drew | apply Kp.alloc | apply Kp.drewN | (refine Kp.setCell ?_ (by first | omega | (simp <;> omega)) _) | (refine Kp.trans ?_ (by assumption)))))).mono ?_;rintro e w3 ⟨rfl,g3⟩;have K3:Kp w1 w3:=Kp.trans K2 g3;have hB3:=hB1.kp K3;have y0:w3.cell? ⟨w.heap.size,0,none⟩ = some (.int .i64 0):=(hB3.cell 0).trans rfl;have yz0:=hB3.frozen 0;have y1:w3.cell? ⟨w.heap.size,1,none⟩ = some (.bool s):=(hB3.cell 1).trans rfl;have yz1:=hB3.frozen 1;have y2:w3.cell? ⟨w.heap.size,2,none⟩ = some (.slice p l c):=(hB3.cell 2).trans rfl;have yz2:=hB3.frozen 2;have y3:w3.cell? ⟨w.heap.size,3,none⟩ = some (.slice q k d):=(hB3.cell 3).trans rfl;have yz3:=hB3.frozen 3;have y4:w3.cell? ⟨w.heap.size,4,none⟩ = some (.int .i64 1):=(hB3.cell 4).trans rfl;have yz4:=hB3.frozen 4;have y5:w3.cell? ⟨w.heap.size,5,none⟩ = some (.bool o):=(hB3.cell 5).trans rfl;have yz5:=hB3.frozen 5;skip) | (have z9:=hp5;go_at_call 42;refine (hs _ s5 p5 l5 c5 q5 k5 d5 (RP.mono (RP.kp hp5 (by repeat (with_reducible (first | assumption | exact Kp.refl _ | apply Kp.drew | apply Kp.alloc | apply Kp.drewN | (refine Kp.setCell ?_ (by first | omega | (simp <;> omega)) _) | (refine Kp.trans ?_ (by assumption)))))) (Nat.zero_le _))).mono ?_;rintro e w2 ⟨rfl,g2⟩;have K2:Kp w1 w2:=Kp.trans (by repeat (with_reducible (first | assumption | exact Kp.refl _ | apply Kp.drew | apply Kp.alloc | apply Kp.drewN | (refine Kp.setCell ?_ (by first | omega | (simp <;> omega)) _) | (refine Kp.trans ?_ (by assumption))))) g2;have hB2:=hB1.kp K2;have u0:w2.cell? ⟨w.heap.size,0,none⟩ = some (.int .i64 0):=(hB2.cell 0).trans rfl;have uz0:=hB2.frozen 0;have u1:w2.cell? ⟨w.heap.size,1,none⟩ = some (.bool s):=(hB2.cell 1).trans rfl;have uz1:=hB2.frozen 1;have u2:w2.cell? ⟨w.heap.size,2,none⟩ = some (.slice p l c):=(hB2.cell 2).trans rfl;have uz2:=hB2.frozen 2;have u3:w2.cell? ⟨w.heap.size,3,none⟩ = some (.slice q k d):=(hB2.cell 3).trans rfl;have uz3:=hB2.frozen 3;have u4:w2.cell? ⟨w.heap.size,4,none⟩ = some (.int .i64 1):=(hB2.cell 4).trans rfl;have uz4:=hB2.frozen 4;have u5:w2.cell? ⟨w.heap.size,5,none⟩ = some (.bool o):=(hB2.cell 5).trans rfl;have uz5:=hB2.frozen 5;skip) | (go_at_call 41;refine (hfb _).mono ?_;rintro e w1 ⟨s5,p5,l5,c5,q5,k5,d5,rfl,hp5,g1⟩;have hB1:=hB0.kp g1;have r0:w1.cell? ⟨w.heap.size,0,none⟩ = some (.int .i64 0):=(hB1.cell 0).trans rfl;have rz0:=hB1.frozen 0;have r1:w1.cell? ⟨w.heap.size,1,none⟩ = some (.bool s):=(hB1.cell 1).trans rfl;have rz1:=hB1.frozen 1;have r2:w1.cell? ⟨w.heap.size,2,none⟩ = some (.slice p l c):=(hB1.cell 2).trans rfl;have rz2:=hB1.frozen 2;have r3:w1.cell? ⟨w.heap.size,3,none⟩ = some (.slice q k d):=(hB1.cell 3).trans rfl;have rz3:=hB1.frozen 3;have r4:w1.cell? ⟨w.heap.size,4,none⟩ = some (.int .i64 1):=(hB1.cell 4).trans rfl;have rz4:=hB1.frozen 4;have r5:w1.cell? ⟨w.heap.size,5,none⟩ = some (.bool o):=(hB1.cell 5).trans rfl;have rz5:=hB1.frozen 5;skip))
  have kW:Kp w3 (w3.alloc (.cells #[.bool false,.slice p l c,.slice q k d] 44)):=(Kp.refl w3).alloc _
  have hB4:=hB3.kp kW
  have hQ:BK (w3.alloc (.cells #[.bool false,.slice p l c,.slice q k d] 44)) w3.heap.size #[.bool false,.slice p l c,.slice q k d] 44:=BK.new _ _ _
  have kw4:Kp w (w3.alloc (.cells #[.bool false,.slice p l c,.slice q k d] 44)):=Kp.trans (by repeat (with_reducible (first | assumption | exact Kp.refl _ | apply Kp.drew | apply Kp.alloc | apply Kp.drewN | (refine Kp.setCell ?_ (by first | omega | (simp <;> omega)) _) | (refine Kp.trans ?_ (by assumption))))) kW
  generalize (w3.alloc (.cells #[.bool false,.slice p l c,.slice q k d] 44)) = W4 at hB4 hQ kw4 ⊢
  have v0:W4.cell? ⟨w.heap.size,0,none⟩ = some (.int .i64 0):=(hB4.cell 0).trans rfl;have vz0:=hB4.frozen 0;have v1:W4.cell? ⟨w.heap.size,1,none⟩ = some (.bool s):=(hB4.cell 1).trans rfl;have vz1:=hB4.frozen 1;have v2:W4.cell? ⟨w.heap.size,2,none⟩ = some (.slice p l c):=(hB4.cell 2).trans rfl;have vz2:=hB4.frozen 2;have v3:W4.cell? ⟨w.heap.size,3,none⟩ = some (.slice q k d):=(hB4.cell 3).trans rfl;have vz3:=hB4.frozen 3;have v4:W4.cell? ⟨w.heap.size,4,none⟩ = some (.int .i64 1):=(hB4.cell 4).trans rfl;have vz4:=hB4.frozen 4;have v5:W4.cell? ⟨w.heap.size,5,none⟩ = some (.bool o):=(hB4.cell 5).trans rfl;have vz5:=hB4.frozen 5;skip
  have x0:W4.cell? ⟨w3.heap.size,0,none⟩ = some (.bool false):=(hQ.cell 0).trans rfl;have xz0:=hQ.frozen 0;have x1:W4.cell? ⟨w3.heap.size,1,none⟩ = some (.slice p l c):=(hQ.cell 1).trans rfl;have xz1:=hQ.frozen 1;have x2:W4.cell? ⟨w3.heap.size,2,none⟩ = some (.slice q k d):=(hQ.cell 2).trans rfl;have xz2:=hQ.frozen 2;skip
  go_wp2_with (first | (go_at_call 64;refine (hpw _ kw4).mono ?_;rintro e w4 ⟨rfl,g4⟩))
  exact bodyPost_ret (v:=.int .i64 R) (by simp [results,Try.results52,go_sem,e1]) rfl ⟨rfl,(Kp.trans kw4 g4)⟩
theorem rpowerI_ (p:Option Addr) (c m:Nat) (xs:List Int) (w:World) (hx:Arr w p xs) (hwx:Wd xs) (lx:xs.length≤16777216) (ha:1≤val xs) (hK:len32 (val xs ^ m)≤16777216) (hm9:m≤1048576) :
    Calls Try.prog 76 #[.slice p xs.length c,.int .i64 (m:Int)] w fun e w'=>∃ v,e = .returned v∧Own w' w.heap.size v (dig (val xs ^ m))∧Kp w w':=by
  have hno:=fun w' (k:Kp w w')=>rnorm_ p c xs w' (hx.grown k) (by omega)
  have htm:∀ (x y:Nat) (p1 p2:Option Addr) (c1 c2:Nat) (w':World),len32 x≤16777216→len32 y≤16777216→Arr w' p1 (dig x)→Arr w' p2 (dig y) →
      Calls Try.prog 44 #[.slice p1 (dig x).length c1,.slice p2 (dig y).length c2] w' fun e w''=>∃ v,e = .returned v∧Own w'' w'.heap.size v (dig (x * y))∧Kp w' w'':=fun x y p1 p2 c1 c2 w' hx hy h1 h2=>by
    have:=rtimes_ p1 p2 c1 c2 (dig x) (dig y) w' h1 h2 (Wd_dig _) (Wd_dig _) hx hy
    rw [val_dig,val_dig] at this
    exact this
  have HT:Hid (∀ (x y:Nat) (p1 p2:Option Addr) (c1 c2:Nat) (w':World),len32 x≤16777216→len32 y≤16777216→Arr w' p1 (dig x)→Arr w' p2 (dig y) →
      Calls Try.prog 44 #[.slice p1 (dig x).length c1,.slice p2 (dig y).length c2] w' fun e w''=>∃ v,e = .returned v∧Own w'' w'.heap.size v (dig (x * y))∧Kp w' w''):=htm
  rw [nz_dig xs hwx] at hno
  obtain ⟨a,hA⟩:∃ a,a = val xs:=⟨_,rfl⟩
  obtain ⟨N,hN⟩:∃ N,N = xs.length:=⟨_,rfl⟩
  rw [← hA] at hno ha hK ⊢
  rw [← hN] at hno ⊢
  obtain ⟨R,hR⟩:∃ R,R = a ^ m:=⟨_,rfl⟩
  rw [← hR] at hK ⊢
  have hO1:=own1 w
  have hk1:Kp w (w.alloc (.cells #[.int .u32 1] 81)):=(Kp.refl w).alloc _
  have h1:=hno _ hk1
  have HR:Hid (R = a ^ m∧len32 R≤16777216∧1≤a):=⟨hR,hK,ha⟩
  clear htm hno hx hwx lx hA hN hR hK ha
  go_enter Try.func76,Try.ntmps76
  go_wp2_with fail
  refine h1.mono ?_;rintro e w1 ⟨v1,rfl,hOx,hk2⟩
  have HO:Hid (Own w1 w.heap.size (.slice (some ⟨w.heap.size,0,none⟩) 1 1) (dig 1)∧Own w1 w.heap.size v1 (dig a)∧Kp w w1):=⟨by rw [dig_one];exact hO1.kp hk2,hOx.mono hk1.size,hk1.trans hk2⟩
  clear h1 hOx hk2 hO1 hk1
  go_wp2
  go_loopw [1,5,6] (fun nn pp xx wr=>∃ (k P X:Nat) (v u:Value),nn = .int .i64 (k:Int)∧v = pp∧u = xx∧Own wr w.heap.size v (dig P)∧Own wr w.heap.size u (dig X)∧P * X ^ k = R∧1≤P∧1≤X∧Kp w wr∧k≤m) (fun nn _ _ _=>(intOf nn).toNat)
  case atStart=>exact ⟨m,1,a,_,_,rfl,rfl,rfl,HO.out.1,HO.out.2.1,by rw [Nat.one_mul];exact HR.out.1.symm,Nat.le_refl _,HR.out.2.2,HO.out.2.2,Nat.le_refl _⟩
  case round =>
    clear HO
    obtain ⟨k,P,X,v,u,rfl,rfl,rfl,hOp,hOx,hPX,hP,hX,hkp,hkm⟩:=hrel
    by_cases ck:k = 0
    · subst ck
      rw [Nat.pow_zero,Nat.mul_one] at hPX
      subst hPX
      clear HT HR hP hX hOx
      go_wp2
      exact bodyPost_ret (v:=v) (by simp [results,Try.results76,go_sem] <;> simp only [*]) rfl ⟨_,rfl,hOp,hkp⟩
    · have t1:(0:Int) < (k:Int):=by omega
      have hlR:=HR.out.2.1
      have hXk:X≤X ^ k:=by
        have:=Nat.pow_le_pow_right (by omega:0 < X) (by omega:1≤k)
        rw [Nat.pow_one] at this;exact this
      have hXk1:1≤X ^ k:=Nat.pow_pos (by omega)
      have hPR:P≤R:=by rw [← hPX];exact Nat.le_mul_of_pos_right _ hXk1
      have hXR:X≤R:=by rw [← hPX];exact Nat.le_trans hXk (Nat.le_mul_of_pos_left _ hP)
      have lP:len32 P≤16777216:=Nat.le_trans (len32_mono hPR) hlR
      have lX:len32 X≤16777216:=Nat.le_trans (len32_mono hXR) hlR
      obtain ⟨h,hh⟩:∃ h,h = k / 2:=⟨_,rfl⟩
      have fh:(k:Int) / 2 = (h:Int):=by omega
      have hhb:h≤1048576:=by omega
      obtain ⟨p1,c1,rfl,hAp,_⟩:=hOp.arr
      obtain ⟨p2,c2,rfl,hAx,_⟩:=hOx.arr
      have hX2:X * X = X ^ 2:=by rw [Nat.pow_succ,Nat.pow_one]
      have hXX:1≤X * X:=Nat.le_trans hX (Nat.le_mul_of_pos_left _ (by omega))
      have hhk:h < k:=by omega
      have hsq:=fun w' (k':Kp wr w')=>HT.out X X p2 p2 c2 c2 w' lX lX (hAx.grown k') (hAx.grown k')
      obtain ⟨DX,hDX⟩:∃ DX,DX = (dig X).length:=⟨_,rfl⟩
      rcases (by omega:k % 2 = 0∨k % 2 = 1) with ce | ce
      · have fm:(k:Int) % 2 = 0:=by omega
        have hPX2:P * (X * X) ^ h = R:=by rw [hX2,← Nat.pow_mul,show 2 * h = k from by omega];exact hPX
        rw [← hDX] at hsq
        obtain ⟨DP,hDP⟩:∃ DP,DP = (dig P).length:=⟨_,rfl⟩
        have hOp2:Own wr w.heap.size (.slice p1 DP c1) (dig P):=by rw [hDP];exact hOp
        have hOx2:Own wr w.heap.size (.slice p2 DX c2) (dig X):=by rw [hDX];exact hOx
        rw [← hDX,← hDP]
        clear hOp hOx hDX hDP HR hXk hXk1 hPR hXR lP lX hAp hAx hlR HT hPX
        have hne:h≠0:=by omega
        clear hh
        by_cases c0:h = 0
        · exact absurd c0 hne
        · have t2:(0:Int) < (h:Int):=by omega
          have h2:=hsq wr (Kp.refl _)
          clear hsq hX2
          go_wp2_with fail
          refine h2.mono ?_;rintro e w3 ⟨v3,rfl,hO3,hk3⟩
          have hO4:Own w3 w.heap.size v3 (dig (X * X)):=hO3.mono hkp.size
          have hO5:=hOp2.kp hk3
          have hk5:=hkp.trans hk3
          clear hO3 hk3 hkp hOp2 hOx2 h2
          go_wp2
          exact ⟨⟨h,P,X * X,_,_,by go_num,rfl,rfl,hO5,hO4,hPX2,hP,hXX,hk5,by omega⟩,by simp [intOf];omega⟩
      · have fm:(k:Int) % 2 = 1:=by omega
        have hPX2:(P * X) * (X * X) ^ h = R:=by
          rw [hX2,← Nat.pow_mul,Nat.mul_assoc,Nat.mul_comm X,← Nat.pow_succ,show (2 * h).succ = k from by omega];exact hPX
        have h2:=HT.out P X p1 p2 c1 c2 wr lP lX hAp hAx
        rw [← hDX] at hsq h2
        obtain ⟨DP,hDP⟩:∃ DP,DP = (dig P).length:=⟨_,rfl⟩
        rw [← hDP] at h2
        have hOx2:Own wr w.heap.size (.slice p2 DX c2) (dig X):=by rw [hDX];exact hOx
        rw [← hDX,← hDP]
        have hPX1:1≤P * X:=Nat.mul_pos hP (by omega)
        clear hh
        clear hOp hOx hDX hDP HR hXk hXk1 hPR hXR lP lX hAp hAx hlR HT hPX
        go_wp2_with fail
        refine h2.mono ?_;rintro e w3 ⟨v3,rfl,hO3,hk3⟩
        have h4:=hsq w3 hk3
        have hO4:Own w3 w.heap.size v3 (dig (P * X)):=hO3.mono hkp.size
        have hO5:=hOx2.kp hk3
        have hk5:=hkp.trans hk3
        clear hO3 hk3 hkp hOx2 h2 hsq hX2
        by_cases c0:h = 0
        · have t2:¬ ((0:Int) < (h:Int)):=by omega
          clear h4
          go_wp2
          exact ⟨⟨h,P * X,X,_,_,by go_num,rfl,rfl,hO4,hO5,by rw [← hPX2,c0,Nat.pow_zero,Nat.pow_zero],hPX1,hX,hk5,by omega⟩,by simp [intOf];omega⟩
        · have t2:(0:Int) < (h:Int):=by omega
          go_wp2_with fail
          refine h4.mono ?_;rintro e w4 ⟨v4,rfl,hO6,hk6⟩
          have hO7:Own w4 w.heap.size v4 (dig (X * X)):=hO6.mono hk5.size
          have hO8:=hO4.kp hk6
          have hk7:=hk5.trans hk6
          clear hO6 hk6 hk5 hO4 hO5 h4
          go_wp2
          exact ⟨⟨h,P * X,X * X,_,_,by go_num,rfl,rfl,hO8,hO7,hPX2,hPX1,hXX,hk7,by omega⟩,by simp [intOf];omega⟩
end Go.Proofs.Ytcepchaakfiojaa
