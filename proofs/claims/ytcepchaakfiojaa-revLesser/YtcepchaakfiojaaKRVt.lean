import Derived.Test.YtcepchaakfiojaaKRVn
import Derived.Test.YtcepchaakfiojaaKRVq
set_option maxHeartbeats 4000000
set_option maxRecDepth 20000
namespace Go.Proofs.Ytcepchaakfiojaa
open Go.RowKit
set_option linter.unusedVariables false
set_option linter.unusedSimpArgs false
theorem in9_ (a b:Nat) (w:World):Calls Try.prog 4 #[.agg #[.int .u64 ((a:Nat):Int),.int .u64 ((b:Nat):Int)]] w fun e w'=>e = .returned (.agg #[.float .f64 a,.float .f64 b])∧Kp w w':=by
  have h1:=Fq.ff64 a
  have h2:=Fq.ff64 b
  generalize (a:Int) = X at h1 ⊢
  generalize (b:Int) = Y at h2 ⊢
  go_enter Try.func4,Try.ntmps4
  go_wp2
  go_region_held3 (fun w'=>w'.cell? ⟨w.heap.size,0,none⟩ = some (.int .u64 X)∧w'.cell? ⟨w.heap.size,1,none⟩ = some (.int .u64 Y)) (simp [go_sem]) (fail)
  go_wp2
  exact bodyPost_ret (v:=.agg #[.float .f64 a,.float .f64 b]) (by simp [results,Try.results4,go_sem]) rfl ⟨rfl,(by repeat (with_reducible (first | assumption | exact Kp.refl _ | apply Kp.drew | apply Kp.alloc | apply Kp.drewN | (refine Kp.setCell ?_ (by first | omega | (simp <;> omega)) _) | (refine Kp.trans ?_ (by assumption)))))⟩
theorem out9_ (a b:Nat) (w:World):Calls Try.prog 5 #[.agg #[.float .f64 a,.float .f64 b]] w fun e w'=>e = .returned (.agg #[.int .u64 ((a:Nat):Int),.int .u64 ((b:Nat):Int)])∧Kp w w':=by
  have h1:=Fq.fb64 a
  have h2:=Fq.fb64 b
  generalize (a:Int) = X at h1 ⊢
  generalize (b:Int) = Y at h2 ⊢
  go_enter Try.func5,Try.ntmps5
  go_wp2
  go_region_held3 (fun w'=>w'.cell? ⟨w.heap.size,0,none⟩ = some (.float .f64 a)∧w'.cell? ⟨w.heap.size,1,none⟩ = some (.float .f64 b)) (simp [go_sem,World.cell?_alloc_past]) (fail)
  go_wp2
  exact bodyPost_ret (v:=.agg #[.int .u64 X,.int .u64 Y]) (by simp [results,Try.results5,go_sem]) rfl ⟨rfl,(by repeat (with_reducible (first | assumption | exact Kp.refl _ | apply Kp.drew | apply Kp.alloc | apply Kp.drewN | (refine Kp.setCell ?_ (by first | omega | (simp <;> omega)) _) | (refine Kp.trans ?_ (by assumption)))))⟩

theorem vd_mn (Lb Hb Lc Hc Lx Hx:Int) (db:VdZ Lb Hb) (dc:VdZ Lc Hc) (dx:VdZ Lx Hx):VdZ (mnL Lb Hb Lc Hc Lx Hx) (mnH Lb Hb Lc Hc Lx Hx):=by
  unfold mnL mnH
  by_cases c1:Lb = 9218868437227405312∨Lc = 9218868437227405312∨Hb < Lc
  · rw [if_pos c1,if_pos c1];exact Or.inl ⟨rfl,rfl⟩
  · rw [if_neg c1,if_neg c1]
    by_cases c2:Hc < Lb
    · rw [if_pos c2,if_pos c2];exact vd_meet _ _ _ _ dx dc
    · rw [if_neg c2,if_neg c2]
      exact vd_meet _ _ _ _ dx (by unfold VdZ at *;omega)
theorem rlawA_ (X1 X2 Y1 Y2 Z1 Z2 S1 S2 U1 U2:Int) (A1 A2 B1 B2 C1 C2 P1 P2 Q1 Q2:Nat) (hin1:∀ w:World,Calls Try.prog 4 #[.agg #[.int .u64 X1,.int .u64 X2]] w fun e w'=>e = .returned (.agg #[.float .f64 A1,.float .f64 A2])∧Kp w w') (hin2:∀ w:World,Calls Try.prog 4 #[.agg #[.int .u64 Y1,.int .u64 Y2]] w fun e w'=>e = .returned (.agg #[.float .f64 B1,.float .f64 B2])∧Kp w w') (hin3:∀ w:World,Calls Try.prog 4 #[.agg #[.int .u64 Z1,.int .u64 Z2]] w fun e w'=>e = .returned (.agg #[.float .f64 C1,.float .f64 C2])∧Kp w w') (hp1:∀ w:World,Calls Try.prog 6 #[.agg #[.float .f64 A1,.float .f64 A2],.agg #[.float .f64 B1,.float .f64 B2],.agg #[.float .f64 C1,.float .f64 C2]] w fun e w'=>e = .returned (.agg #[.float .f64 P1,.float .f64 P2])∧Kp w w') (hp2:∀ w:World,Calls Try.prog 8 #[.agg #[.float .f64 A1,.float .f64 A2],.agg #[.float .f64 B1,.float .f64 B2],.agg #[.float .f64 C1,.float .f64 C2]] w fun e w'=>e = .returned (.agg #[.float .f64 Q1,.float .f64 Q2])∧Kp w w') (ho1:∀ w:World,Calls Try.prog 5 #[.agg #[.float .f64 P1,.float .f64 P2]] w fun e w'=>e = .returned (.agg #[.int .u64 S1,.int .u64 S2])∧Kp w w') (ho2:∀ w:World,Calls Try.prog 5 #[.agg #[.float .f64 Q1,.float .f64 Q2]] w fun e w'=>e = .returned (.agg #[.int .u64 U1,.int .u64 U2])∧Kp w w') (hr1:∀ w:World,Calls Try.prog 7 #[.agg #[.int .u64 X1,.int .u64 X2],.agg #[.int .u64 Y1,.int .u64 Y2],.agg #[.int .u64 Z1,.int .u64 Z2]] w fun e w'=>e = .returned (.agg #[.int .u64 S1,.int .u64 S2])∧Kp w w') (hr2:∀ w:World,Calls Try.prog 9 #[.agg #[.int .u64 X1,.int .u64 X2],.agg #[.int .u64 Y1,.int .u64 Y2],.agg #[.int .u64 Z1,.int .u64 Z2]] w fun e w'=>e = .returned (.agg #[.int .u64 U1,.int .u64 U2])∧Kp w w') (w:World):Calls Try.prog 3 #[.agg #[.int .u64 X1,.int .u64 X2,.int .u64 Y1,.int .u64 Y2,.int .u64 Z1,.int .u64 Z2]] w fun e w'=>e = .returned (.bool true)∧Kp w w':=by
  go_enter Try.func3,Try.ntmps3
  go_upto_region 1 with fail
  have kw:Kp w (w.alloc (.cells #[.int .u64 X1,.int .u64 X2,.int .u64 Y1,.int .u64 Y2,.int .u64 Z1,.int .u64 Z2] 26)):=(Kp.refl w).alloc _
  have hT:BK (w.alloc (.cells #[.int .u64 X1,.int .u64 X2,.int .u64 Y1,.int .u64 Y2,.int .u64 Z1,.int .u64 Z2] 26)) w.heap.size #[.int .u64 X1,.int .u64 X2,.int .u64 Y1,.int .u64 Y2,.int .u64 Z1,.int .u64 Z2] 26:=BK.new _ _ _
  generalize w.alloc (.cells #[.int .u64 X1,.int .u64 X2,.int .u64 Y1,.int .u64 Y2,.int .u64 Z1,.int .u64 Z2] 26) = W0 at hT kw ⊢
  have t0:W0.cell? ⟨w.heap.size,0,none⟩ = some (.int .u64 X1):=(hT.cell 0).trans rfl;have tz0:=hT.frozen 0;have t1:W0.cell? ⟨w.heap.size,1,none⟩ = some (.int .u64 X2):=(hT.cell 1).trans rfl;have tz1:=hT.frozen 1;have t2:W0.cell? ⟨w.heap.size,2,none⟩ = some (.int .u64 Y1):=(hT.cell 2).trans rfl;have tz2:=hT.frozen 2;have t3:W0.cell? ⟨w.heap.size,3,none⟩ = some (.int .u64 Y2):=(hT.cell 3).trans rfl;have tz3:=hT.frozen 3;have t4:W0.cell? ⟨w.heap.size,4,none⟩ = some (.int .u64 Z1):=(hT.cell 4).trans rfl;have tz4:=hT.frozen 4;have t5:W0.cell? ⟨w.heap.size,5,none⟩ = some (.int .u64 Z2):=(hT.cell 5).trans rfl;have tz5:=hT.frozen 5;skip
  go_upto_region 2 with (first | (go_at_call 4;refine (hin1 _).mono ?_;rintro e v0 ⟨rfl,g0⟩))
  have gs0:Kp v0 (v0.alloc (.cells #[.float .f64 A1,.float .f64 A2] 29)):=(Kp.refl _).alloc _
  have hA:BK (v0.alloc (.cells #[.float .f64 A1,.float .f64 A2] 29)) v0.heap.size #[.float .f64 A1,.float .f64 A2] 29:=BK.new _ _ _
  replace hT:=(hT.kp g0).kp gs0;replace kw:=Kp.trans (Kp.trans kw g0) gs0
  generalize v0.alloc (.cells #[.float .f64 A1,.float .f64 A2] 29) = W1 at hT hA  kw ⊢
  generalize v0.heap.size = ba at hA ⊢
  clear gs0 g0 t0 tz0 t1 tz1 t2 tz2 t3 tz3 t4 tz4 t5 tz5
  have t0:W1.cell? ⟨w.heap.size,0,none⟩ = some (.int .u64 X1):=(hT.cell 0).trans rfl;have tz0:=hT.frozen 0;have t1:W1.cell? ⟨w.heap.size,1,none⟩ = some (.int .u64 X2):=(hT.cell 1).trans rfl;have tz1:=hT.frozen 1;have t2:W1.cell? ⟨w.heap.size,2,none⟩ = some (.int .u64 Y1):=(hT.cell 2).trans rfl;have tz2:=hT.frozen 2;have t3:W1.cell? ⟨w.heap.size,3,none⟩ = some (.int .u64 Y2):=(hT.cell 3).trans rfl;have tz3:=hT.frozen 3;have t4:W1.cell? ⟨w.heap.size,4,none⟩ = some (.int .u64 Z1):=(hT.cell 4).trans rfl;have tz4:=hT.frozen 4;have t5:W1.cell? ⟨w.heap.size,5,none⟩ = some (.int .u64 Z2):=(hT.cell 5).trans rfl;have tz5:=hT.frozen 5;skip
  go_upto_region 3 with (first | (go_at_call 4;refine (hin2 _).mono ?_;rintro e v1 ⟨rfl,g1⟩))
  have gs1:Kp v1 (v1.alloc (.cells #[.float .f64 B1,.float .f64 B2] 29)):=(Kp.refl _).alloc _
  have hB:BK (v1.alloc (.cells #[.float .f64 B1,.float .f64 B2] 29)) v1.heap.size #[.float .f64 B1,.float .f64 B2] 29:=BK.new _ _ _
  replace hT:=(hT.kp g1).kp gs1;replace hA:=(hA.kp g1).kp gs1;replace kw:=Kp.trans (Kp.trans kw g1) gs1
  generalize v1.alloc (.cells #[.float .f64 B1,.float .f64 B2] 29) = W2 at hT hB hA kw ⊢
  generalize v1.heap.size = bb at hB ⊢
  clear gs1 g1 t0 tz0 t1 tz1 t2 tz2 t3 tz3 t4 tz4 t5 tz5
  have t0:W2.cell? ⟨w.heap.size,0,none⟩ = some (.int .u64 X1):=(hT.cell 0).trans rfl;have tz0:=hT.frozen 0;have t1:W2.cell? ⟨w.heap.size,1,none⟩ = some (.int .u64 X2):=(hT.cell 1).trans rfl;have tz1:=hT.frozen 1;have t2:W2.cell? ⟨w.heap.size,2,none⟩ = some (.int .u64 Y1):=(hT.cell 2).trans rfl;have tz2:=hT.frozen 2;have t3:W2.cell? ⟨w.heap.size,3,none⟩ = some (.int .u64 Y2):=(hT.cell 3).trans rfl;have tz3:=hT.frozen 3;have t4:W2.cell? ⟨w.heap.size,4,none⟩ = some (.int .u64 Z1):=(hT.cell 4).trans rfl;have tz4:=hT.frozen 4;have t5:W2.cell? ⟨w.heap.size,5,none⟩ = some (.int .u64 Z2):=(hT.cell 5).trans rfl;have tz5:=hT.frozen 5;skip
  go_upto_region 4 with (first | (go_at_call 4;refine (hin3 _).mono ?_;rintro e v2 ⟨rfl,g2⟩))
  have gs2:Kp v2 (v2.alloc (.cells #[.float .f64 C1,.float .f64 C2] 29)):=(Kp.refl _).alloc _
  have hC:BK (v2.alloc (.cells #[.float .f64 C1,.float .f64 C2] 29)) v2.heap.size #[.float .f64 C1,.float .f64 C2] 29:=BK.new _ _ _
  replace hT:=(hT.kp g2).kp gs2;replace hA:=(hA.kp g2).kp gs2;replace hB:=(hB.kp g2).kp gs2;replace kw:=Kp.trans (Kp.trans kw g2) gs2
  generalize v2.alloc (.cells #[.float .f64 C1,.float .f64 C2] 29) = W3 at hT hC hA hB kw ⊢
  generalize v2.heap.size = bc at hC ⊢
  clear gs2 g2 t0 tz0 t1 tz1 t2 tz2 t3 tz3 t4 tz4 t5 tz5
  refine Fq.wp_region_grow (by kernel_rfl) (by kernel_rfl) (fun ι _ G hG hall=>?_)
  have cc0:∀ n,(G n).cell? ⟨w.heap.size,0,none⟩ = some (.int .u64 X1):=fun n=>Fq.gkeep (hG n) ((hT.cell 0).trans rfl)
  have cc1:∀ n,(G n).cell? ⟨w.heap.size,1,none⟩ = some (.int .u64 X2):=fun n=>Fq.gkeep (hG n) ((hT.cell 1).trans rfl)
  have cc2:∀ n,(G n).cell? ⟨w.heap.size,2,none⟩ = some (.int .u64 Y1):=fun n=>Fq.gkeep (hG n) ((hT.cell 2).trans rfl)
  have cc3:∀ n,(G n).cell? ⟨w.heap.size,3,none⟩ = some (.int .u64 Y2):=fun n=>Fq.gkeep (hG n) ((hT.cell 3).trans rfl)
  have cc4:∀ n,(G n).cell? ⟨w.heap.size,4,none⟩ = some (.int .u64 Z1):=fun n=>Fq.gkeep (hG n) ((hT.cell 4).trans rfl)
  have cc5:∀ n,(G n).cell? ⟨w.heap.size,5,none⟩ = some (.int .u64 Z2):=fun n=>Fq.gkeep (hG n) ((hT.cell 5).trans rfl)
  have cc6:∀ n,(G n).cell? ⟨ba,0,none⟩ = some (.float .f64 A1):=fun n=>Fq.gkeep (hG n) ((hA.cell 0).trans rfl)
  have cc7:∀ n,(G n).cell? ⟨ba,1,none⟩ = some (.float .f64 A2):=fun n=>Fq.gkeep (hG n) ((hA.cell 1).trans rfl)
  have cc8:∀ n,(G n).cell? ⟨bb,0,none⟩ = some (.float .f64 B1):=fun n=>Fq.gkeep (hG n) ((hB.cell 0).trans rfl)
  have cc9:∀ n,(G n).cell? ⟨bb,1,none⟩ = some (.float .f64 B2):=fun n=>Fq.gkeep (hG n) ((hB.cell 1).trans rfl)
  have cc10:∀ n,(G n).cell? ⟨bc,0,none⟩ = some (.float .f64 C1):=fun n=>Fq.gkeep (hG n) ((hC.cell 0).trans rfl)
  have cc11:∀ n,(G n).cell? ⟨bc,1,none⟩ = some (.float .f64 C2):=fun n=>Fq.gkeep (hG n) ((hC.cell 1).trans rfl)
  repeat (go_big_quiet_step (first | (go_at_call 6;exact (hp1 _).mono (fun e w' h=>⟨h.1,hall _ (Fq.gtrans (hG _) h.2)⟩)) | (go_at_call 8;exact (hp2 _).mono (fun e w' h=>⟨h.1,hall _ (Fq.gtrans (hG _) h.2)⟩)) | (go_at_call_of 5 (Value.agg #[.float .f64 P1,.float .f64 P2]);exact (ho1 _).mono (fun e w' h=>⟨h.1,hall _ (Fq.gtrans (hG _) h.2)⟩)) | (go_at_call_of 5 (Value.agg #[.float .f64 Q1,.float .f64 Q2]);exact (ho2 _).mono (fun e w' h=>⟨h.1,hall _ (Fq.gtrans (hG _) h.2)⟩)) | (go_at_call 7;exact (hr1 _).mono (fun e w' h=>⟨h.1,hall _ (Fq.gtrans (hG _) h.2)⟩)) | (go_at_call 9;exact (hr2 _).mono (fun e w' h=>⟨h.1,hall _ (Fq.gtrans (hG _) h.2)⟩))))
  refine wpQuiet_nil ?_
  rintro _ ⟨nq,rfl⟩
  have gq:Kp W3 (G nq):=hG nq
  clear cc0 cc1 cc2 cc3 cc4 cc5 cc6 cc7 cc8 cc9 cc10 cc11 hall hG
  have gq2:=Kp.trans kw gq
  go_wp2
  exact bodyPost_ret (v:=.bool true) (by simp [results,Try.results3,go_sem]) rfl ⟨rfl,gq2⟩
theorem rlesser_ (a b c d e f:Nat) (ha:a < 18446744073709551616) (hb:b < 18446744073709551616) (hc:c < 18446744073709551616) (hd:d < 18446744073709551616) (he:e < 18446744073709551616) (hf:f < 18446744073709551616) (w:World):Calls Try.prog 3 #[.agg #[.int .u64 ((a:Nat):Int),.int .u64 ((b:Nat):Int),.int .u64 ((c:Nat):Int),.int .u64 ((d:Nat):Int),.int .u64 ((e:Nat):Int),.int .u64 ((f:Nat):Int)]] w fun e w'=>e = .returned (.bool true)∧Kp w w':=by
  obtain ⟨L1,H1,r1⟩:=Rd.ex a b ha hb
  obtain ⟨L2,H2,r2⟩:=Rd.ex c d hc hd
  obtain ⟨L3,H3,r3⟩:=Rd.ex e f he hf
  have n1:=vd_neg L1 H1 r1.vd
  have n2:=vd_neg L2 H2 r2.vd
  have n3:=vd_neg L3 H3 r3.vd
  have nm:=vd_mn (-H1) (-L1) (-H2) (-L2) (-H3) (-L3) n1 n2 n3
  exact rlawA_ _ _ _ _ _ _ _ _ _ _ a b c d e f _ _ _ _ (in9_ a b) (in9_ c d) (in9_ e f) (pmin9_ a b c d e f L1 H1 L2 H2 L3 H3 r1 r2 r3) (pmaxw_ a b c d e f _ _ _ _ _ _ _ _ _ _ (neg9_ a b L1 H1 r1) (neg9_ c d L2 H2 r2) (neg9_ e f L3 H3 r3) (pmin9_ _ _ _ _ _ _ (-H1) (-L1) (-H2) (-L2) (-H3) (-L3) (Rd.of n1) (Rd.of n2) (Rd.of n3)) (neg9_ _ _ _ _ (Rd.of nm))) (out9_ _ _) (out9_ _ _) (rmin9_ a b c d e f L1 H1 L2 H2 L3 H3 r1 r2 r3) (rmaxw_ _ _ _ _ _ _ _ _ _ _ _ _ _ _ _ _ (rnegZz_ a b L1 H1 r1) (rnegZz_ c d L2 H2 r2) (rnegZz_ e f L3 H3 r3) (rmin9_ _ _ _ _ _ _ (-H1) (-L1) (-H2) (-L2) (-H3) (-L3) (Rd.of n1) (Rd.of n2) (Rd.of n3)) (rnegZz_ _ _ _ _ (Rd.of nm))) w
end Go.Proofs.Ytcepchaakfiojaa
