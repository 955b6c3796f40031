import Derived.Test.YtjkbapnndoldgaaKSHmr
import Derived.Test.YtjkbapnndoldgaaKSHrd
import Derived.Test.YtjkbapnndoldgaaKSHrnear
namespace Go.Proofs.Ytjkbapnndoldgaa
open Go.RowKit
set_option linter.unusedVariables false
set_option maxRecDepth 20000 in
set_option maxHeartbeats 4000000 in
theorem sMeetsA_ (X1 X2 Y1 Y2 U1 U2 V1 V2 M1 M2 J1 J2 N1 N2 K1 K2 : Int) (A1 A2 B1 B2 P1 P2 Q1 Q2 S1 S2 T1 T2 C1 C2 D1 D2 : Nat) (hi1 : ∀ w : World, Calls Try.prog 9 #[.agg #[.int .u32 X1, .int .u32 X2]] w fun e w' => e = .returned (.agg #[.float .f32 A1, .float .f32 A2]) ∧ Kp w w') (hi2 : ∀ w : World, Calls Try.prog 9 #[.agg #[.int .u32 Y1, .int .u32 Y2]] w fun e w' => e = .returned (.agg #[.float .f32 B1, .float .f32 B2]) ∧ Kp w w') (hm1 : ∀ w : World, Calls Try.prog 19 #[.agg #[.float .f32 A1, .float .f32 A2], .agg #[.float .f32 B1, .float .f32 B2]] w fun e w' => e = .returned (.agg #[.float .f32 P1, .float .f32 P2]) ∧ Kp w w') (hj1 : ∀ w : World, Calls Try.prog 21 #[.agg #[.float .f32 A1, .float .f32 A2], .agg #[.float .f32 B1, .float .f32 B2]] w fun e w' => e = .returned (.agg #[.float .f32 Q1, .float .f32 Q2]) ∧ Kp w w') (hm2 : ∀ w : World, Calls Try.prog 23 #[.agg #[.float .f32 A1, .float .f32 A2], .agg #[.float .f32 B1, .float .f32 B2]] w fun e w' => e = .returned (.agg #[.float .f32 P1, .float .f32 P2]) ∧ Kp w w') (hj2 : ∀ w : World, Calls Try.prog 24 #[.agg #[.float .f32 A1, .float .f32 A2], .agg #[.float .f32 B1, .float .f32 B2]] w fun e w' => e = .returned (.agg #[.float .f32 Q1, .float .f32 Q2]) ∧ Kp w w') (ho1 : ∀ w : World, Calls Try.prog 7 #[.agg #[.float .f32 P1, .float .f32 P2]] w fun e w' => e = .returned (.agg #[.int .u32 M1, .int .u32 M2]) ∧ Kp w w') (ho2 : ∀ w : World, Calls Try.prog 7 #[.agg #[.float .f32 Q1, .float .f32 Q2]] w fun e w' => e = .returned (.agg #[.int .u32 J1, .int .u32 J2]) ∧ Kp w w') (hrm : ∀ w : World, Calls Try.prog 20 #[.agg #[.int .u32 X1, .int .u32 X2], .agg #[.int .u32 Y1, .int .u32 Y2]] w fun e w' => e = .returned (.agg #[.int .u32 M1, .int .u32 M2]) ∧ Kp w w') (hrj : ∀ w : World, Calls Try.prog 22 #[.agg #[.int .u32 X1, .int .u32 X2], .agg #[.int .u32 Y1, .int .u32 Y2]] w fun e w' => e = .returned (.agg #[.int .u32 J1, .int .u32 J2]) ∧ Kp w w') (hf1 : ∀ w : World, Calls Try.prog 25 #[.float .f32 P1, .float .f32 P2] w fun e w' => e = .returned (.agg #[.float .f32 P1, .float .f32 P2]) ∧ Kp w w') (hf2 : ∀ w : World, Calls Try.prog 25 #[.float .f32 Q1, .float .f32 Q2] w fun e w' => e = .returned (.agg #[.float .f32 Q1, .float .f32 Q2]) ∧ Kp w w') (hl1 : ∀ w : World, Calls Try.prog 14 #[.agg #[.int .u64 U1, .int .u64 U2]] w fun e w' => e = .returned (.agg #[.float .f64 S1, .float .f64 S2]) ∧ Kp w w') (hl2 : ∀ w : World, Calls Try.prog 14 #[.agg #[.int .u64 V1, .int .u64 V2]] w fun e w' => e = .returned (.agg #[.float .f64 T1, .float .f64 T2]) ∧ Kp w w') (hmd : ∀ w : World, Calls Try.prog 26 #[.agg #[.float .f64 S1, .float .f64 S2], .agg #[.float .f64 T1, .float .f64 T2]] w fun e w' => e = .returned (.agg #[.float .f64 C1, .float .f64 C2]) ∧ Kp w w') (hjf : ∀ w : World, Calls Try.prog 27 #[.agg #[.float .f64 S1, .float .f64 S2], .agg #[.float .f64 T1, .float .f64 T2]] w fun e w' => e = .returned (.agg #[.float .f64 D1, .float .f64 D2]) ∧ Kp w w') (hk1 : ∀ w : World, Calls Try.prog 16 #[.agg #[.float .f64 C1, .float .f64 C2]] w fun e w' => e = .returned (.agg #[.int .u64 N1, .int .u64 N2]) ∧ Kp w w') (hk2 : ∀ w : World, Calls Try.prog 16 #[.agg #[.float .f64 D1, .float .f64 D2]] w fun e w' => e = .returned (.agg #[.int .u64 K1, .int .u64 K2]) ∧ Kp w w') (hri : ∀ w : World, Calls Try.prog 28 #[.agg #[.int .u64 U1, .int .u64 U2], .agg #[.int .u64 V1, .int .u64 V2]] w fun e w' => e = .returned (.agg #[.int .u64 N1, .int .u64 N2]) ∧ Kp w w') (hrh : ∀ w : World, Calls Try.prog 29 #[.agg #[.int .u64 U1, .int .u64 U2], .agg #[.int .u64 V1, .int .u64 V2]] w fun e w' => e = .returned (.agg #[.int .u64 K1, .int .u64 K2]) ∧ Kp w w') (w : World) : Calls Try.prog 6 #[.agg #[.int .u32 X1, .int .u32 X2], .agg #[.int .u32 Y1, .int .u32 Y2], .agg #[.int .u64 U1, .int .u64 U2], .agg #[.int .u64 V1, .int .u64 V2]] w fun e w' => e = .returned (.bool true) ∧ Kp w w' := by
  have kW := ((((Kp.refl w).alloc (.cells #[.int .u32 X1, .int .u32 X2] 24)).alloc (.cells #[.int .u32 Y1, .int .u32 Y2] 24)).alloc (.cells #[.int .u64 U1, .int .u64 U2] 36)).alloc (.cells #[.int .u64 V1, .int .u64 V2] 36)
  have qx : Fq.H2 (((((w.alloc (.cells #[.int .u32 X1, .int .u32 X2] 24)).alloc (.cells #[.int .u32 Y1, .int .u32 Y2] 24)).alloc (.cells #[.int .u64 U1, .int .u64 U2] 36)).alloc (.cells #[.int .u64 V1, .int .u64 V2] 36))) (w.heap.size) (.int .u32 X1) (.int .u32 X2) := by unfold Fq.H2; simp [go_sem]
  have qy : Fq.H2 (((((w.alloc (.cells #[.int .u32 X1, .int .u32 X2] 24)).alloc (.cells #[.int .u32 Y1, .int .u32 Y2] 24)).alloc (.cells #[.int .u64 U1, .int .u64 U2] 36)).alloc (.cells #[.int .u64 V1, .int .u64 V2] 36))) (w.heap.size + 1) (.int .u32 Y1) (.int .u32 Y2) := by unfold Fq.H2; simp [go_sem]
  have qu : Fq.H2 (((((w.alloc (.cells #[.int .u32 X1, .int .u32 X2] 24)).alloc (.cells #[.int .u32 Y1, .int .u32 Y2] 24)).alloc (.cells #[.int .u64 U1, .int .u64 U2] 36)).alloc (.cells #[.int .u64 V1, .int .u64 V2] 36))) (w.heap.size + 2) (.int .u64 U1) (.int .u64 U2) := by unfold Fq.H2; simp [go_sem]
  have qv : Fq.H2 (((((w.alloc (.cells #[.int .u32 X1, .int .u32 X2] 24)).alloc (.cells #[.int .u32 Y1, .int .u32 Y2] 24)).alloc (.cells #[.int .u64 U1, .int .u64 U2] 36)).alloc (.cells #[.int .u64 V1, .int .u64 V2] 36))) (w.heap.size + 3) (.int .u64 V1) (.int .u64 V2) := by unfold Fq.H2; simp [go_sem]
  go_enter Try.func6, Try.ntmps6
  go_upto_region 1 with fail
  generalize ((((w.alloc (.cells #[.int .u32 X1, .int .u32 X2] 24)).alloc (.cells #[.int .u32 Y1, .int .u32 Y2] 24)).alloc (.cells #[.int .u64 U1, .int .u64 U2] 36)).alloc (.cells #[.int .u64 V1, .int .u64 V2] 36)) = W at kW qx qy qu qv ⊢
  obtain ⟨x0, x1, x2, x3⟩ := id qx
  obtain ⟨y0, y1, y2, y3⟩ := id qy
  obtain ⟨u0, u1, u2, u3⟩ := id qu
  obtain ⟨v0, v1, v2, v3⟩ := id qv
  go_upto_region 2 with (first | (go_at_call_of 9 (Value.int .u32 X1); refine (hi1 _).mono ?_; rintro e w1 ⟨rfl, g1⟩; replace kW := Kp.trans kW g1; replace qx := Fq.H2.keep qx g1; replace qy := Fq.H2.keep qy g1; replace qu := Fq.H2.keep qu g1; replace qv := Fq.H2.keep qv g1; clear g1))
  have qa := Fq.H2.new w1 (.float .f32 A1) (.float .f32 A2) 28
  replace qx := Fq.H2.past qx #[.float .f32 A1, .float .f32 A2] 28
  replace qy := Fq.H2.past qy #[.float .f32 A1, .float .f32 A2] 28
  replace qu := Fq.H2.past qu #[.float .f32 A1, .float .f32 A2] 28
  replace qv := Fq.H2.past qv #[.float .f32 A1, .float .f32 A2] 28
  replace kW := kW.alloc (.cells #[.float .f32 A1, .float .f32 A2] 28)
  clear x0 x1 x2 x3 y0 y1 y2 y3 u0 u1 u2 u3 v0 v1 v2 v3
  generalize hW : w1.alloc (.cells #[.float .f32 A1, .float .f32 A2] 28) = W1 at kW qa qx qy qu qv ⊢
  generalize w1.heap.size = ba at qa ⊢
  clear hW hi1
  obtain ⟨x0, x1, x2, x3⟩ := id qx
  obtain ⟨y0, y1, y2, y3⟩ := id qy
  obtain ⟨u0, u1, u2, u3⟩ := id qu
  obtain ⟨v0, v1, v2, v3⟩ := id qv
  obtain ⟨a0, a1, a2, a3⟩ := id qa
  go_upto_region 3 with (first | (go_at_call_of 9 (Value.int .u32 Y1); refine (hi2 _).mono ?_; rintro e w2 ⟨rfl, g2⟩; replace kW := Kp.trans kW g2; replace qx := Fq.H2.keep qx g2; replace qy := Fq.H2.keep qy g2; replace qu := Fq.H2.keep qu g2; replace qv := Fq.H2.keep qv g2; replace qa := Fq.H2.keep qa g2; clear g2))
  have qb := Fq.H2.new w2 (.float .f32 B1) (.float .f32 B2) 28
  replace qx := Fq.H2.past qx #[.float .f32 B1, .float .f32 B2] 28
  replace qy := Fq.H2.past qy #[.float .f32 B1, .float .f32 B2] 28
  replace qu := Fq.H2.past qu #[.float .f32 B1, .float .f32 B2] 28
  replace qv := Fq.H2.past qv #[.float .f32 B1, .float .f32 B2] 28
  replace qa := Fq.H2.past qa #[.float .f32 B1, .float .f32 B2] 28
  replace kW := kW.alloc (.cells #[.float .f32 B1, .float .f32 B2] 28)
  clear x0 x1 x2 x3 y0 y1 y2 y3 u0 u1 u2 u3 v0 v1 v2 v3 a0 a1 a2 a3
  generalize hW : w2.alloc (.cells #[.float .f32 B1, .float .f32 B2] 28) = W2 at kW qb qx qy qu qv qa ⊢
  generalize w2.heap.size = bb at qb ⊢
  clear hW hi2
  obtain ⟨x0, x1, x2, x3⟩ := id qx
  obtain ⟨y0, y1, y2, y3⟩ := id qy
  obtain ⟨u0, u1, u2, u3⟩ := id qu
  obtain ⟨v0, v1, v2, v3⟩ := id qv
  obtain ⟨a0, a1, a2, a3⟩ := id qa
  obtain ⟨b0, b1, b2, b3⟩ := id qb
  go_upto_region 4 with fail
  have qp := Fq.H2.new W2 (.float .f32 A1) (.float .f32 A2) 47
  replace qx := Fq.H2.past qx #[.float .f32 A1, .float .f32 A2] 47
  replace qy := Fq.H2.past qy #[.float .f32 A1, .float .f32 A2] 47
  replace qu := Fq.H2.past qu #[.float .f32 A1, .float .f32 A2] 47
  replace qv := Fq.H2.past qv #[.float .f32 A1, .float .f32 A2] 47
  replace qa := Fq.H2.past qa #[.float .f32 A1, .float .f32 A2] 47
  replace qb := Fq.H2.past qb #[.float .f32 A1, .float .f32 A2] 47
  replace kW := kW.alloc (.cells #[.float .f32 A1, .float .f32 A2] 47)
  clear x0 x1 x2 x3 y0 y1 y2 y3 u0 u1 u2 u3 v0 v1 v2 v3 a0 a1 a2 a3 b0 b1 b2 b3
  generalize hW : W2.alloc (.cells #[.float .f32 A1, .float .f32 A2] 47) = W3 at kW qp qx qy qu qv qa qb ⊢
  generalize W2.heap.size = bp at qp ⊢
  clear hW
  obtain ⟨x0, x1, x2, x3⟩ := id qx
  obtain ⟨y0, y1, y2, y3⟩ := id qy
  obtain ⟨u0, u1, u2, u3⟩ := id qu
  obtain ⟨v0, v1, v2, v3⟩ := id qv
  obtain ⟨a0, a1, a2, a3⟩ := id qa
  obtain ⟨b0, b1, b2, b3⟩ := id qb
  obtain ⟨p0, p1, p2, p3⟩ := id qp
  go_upto_region 5 with fail
  have qq := Fq.H2.new W3 (.float .f32 B1) (.float .f32 B2) 47
  replace qx := Fq.H2.past qx #[.float .f32 B1, .float .f32 B2] 47
  replace qy := Fq.H2.past qy #[.float .f32 B1, .float .f32 B2] 47
  replace qu := Fq.H2.past qu #[.float .f32 B1, .float .f32 B2] 47
  replace qv := Fq.H2.past qv #[.float .f32 B1, .float .f32 B2] 47
  replace qa := Fq.H2.past qa #[.float .f32 B1, .float .f32 B2] 47
  replace qb := Fq.H2.past qb #[.float .f32 B1, .float .f32 B2] 47
  replace qp := Fq.H2.past qp #[.float .f32 B1, .float .f32 B2] 47
  replace kW := kW.alloc (.cells #[.float .f32 B1, .float .f32 B2] 47)
  clear x0 x1 x2 x3 y0 y1 y2 y3 u0 u1 u2 u3 v0 v1 v2 v3 a0 a1 a2 a3 b0 b1 b2 b3 p0 p1 p2 p3
  generalize hW : W3.alloc (.cells #[.float .f32 B1, .float .f32 B2] 47) = W4 at kW qq qx qy qu qv qa qb qp ⊢
  generalize W3.heap.size = bq at qq ⊢
  clear hW
  obtain ⟨x0, x1, x2, x3⟩ := id qx
  obtain ⟨y0, y1, y2, y3⟩ := id qy
  obtain ⟨u0, u1, u2, u3⟩ := id qu
  obtain ⟨v0, v1, v2, v3⟩ := id qv
  obtain ⟨a0, a1, a2, a3⟩ := id qa
  obtain ⟨b0, b1, b2, b3⟩ := id qb
  obtain ⟨p0, p1, p2, p3⟩ := id qp
  obtain ⟨q0, q1, q2, q3⟩ := id qq
  refine Fq.wp_region_grow (by kernel_rfl) (by kernel_rfl) (fun ι _ G hG hall => ?_)
  have cc0 : ∀ n, (G n).cell? ⟨w.heap.size, 0, none⟩ = some (.int .u32 X1) := fun n => Fq.gkeep (hG n) x0
  have cc1 : ∀ n, (G n).cell? ⟨w.heap.size, 1, none⟩ = some (.int .u32 X2) := fun n => Fq.gkeep (hG n) x1
  have cc2 : ∀ n, (G n).cell? ⟨w.heap.size + 1, 0, none⟩ = some (.int .u32 Y1) := fun n => Fq.gkeep (hG n) y0
  have cc3 : ∀ n, (G n).cell? ⟨w.heap.size + 1, 1, none⟩ = some (.int .u32 Y2) := fun n => Fq.gkeep (hG n) y1
  have cc4 : ∀ n, (G n).cell? ⟨bp, 0, none⟩ = some (.float .f32 A1) := fun n => Fq.gkeep (hG n) p0
  have cc5 : ∀ n, (G n).cell? ⟨bp, 1, none⟩ = some (.float .f32 A2) := fun n => Fq.gkeep (hG n) p1
  have cc6 : ∀ n, (G n).cell? ⟨bq, 0, none⟩ = some (.float .f32 B1) := fun n => Fq.gkeep (hG n) q0
  have cc7 : ∀ n, (G n).cell? ⟨bq, 1, none⟩ = some (.float .f32 B2) := fun n => Fq.gkeep (hG n) q1
  repeat (go_big_quiet_step (first | (go_at_call 19; exact (hm1 _).mono (fun e w' h => ⟨h.1, hall _ (Fq.gtrans (hG _) h.2)⟩)) | (go_at_call 21; exact (hj1 _).mono (fun e w' h => ⟨h.1, hall _ (Fq.gtrans (hG _) h.2)⟩)) | (go_at_call_of 7 (Value.float .f32 P1); exact (ho1 _).mono (fun e w' h => ⟨h.1, hall _ (Fq.gtrans (hG _) h.2)⟩)) | (go_at_call_of 7 (Value.float .f32 Q1); exact (ho2 _).mono (fun e w' h => ⟨h.1, hall _ (Fq.gtrans (hG _) h.2)⟩)) | (go_at_call 20; exact (hrm _).mono (fun e w' h => ⟨h.1, hall _ (Fq.gtrans (hG _) h.2)⟩)) | (go_at_call 22; exact (hrj _).mono (fun e w' h => ⟨h.1, hall _ (Fq.gtrans (hG _) h.2)⟩))))
  refine wpQuiet_nil ?_
  rintro _ ⟨nq, rfl⟩
  have gq : Kp _ (G nq) := hG nq
  clear cc0 cc1 cc2 cc3 cc4 cc5 cc6 cc7 hall hG
  replace kW := Kp.trans kW gq
  replace qx := Fq.H2.keep qx gq
  replace qy := Fq.H2.keep qy gq
  replace qu := Fq.H2.keep qu gq
  replace qv := Fq.H2.keep qv gq
  replace qa := Fq.H2.keep qa gq
  replace qb := Fq.H2.keep qb gq
  replace qp := Fq.H2.keep qp gq
  replace qq := Fq.H2.keep qq gq
  clear x0 x1 x2 x3 y0 y1 y2 y3 u0 u1 u2 u3 v0 v1 v2 v3 a0 a1 a2 a3 b0 b1 b2 b3 p0 p1 p2 p3 q0 q1 q2 q3
  clear gq
  generalize G nq = W5 at kW qx qy qu qv qa qb qp qq ⊢
  clear qp qq
  obtain ⟨x0, x1, x2, x3⟩ := id qx
  obtain ⟨y0, y1, y2, y3⟩ := id qy
  obtain ⟨u0, u1, u2, u3⟩ := id qu
  obtain ⟨v0, v1, v2, v3⟩ := id qv
  obtain ⟨a0, a1, a2, a3⟩ := id qa
  obtain ⟨b0, b1, b2, b3⟩ := id qb
  go_upto_region 8 with (first | (go_at_call 23; refine (hm2 _).mono ?_; rintro e w6 ⟨rfl, g6⟩; replace kW := Kp.trans kW g6; replace qx := Fq.H2.keep qx g6; replace qy := Fq.H2.keep qy g6; replace qu := Fq.H2.keep qu g6; replace qv := Fq.H2.keep qv g6; replace qa := Fq.H2.keep qa g6; replace qb := Fq.H2.keep qb g6; clear g6))
  have qc := Fq.H2.new w6 (.float .f32 P1) (.float .f32 P2) 52
  replace qx := Fq.H2.past qx #[.float .f32 P1, .float .f32 P2] 52
  replace qy := Fq.H2.past qy #[.float .f32 P1, .float .f32 P2] 52
  replace qu := Fq.H2.past qu #[.float .f32 P1, .float .f32 P2] 52
  replace qv := Fq.H2.past qv #[.float .f32 P1, .float .f32 P2] 52
  replace qa := Fq.H2.past qa #[.float .f32 P1, .float .f32 P2] 52
  replace qb := Fq.H2.past qb #[.float .f32 P1, .float .f32 P2] 52
  replace kW := kW.alloc (.cells #[.float .f32 P1, .float .f32 P2] 52)
  clear x0 x1 x2 x3 y0 y1 y2 y3 u0 u1 u2 u3 v0 v1 v2 v3 a0 a1 a2 a3 b0 b1 b2 b3
  generalize hW : w6.alloc (.cells #[.float .f32 P1, .float .f32 P2] 52) = W6 at kW qc qx qy qu qv qa qb ⊢
  generalize w6.heap.size = bc at qc ⊢
  clear hW hm2
  obtain ⟨x0, x1, x2, x3⟩ := id qx
  obtain ⟨y0, y1, y2, y3⟩ := id qy
  obtain ⟨u0, u1, u2, u3⟩ := id qu
  obtain ⟨v0, v1, v2, v3⟩ := id qv
  obtain ⟨a0, a1, a2, a3⟩ := id qa
  obtain ⟨b0, b1, b2, b3⟩ := id qb
  obtain ⟨c0, c1, c2, c3⟩ := id qc
  go_upto_region 9 with (first | (go_at_call 24; refine (hj2 _).mono ?_; rintro e w7 ⟨rfl, g7⟩; replace kW := Kp.trans kW g7; replace qx := Fq.H2.keep qx g7; replace qy := Fq.H2.keep qy g7; replace qu := Fq.H2.keep qu g7; replace qv := Fq.H2.keep qv g7; replace qa := Fq.H2.keep qa g7; replace qb := Fq.H2.keep qb g7; replace qc := Fq.H2.keep qc g7; clear g7))
  have qd := Fq.H2.new w7 (.float .f32 Q1) (.float .f32 Q2) 52
  replace qx := Fq.H2.past qx #[.float .f32 Q1, .float .f32 Q2] 52
  replace qy := Fq.H2.past qy #[.float .f32 Q1, .float .f32 Q2] 52
  replace qu := Fq.H2.past qu #[.float .f32 Q1, .float .f32 Q2] 52
  replace qv := Fq.H2.past qv #[.float .f32 Q1, .float .f32 Q2] 52
  replace qa := Fq.H2.past qa #[.float .f32 Q1, .float .f32 Q2] 52
  replace qb := Fq.H2.past qb #[.float .f32 Q1, .float .f32 Q2] 52
  replace qc := Fq.H2.past qc #[.float .f32 Q1, .float .f32 Q2] 52
  replace kW := kW.alloc (.cells #[.float .f32 Q1, .float .f32 Q2] 52)
  clear x0 x1 x2 x3 y0 y1 y2 y3 u0 u1 u2 u3 v0 v1 v2 v3 a0 a1 a2 a3 b0 b1 b2 b3 c0 c1 c2 c3
  generalize hW : w7.alloc (.cells #[.float .f32 Q1, .float .f32 Q2] 52) = W7 at kW qd qx qy qu qv qa qb qc ⊢
  generalize w7.heap.size = bd at qd ⊢
  clear hW hj2
  obtain ⟨x0, x1, x2, x3⟩ := id qx
  obtain ⟨y0, y1, y2, y3⟩ := id qy
  obtain ⟨u0, u1, u2, u3⟩ := id qu
  obtain ⟨v0, v1, v2, v3⟩ := id qv
  obtain ⟨a0, a1, a2, a3⟩ := id qa
  obtain ⟨b0, b1, b2, b3⟩ := id qb
  obtain ⟨c0, c1, c2, c3⟩ := id qc
  obtain ⟨d0, d1, d2, d3⟩ := id qd
  refine Fq.wp_region_grow (by kernel_rfl) (by kernel_rfl) (fun ι _ G hG hall => ?_)
  have cc0 : ∀ n, (G n).cell? ⟨w.heap.size, 0, none⟩ = some (.int .u32 X1) := fun n => Fq.gkeep (hG n) x0
  have cc1 : ∀ n, (G n).cell? ⟨w.heap.size, 1, none⟩ = some (.int .u32 X2) := fun n => Fq.gkeep (hG n) x1
  have cc2 : ∀ n, (G n).cell? ⟨w.heap.size + 1, 0, none⟩ = some (.int .u32 Y1) := fun n => Fq.gkeep (hG n) y0
  have cc3 : ∀ n, (G n).cell? ⟨w.heap.size + 1, 1, none⟩ = some (.int .u32 Y2) := fun n => Fq.gkeep (hG n) y1
  have cc4 : ∀ n, (G n).cell? ⟨bc, 0, none⟩ = some (.float .f32 P1) := fun n => Fq.gkeep (hG n) c0
  have cc5 : ∀ n, (G n).cell? ⟨bc, 1, none⟩ = some (.float .f32 P2) := fun n => Fq.gkeep (hG n) c1
  have cc6 : ∀ n, (G n).cell? ⟨bd, 0, none⟩ = some (.float .f32 Q1) := fun n => Fq.gkeep (hG n) d0
  have cc7 : ∀ n, (G n).cell? ⟨bd, 1, none⟩ = some (.float .f32 Q2) := fun n => Fq.gkeep (hG n) d1
  repeat (go_big_quiet_step (first | (go_at_call_of 25 (Value.float .f32 P1); exact (hf1 _).mono (fun e w' h => ⟨h.1, hall _ (Fq.gtrans (hG _) h.2)⟩)) | (go_at_call_of 25 (Value.float .f32 Q1); exact (hf2 _).mono (fun e w' h => ⟨h.1, hall _ (Fq.gtrans (hG _) h.2)⟩)) | (go_at_call_of 7 (Value.float .f32 P1); exact (ho1 _).mono (fun e w' h => ⟨h.1, hall _ (Fq.gtrans (hG _) h.2)⟩)) | (go_at_call_of 7 (Value.float .f32 Q1); exact (ho2 _).mono (fun e w' h => ⟨h.1, hall _ (Fq.gtrans (hG _) h.2)⟩)) | (go_at_call 20; exact (hrm _).mono (fun e w' h => ⟨h.1, hall _ (Fq.gtrans (hG _) h.2)⟩)) | (go_at_call 22; exact (hrj _).mono (fun e w' h => ⟨h.1, hall _ (Fq.gtrans (hG _) h.2)⟩))))
  refine wpQuiet_nil ?_
  rintro _ ⟨nq, rfl⟩
  have gq : Kp _ (G nq) := hG nq
  clear cc0 cc1 cc2 cc3 cc4 cc5 cc6 cc7 hall hG
  replace kW := Kp.trans kW gq
  replace qx := Fq.H2.keep qx gq
  replace qy := Fq.H2.keep qy gq
  replace qu := Fq.H2.keep qu gq
  replace qv := Fq.H2.keep qv gq
  replace qa := Fq.H2.keep qa gq
  replace qb := Fq.H2.keep qb gq
  replace qc := Fq.H2.keep qc gq
  replace qd := Fq.H2.keep qd gq
  clear x0 x1 x2 x3 y0 y1 y2 y3 u0 u1 u2 u3 v0 v1 v2 v3 a0 a1 a2 a3 b0 b1 b2 b3 c0 c1 c2 c3 d0 d1 d2 d3
  clear gq
  generalize G nq = W8 at kW qx qy qu qv qa qb qc qd ⊢
  clear qc qd qa qb qx qy
  obtain ⟨u0, u1, u2, u3⟩ := id qu
  obtain ⟨v0, v1, v2, v3⟩ := id qv
  go_upto_region 12 with (first | (go_at_call_of 14 (Value.int .u64 U1); refine (hl1 _).mono ?_; rintro e w9 ⟨rfl, g9⟩; replace kW := Kp.trans kW g9; replace qu := Fq.H2.keep qu g9; replace qv := Fq.H2.keep qv g9; clear g9))
  have qs := Fq.H2.new w9 (.float .f64 S1) (.float .f64 S2) 40
  replace qu := Fq.H2.past qu #[.float .f64 S1, .float .f64 S2] 40
  replace qv := Fq.H2.past qv #[.float .f64 S1, .float .f64 S2] 40
  replace kW := kW.alloc (.cells #[.float .f64 S1, .float .f64 S2] 40)
  clear u0 u1 u2 u3 v0 v1 v2 v3
  generalize hW : w9.alloc (.cells #[.float .f64 S1, .float .f64 S2] 40) = W9 at kW qs qu qv ⊢
  generalize w9.heap.size = bs at qs ⊢
  clear hW hl1
  obtain ⟨u0, u1, u2, u3⟩ := id qu
  obtain ⟨v0, v1, v2, v3⟩ := id qv
  obtain ⟨s0, s1, s2, s3⟩ := id qs
  go_upto_region 13 with (first | (go_at_call_of 14 (Value.int .u64 V1); refine (hl2 _).mono ?_; rintro e w10 ⟨rfl, g10⟩; replace kW := Kp.trans kW g10; replace qu := Fq.H2.keep qu g10; replace qv := Fq.H2.keep qv g10; replace qs := Fq.H2.keep qs g10; clear g10))
  have qt := Fq.H2.new w10 (.float .f64 T1) (.float .f64 T2) 40
  replace qu := Fq.H2.past qu #[.float .f64 T1, .float .f64 T2] 40
  replace qv := Fq.H2.past qv #[.float .f64 T1, .float .f64 T2] 40
  replace qs := Fq.H2.past qs #[.float .f64 T1, .float .f64 T2] 40
  replace kW := kW.alloc (.cells #[.float .f64 T1, .float .f64 T2] 40)
  clear u0 u1 u2 u3 v0 v1 v2 v3 s0 s1 s2 s3
  generalize hW : w10.alloc (.cells #[.float .f64 T1, .float .f64 T2] 40) = W10 at kW qt qu qv qs ⊢
  generalize w10.heap.size = bt at qt ⊢
  clear hW hl2
  obtain ⟨u0, u1, u2, u3⟩ := id qu
  obtain ⟨v0, v1, v2, v3⟩ := id qv
  obtain ⟨s0, s1, s2, s3⟩ := id qs
  obtain ⟨t0, t1, t2, t3⟩ := id qt
  go_upto_region 14 with (first | (go_at_call 26; refine (hmd _).mono ?_; rintro e w11 ⟨rfl, g11⟩; replace kW := Kp.trans kW g11; replace qu := Fq.H2.keep qu g11; replace qv := Fq.H2.keep qv g11; replace qs := Fq.H2.keep qs g11; replace qt := Fq.H2.keep qt g11; clear g11))
  have qm := Fq.H2.new w11 (.float .f64 C1) (.float .f64 C2) 55
  replace qu := Fq.H2.past qu #[.float .f64 C1, .float .f64 C2] 55
  replace qv := Fq.H2.past qv #[.float .f64 C1, .float .f64 C2] 55
  replace qs := Fq.H2.past qs #[.float .f64 C1, .float .f64 C2] 55
  replace qt := Fq.H2.past qt #[.float .f64 C1, .float .f64 C2] 55
  replace kW := kW.alloc (.cells #[.float .f64 C1, .float .f64 C2] 55)
  clear u0 u1 u2 u3 v0 v1 v2 v3 s0 s1 s2 s3 t0 t1 t2 t3
  generalize hW : w11.alloc (.cells #[.float .f64 C1, .float .f64 C2] 55) = W11 at kW qm qu qv qs qt ⊢
  generalize w11.heap.size = bm at qm ⊢
  clear hW hmd
  obtain ⟨u0, u1, u2, u3⟩ := id qu
  obtain ⟨v0, v1, v2, v3⟩ := id qv
  obtain ⟨s0, s1, s2, s3⟩ := id qs
  obtain ⟨t0, t1, t2, t3⟩ := id qt
  obtain ⟨m0, m1, m2, m3⟩ := id qm
  go_upto_region 15 with (first | (go_at_call 27; refine (hjf _).mono ?_; rintro e w12 ⟨rfl, g12⟩; replace kW := Kp.trans kW g12; replace qu := Fq.H2.keep qu g12; replace qv := Fq.H2.keep qv g12; replace qs := Fq.H2.keep qs g12; replace qt := Fq.H2.keep qt g12; replace qm := Fq.H2.keep qm g12; clear g12))
  have qj := Fq.H2.new w12 (.float .f64 D1) (.float .f64 D2) 59
  replace qu := Fq.H2.past qu #[.float .f64 D1, .float .f64 D2] 59
  replace qv := Fq.H2.past qv #[.float .f64 D1, .float .f64 D2] 59
  replace qs := Fq.H2.past qs #[.float .f64 D1, .float .f64 D2] 59
  replace qt := Fq.H2.past qt #[.float .f64 D1, .float .f64 D2] 59
  replace qm := Fq.H2.past qm #[.float .f64 D1, .float .f64 D2] 59
  replace kW := kW.alloc (.cells #[.float .f64 D1, .float .f64 D2] 59)
  clear u0 u1 u2 u3 v0 v1 v2 v3 s0 s1 s2 s3 t0 t1 t2 t3 m0 m1 m2 m3
  generalize hW : w12.alloc (.cells #[.float .f64 D1, .float .f64 D2] 59) = W12 at kW qj qu qv qs qt qm ⊢
  generalize w12.heap.size = bj at qj ⊢
  clear hW hjf
  obtain ⟨u0, u1, u2, u3⟩ := id qu
  obtain ⟨v0, v1, v2, v3⟩ := id qv
  obtain ⟨s0, s1, s2, s3⟩ := id qs
  obtain ⟨t0, t1, t2, t3⟩ := id qt
  obtain ⟨m0, m1, m2, m3⟩ := id qm
  obtain ⟨j0, j1, j2, j3⟩ := id qj
  refine Fq.wp_region_grow (by kernel_rfl) (by kernel_rfl) (fun ι _ G hG hall => ?_)
  have cc0 : ∀ n, (G n).cell? ⟨w.heap.size + 2, 0, none⟩ = some (.int .u64 U1) := fun n => Fq.gkeep (hG n) u0
  have cc1 : ∀ n, (G n).cell? ⟨w.heap.size + 2, 1, none⟩ = some (.int .u64 U2) := fun n => Fq.gkeep (hG n) u1
  have cc2 : ∀ n, (G n).cell? ⟨w.heap.size + 3, 0, none⟩ = some (.int .u64 V1) := fun n => Fq.gkeep (hG n) v0
  have cc3 : ∀ n, (G n).cell? ⟨w.heap.size + 3, 1, none⟩ = some (.int .u64 V2) := fun n => Fq.gkeep (hG n) v1
  have cc4 : ∀ n, (G n).cell? ⟨bm, 0, none⟩ = some (.float .f64 C1) := fun n => Fq.gkeep (hG n) m0
  have cc5 : ∀ n, (G n).cell? ⟨bm, 1, none⟩ = some (.float .f64 C2) := fun n => Fq.gkeep (hG n) m1
  repeat (go_big_quiet_step (first | (go_at_call_of 16 (Value.float .f64 C1); exact (hk1 _).mono (fun e w' h => ⟨h.1, hall _ (Fq.gtrans (hG _) h.2)⟩)) | (go_at_call 28; exact (hri _).mono (fun e w' h => ⟨h.1, hall _ (Fq.gtrans (hG _) h.2)⟩))))
  refine wpQuiet_nil ?_
  rintro _ ⟨nq, rfl⟩
  have gq : Kp _ (G nq) := hG nq
  clear cc0 cc1 cc2 cc3 cc4 cc5 hall hG
  replace kW := Kp.trans kW gq
  replace qu := Fq.H2.keep qu gq
  replace qv := Fq.H2.keep qv gq
  replace qs := Fq.H2.keep qs gq
  replace qt := Fq.H2.keep qt gq
  replace qm := Fq.H2.keep qm gq
  replace qj := Fq.H2.keep qj gq
  clear u0 u1 u2 u3 v0 v1 v2 v3 s0 s1 s2 s3 t0 t1 t2 t3 m0 m1 m2 m3 j0 j1 j2 j3
  clear gq
  generalize G nq = W13 at kW qu qv qs qt qm qj ⊢
  go_upto_region 17 with fail
  obtain ⟨u0, u1, u2, u3⟩ := id qu
  obtain ⟨v0, v1, v2, v3⟩ := id qv
  obtain ⟨s0, s1, s2, s3⟩ := id qs
  obtain ⟨t0, t1, t2, t3⟩ := id qt
  obtain ⟨m0, m1, m2, m3⟩ := id qm
  obtain ⟨j0, j1, j2, j3⟩ := id qj
  refine Fq.wp_region_grow (by kernel_rfl) (by kernel_rfl) (fun ι _ G hG hall => ?_)
  have cc0 : ∀ n, (G n).cell? ⟨w.heap.size + 2, 0, none⟩ = some (.int .u64 U1) := fun n => Fq.gkeep (hG n) u0
  have cc1 : ∀ n, (G n).cell? ⟨w.heap.size + 2, 1, none⟩ = some (.int .u64 U2) := fun n => Fq.gkeep (hG n) u1
  have cc2 : ∀ n, (G n).cell? ⟨w.heap.size + 3, 0, none⟩ = some (.int .u64 V1) := fun n => Fq.gkeep (hG n) v0
  have cc3 : ∀ n, (G n).cell? ⟨w.heap.size + 3, 1, none⟩ = some (.int .u64 V2) := fun n => Fq.gkeep (hG n) v1
  have cc4 : ∀ n, (G n).cell? ⟨bj, 0, none⟩ = some (.float .f64 D1) := fun n => Fq.gkeep (hG n) j0
  have cc5 : ∀ n, (G n).cell? ⟨bj, 1, none⟩ = some (.float .f64 D2) := fun n => Fq.gkeep (hG n) j1
  repeat (go_big_quiet_step (first | (go_at_call_of 16 (Value.float .f64 D1); exact (hk2 _).mono (fun e w' h => ⟨h.1, hall _ (Fq.gtrans (hG _) h.2)⟩)) | (go_at_call 29; exact (hrh _).mono (fun e w' h => ⟨h.1, hall _ (Fq.gtrans (hG _) h.2)⟩))))
  refine wpQuiet_nil ?_
  rintro _ ⟨nq, rfl⟩
  have gq : Kp _ (G nq) := hG nq
  clear cc0 cc1 cc2 cc3 cc4 cc5 hall hG
  replace kW := Kp.trans kW gq
  replace qu := Fq.H2.keep qu gq
  replace qv := Fq.H2.keep qv gq
  replace qs := Fq.H2.keep qs gq
  replace qt := Fq.H2.keep qt gq
  replace qm := Fq.H2.keep qm gq
  replace qj := Fq.H2.keep qj gq
  clear u0 u1 u2 u3 v0 v1 v2 v3 s0 s1 s2 s3 t0 t1 t2 t3 m0 m1 m2 m3 j0 j1 j2 j3
  clear gq
  generalize G nq = W14 at kW qu qv qs qt qm qj ⊢
  go_wp2
  exact bodyPost_ret (v := .bool true) (by simp [results, Try.results6, go_sem]) rfl ⟨rfl, kW⟩
theorem sMeets_ (x1 x2 y1 y2 u1 u2 v1 v2 : Nat) (hx1 : x1 < 4294967296) (hx2 : x2 < 4294967296) (hy1 : y1 < 4294967296) (hy2 : y2 < 4294967296) (hu1 : u1 < 18446744073709551616) (hu2 : u2 < 18446744073709551616) (hv1 : v1 < 18446744073709551616) (hv2 : v2 < 18446744073709551616) (w : World) : Calls Try.prog 6 #[.agg #[.int .u32 ((x1 : Nat) : Int), .int .u32 ((x2 : Nat) : Int)], .agg #[.int .u32 ((y1 : Nat) : Int), .int .u32 ((y2 : Nat) : Int)], .agg #[.int .u64 ((u1 : Nat) : Int), .int .u64 ((u2 : Nat) : Int)], .agg #[.int .u64 ((v1 : Nat) : Int), .int .u64 ((v2 : Nat) : Int)]] w fun e w' => e = .returned (.bool true) ∧ Kp w w' := by
  obtain ⟨L1, H1, r1⟩ := Sg.Rd.ex x1 x2 hx1 hx2
  obtain ⟨L2, H2, r2⟩ := Sg.Rd.ex y1 y2 hy1 hy2
  obtain ⟨L3, H3, r3⟩ := Rd.ex u1 u2 hu1 hu2
  obtain ⟨L4, H4, r4⟩ := Rd.ex v1 v2 hv1 hv2
  exact sMeetsA_ _ _ _ _ _ _ _ _ _ _ _ _ _ _ _ _ x1 x2 y1 y2 _ _ _ _ u1 u2 v1 v2 _ _ _ _ (inS_ x1 x2) (inS_ y1 y2) (meet_s9_ _ _ _ _ L1 H1 L2 H2 r1 r2) (join_s9_ _ _ _ _ L1 H1 L2 H2 r1 r2) (meet_near9_ _ _ _ _ L1 H1 L2 H2 r1 r2) (join_near9_ _ _ _ _ L1 H1 L2 H2 r1 r2) (outS_ _ _) (outS_ _ _) (rMeet14_ _ _ _ _ L1 H1 L2 H2 r1 r2) (rJoin14_ _ _ _ _ L1 H1 L2 H2 r1 r2) (ofS_14 _ _) (ofS_14 _ _) (inL_ u1 u2) (inL_ v1 v2) (meet_d9_ _ _ _ _ L3 H3 L4 H4 r3 r4) (join_far9_ _ _ _ _ L3 H3 L4 H4 r3 r4) (outL_ _ _) (outL_ _ _) (rmeet9_ _ _ _ _ L3 H3 L4 H4 r3.vd r4.vd (rread9_ _ _ _ _ r3) (rread9_ _ _ _ _ r4)) (rhull9_ _ _ _ _ L3 H3 L4 H4 r3 r4) w
end Go.Proofs.Ytjkbapnndoldgaa
