import Derived.Test.YtgebabhfcgmjlaaGreatDoorProg
import Derived.Test.YtgebabhfcgmjlaaGreatDoorKXA0
import Derived.Test.YtgebabhfcgmjlaaGreatDoorKXM
import Derived.Test.YtgebabhfcgmjlaaGreatDoorKXY
import Derived.Test.YtgebabhfcgmjlaaGreatDoorKXQF
import Derived.Test.YtgebabhfcgmjlaaGreatDoorKQA
import Derived.Test.YtgebabhfcgmjlaaGreatDoorKQP
import Derived.Test.YtgebabhfcgmjlaaGreatDoorKXQU
import Derived.Test.YtgebabhfcgmjlaaGreatDoorKQB
import Derived.Test.YtgebabhfcgmjlaaGreatDoorKQBT
import Derived.Test.YtgebabhfcgmjlaaGreatDoorKQJd
import Derived.Test.YtgebabhfcgmjlaaGreatDoorKXEA
import Derived.Test.YtgebabhfcgmjlaaGreatDoorKXEE
import Derived.Test.YtgebabhfcgmjlaaGreatDoorKMR7Q
import Derived.Test.YtgebabhfcgmjlaaGreatDoorKXMR
import Derived.Test.YtgebabhfcgmjlaaGreatDoorKXM3
import Derived.Test.YtgebabhfcgmjlaaGreatDoorKXO
import Derived.Test.YtgebabhfcgmjlaaGreatDoorKXO3
import Derived.Test.YtgebabhfcgmjlaaGreatDoorKXT
import Derived.Test.YtgebabhfcgmjlaaGreatDoorKHB
import Derived.Test.YtgebabhfcgmjlaaGreatDoorKLX
import Derived.Test.YtgebabhfcgmjlaaGreatDoorKRX
import Derived.Test.YtgebabhfcgmjlaaGreatDoorKXRL
import Derived.Test.YtgebabhfcgmjlaaGreatDoorKXCO
import Derived.Test.YtgebabhfcgmjlaaGreatDoorKLN
import Derived.Test.YtgebabhfcgmjlaaGreatDoorKXRN
import Derived.Test.YtgebabhfcgmjlaaGreatDoorKW4
import Derived.Test.YtgebabhfcgmjlaaGreatDoorKXBY
import Derived.Test.YtgebabhfcgmjlaaGreatDoorKXTZ
import Derived.Test.YtgebabhfcgmjlaaGreatDoorKXG1
import Derived.Test.YtgebabhfcgmjlaaGreatDoorKNSm
import Derived.Test.YtgebabhfcgmjlaaGreatDoorKXH2Q
import Derived.Test.YtgebabhfcgmjlaaGreatDoorKXG4
import Derived.Test.YtgebabhfcgmjlaaGreatDoorKXS1
import Derived.Test.YtgebabhfcgmjlaaGreatDoorKXMW
import Derived.Test.YtgebabhfcgmjlaaGreatDoorKXET
import Derived.Test.YtgebabhfcgmjlaaGreatDoorKXS4
import Derived.Test.YtgebabhfcgmjlaaGreatDoorKXS8
import Derived.Test.YtgebabhfcgmjlaaGreatDoorKXEG
import Derived.WalkKit
import Derived.ProofKit
import Derived.RowKit3
import Derived.WalkSpells
import Derived.StillTactics
import Derived.Deep.QuietTactic
import Derived.BigQuiet
import Derived.Below
import Derived.Deep.OwnRows
import Derived.OwnWalk
import Derived.Laws.BitsAllLaws
import Derived.Laws.Slices
import Derived.Laws.Bits64b
import Derived.Laws.FloatArith
import Derived.Deep.RegionHeld3
namespace Go.Proofs.YtgebabhfcgmjlaaGreatDoor
open Go.RowKit

theorem rnegX_ (a b : Nat) (ha : a < 18446744073709551616) (hb : b < 18446744073709551616) (w : World) : Calls Tryz.prog 6 #[.agg #[.int .u64 ((a : Nat) : Int), .int .u64 ((b : Nat) : Int)]] w fun e w' => e = .returned (.agg #[.int .u64 ((opP (Fq.rhi a b) : Nat) : Int), .int .u64 ((opP (Fq.rlo a b) : Nat) : Int)]) ∧ Kp w w' := by
  by_cases s1 : Fq.snd a b = true
  · obtain ⟨n, m, l1, e1⟩ := rlo_w a b ha hb
    obtain ⟨g, r, l2, e2⟩ := rhi_w a b ha hb
    have q1 : opP (Fq.rhi a b) = Fq.pla (Fq.wD (!g) r) := by rw [e2, opP_w g r (by omega)]; rfl
    have q2 : opP (Fq.rlo a b) = Fq.pla (Fq.wD (!n) m) := by rw [e1, opP_w n m (by omega)]; rfl
    rw [q1, q2]
    have i1 := rlo_inf a b s1 n m e1
    have i2 := rhi_inf a b s1 g r e2
    exact rneg7c_ _ _ _ _ (SV1 n m g r) (SV1 (!g) r (!n) m) w (fun W _ => ofSound_ a b ha hb s1 n g m r l1 l2 e1 e2 W) (fun W v _ h => minusS_ n g m r W v h) (fun W v _ h => leastV_ (!g) (!n) r m l2 l1 (fun h => by rw [i2 h]; rfl) (fun h => by rw [i1 h]; rfl) W v h)
  · have s1 : Fq.snd a b = false := by simpa using s1
    have q1 : opP (Fq.rhi a b) = 9218868437227405312 := by rw [show Fq.rhi a b = 18442240474082181120 from by rw [Fq.rhi, if_neg (by rw [s1]; decide)]]; decide +kernel
    have q2 : opP (Fq.rlo a b) = 18442240474082181120 := by rw [show Fq.rlo a b = 9218868437227405312 from by rw [Fq.rlo, if_neg (by rw [s1]; decide)]]; decide +kernel
    rw [q1, q2]
    exact rneg7c_ _ _ _ _ (fun _ v => SV0 true v) (fun _ v => SV0 true v) w (fun W _ => ofEmpty_ a b ha hb s1 W) (fun W v _ h => minusX_ W v h) (fun W v _ h => leastN_ W v h)
set_option maxRecDepth 20000 in
set_option maxHeartbeats 4000000 in
theorem mirN_ (X Y L9 H9 P9 Q9 : Int) (LO HI ML MH M9 N9 R9 S9 : Nat) (hD : ∀ w : World, Calls Tryz.prog 4 #[.agg #[.float .f64 4607182418800017408, .float .f64 4613937818241073152]] w fun e w' => e = .returned (.float .f64 4611686018427387904) ∧ Kp w w') (_q0 : (FloatKind.f64.format.order 4611686018427387904 4611686018427387904 == some Ordering.eq) = true) (hRd : ∀ w : World, Calls Tryz.prog 5 #[.agg #[.int .u64 X, .int .u64 Y]] w fun e w' => e = .returned (.agg #[.int .u64 L9, .int .u64 H9]) ∧ Kp w w') (hNg : ∀ w : World, Calls Tryz.prog 6 #[.agg #[.int .u64 L9, .int .u64 H9]] w fun e w' => e = .returned (.agg #[.int .u64 P9, .int .u64 Q9]) ∧ Kp w w') (hI1 : ∀ w : World, Calls Tryz.prog 8 #[.agg #[.int .u64 L9, .int .u64 H9]] w fun e w' => e = .returned (.agg #[.float .f64 LO, .float .f64 HI]) ∧ Kp w w') (hI2 : ∀ w : World, Calls Tryz.prog 8 #[.agg #[.int .u64 P9, .int .u64 Q9]] w fun e w' => e = .returned (.agg #[.float .f64 ML, .float .f64 MH]) ∧ Kp w w') (w : World) (hM1 : ∀ W : World, Kp w W → Calls Tryz.prog 7 #[.agg #[.float .f64 LO, .float .f64 HI]] W fun e w' => e = .returned (.tuple #[.float .f64 M9, .float .f64 R9]) ∧ Kp W w') (hM2 : ∀ W : World, Kp w W → Calls Tryz.prog 7 #[.agg #[.float .f64 ML, .float .f64 MH]] W fun e w' => e = .returned (.tuple #[.float .f64 N9, .float .f64 S9]) ∧ Kp W w') (t8 : (L9 == 9218868437227405312) = true) (t9 : (H9 == 18442240474082181120) = true) (e1 : (FloatKind.f64.format.order M9 M9 == some Ordering.eq) = false) (e2 : (FloatKind.f64.format.order N9 N9 == some Ordering.eq) = false) (e3 : (FloatKind.f64.format.order R9 R9 == some Ordering.eq) = false) (e4 : (FloatKind.f64.format.order S9 S9 == some Ordering.eq) = false) : Calls Tryz.prog 3 #[.agg #[.int .u64 X, .int .u64 Y]] w fun e w' => e = .returned (.bool true) ∧ Kp w w' := by
  have n1 : ¬ (FloatKind.f64.format.order M9 M9 = some Ordering.eq) := by simpa using e1
  have n2 : ¬ (FloatKind.f64.format.order N9 N9 = some Ordering.eq) := by simpa using e2
  have n3 : ¬ (FloatKind.f64.format.order R9 R9 = some Ordering.eq) := by simpa using e3
  have n4 : ¬ (FloatKind.f64.format.order S9 S9 = some Ordering.eq) := by simpa using e4
  go_enter Tryz.func3, Tryz.ntmps3
  go_wp2_with (first | (go_at_call 4; refine (hD _).mono ?_; rintro e w1 ⟨rfl, g1⟩; have k1 : Kp w w1 := Kp.trans ((Kp.refl w).alloc _) g1; have x0 := kkeep g1 (b := w.heap.size) (o := 0) (v := .int .u64 X) (by simp [go_sem]); have x1 := kkeep g1 (b := w.heap.size) (o := 1) (v := .int .u64 Y) (by simp [go_sem])) | (go_at_call 5; refine (hRd _).mono ?_; rintro e w2 ⟨rfl, g2⟩; have k2 : Kp w w2 := Kp.trans k1 g2) | (go_at_call 6; refine (hNg _).mono ?_; rintro e w3 ⟨rfl, g3⟩; have k3 : Kp w w3 := Kp.trans (Kp.trans k2 ((Kp.refl w2).alloc _)) g3; have y0 := kkeep g3 (b := w2.heap.size) (o := 0) (v := .int .u64 L9) (by simp [go_sem]); have y1 := kkeep g3 (b := w2.heap.size) (o := 1) (v := .int .u64 H9) (by simp [go_sem]); have ya0 := fun o => kkeep ((Kp.refl w3).alloc o) y0; have ya1 := fun o => kkeep ((Kp.refl w3).alloc o) y1) | (go_at_call_of 8 (Value.agg #[.int .u64 L9, .int .u64 H9]); refine (hI1 _).mono ?_; rintro e w4 ⟨rfl, g4⟩; have k4 : Kp w w4 := Kp.trans (Kp.trans k3 ((Kp.refl w3).alloc _)) g4; have u0 := kkeep g4 (ya0 _); have u1 := kkeep g4 (ya1 _); have z0 := kkeep g4 (b := w3.heap.size) (o := 0) (v := .int .u64 P9) (by simp [go_sem]); have z1 := kkeep g4 (b := w3.heap.size) (o := 1) (v := .int .u64 Q9) (by simp [go_sem])) | (go_at_call_of 7 (Value.agg #[.float .f64 LO, .float .f64 HI]); refine (hM1 _ k4).mono ?_; rintro e w5 ⟨rfl, g5⟩; have k5 : Kp w w5 := Kp.trans k4 g5; have v0 := kkeep g5 u0; have v1 := kkeep g5 u1; have t0 := kkeep g5 z0; have t1 := kkeep g5 z1) | (go_at_call_of 8 (Value.agg #[.int .u64 P9, .int .u64 Q9]); refine (hI2 _).mono ?_; rintro e w6 ⟨rfl, g6⟩; have k6 : Kp w w6 := Kp.trans k5 g6) | (go_at_call_of 7 (Value.agg #[.float .f64 ML, .float .f64 MH]); refine (hM2 _ k6).mono ?_; rintro e w7 ⟨rfl, g7⟩; have k7 : Kp w w7 := Kp.trans k6 g7; have a0 := kkeep (Kp.trans g6 g7) v0; have a1 := kkeep (Kp.trans g6 g7) v1; have b0 := kkeep (Kp.trans g6 g7) t0; have b1 := kkeep (Kp.trans g6 g7) t1))
  refine Fq.wp_region_grow (by kernel_rfl) (by kernel_rfl) (fun ι _ G hG hall => ?_)
  have c0 : ∀ n, (G n).cell? ⟨w2.heap.size, 0, none⟩ = some (.int .u64 L9) := fun n => Fq.gkeep (hG n) a0
  have c1 : ∀ n, (G n).cell? ⟨w2.heap.size, 1, none⟩ = some (.int .u64 H9) := fun n => Fq.gkeep (hG n) a1
  have c2 : ∀ n, (G n).cell? ⟨w3.heap.size, 0, none⟩ = some (.int .u64 P9) := fun n => Fq.gkeep (hG n) b0
  have c3 : ∀ n, (G n).cell? ⟨w3.heap.size, 1, none⟩ = some (.int .u64 Q9) := fun n => Fq.gkeep (hG n) b1
  have kG : ∀ n, Kp w (G n) := fun n => Kp.trans k7 (hG n)
  repeat (go_big_quiet_step (first | (go_at_call 9; exact (Fq.rempty_ _).mono (fun e w' h => ⟨h.1, hall _ (by rw [h.2]; exact (hG _).alloc _ _)⟩))))
  refine wpQuiet_nil ?_
  rintro _ ⟨nq, rfl⟩
  have r0 := c0 nq
  have r1 := c1 nq
  have r2 := c2 nq
  have r3 := c3 nq
  have kXWE := kG nq
  clear c0 c1 c2 c3 kG hall
  generalize G nq = WE at r0 r1 r2 r3 kXWE ⊢
  clear hG
  go_wp2
  exact bodyPost_ret (v := .bool true) (by simp [results, Tryz.results3, go_sem] <;> exact ⟨⟨⟨n1, n2⟩, n3⟩, n4⟩) rfl ⟨rfl, kXWE⟩
set_option maxRecDepth 20000 in
set_option maxHeartbeats 4000000 in
theorem mirS_ (X Y L9 H9 P9 Q9 : Int) (LO HI ML MH M9 N9 R9 S9 : Nat) (hD : ∀ w : World, Calls Tryz.prog 4 #[.agg #[.float .f64 4607182418800017408, .float .f64 4613937818241073152]] w fun e w' => e = .returned (.float .f64 4611686018427387904) ∧ Kp w w') (_q0 : (FloatKind.f64.format.order 4611686018427387904 4611686018427387904 == some Ordering.eq) = true) (hRd : ∀ w : World, Calls Tryz.prog 5 #[.agg #[.int .u64 X, .int .u64 Y]] w fun e w' => e = .returned (.agg #[.int .u64 L9, .int .u64 H9]) ∧ Kp w w') (hNg : ∀ w : World, Calls Tryz.prog 6 #[.agg #[.int .u64 L9, .int .u64 H9]] w fun e w' => e = .returned (.agg #[.int .u64 P9, .int .u64 Q9]) ∧ Kp w w') (hI1 : ∀ w : World, Calls Tryz.prog 8 #[.agg #[.int .u64 L9, .int .u64 H9]] w fun e w' => e = .returned (.agg #[.float .f64 LO, .float .f64 HI]) ∧ Kp w w') (hI2 : ∀ w : World, Calls Tryz.prog 8 #[.agg #[.int .u64 P9, .int .u64 Q9]] w fun e w' => e = .returned (.agg #[.float .f64 ML, .float .f64 MH]) ∧ Kp w w') (NN W9 G9 K9 : Nat) (w : World) (hM1 : ∀ W : World, Kp w W → Calls Tryz.prog 7 #[.agg #[.float .f64 LO, .float .f64 HI]] W fun e w' => e = .returned (.tuple #[.float .f64 M9, .float .f64 R9]) ∧ Kp W w') (hM2 : ∀ W : World, Kp w W → Calls Tryz.prog 7 #[.agg #[.float .f64 ML, .float .f64 MH]] W fun e w' => e = .returned (.tuple #[.float .f64 N9, .float .f64 S9]) ∧ Kp W w') (t8 : (L9 == 9218868437227405312) = false) (hng : ∀ w : World, (Op.unary .neg (.float .f64 N9)).run Tryz.prog w = .ok (.float .f64 NN) w) (e1 : (FloatKind.f64.format.order M9 NN == some Ordering.eq) = true) (e2 : (FloatKind.f64.format.order R9 S9 == some Ordering.eq) = true) (e3 : (FloatKind.f64.format.order W9 W9 == some Ordering.eq) = true) (e4 : (FloatKind.f64.format.order G9 G9 == some Ordering.eq) = true) (e5 : (FloatKind.f64.format.order K9 K9 == some Ordering.eq) = true) (hW1 : ∀ W : World, Kp w W → Calls Tryz.prog 10 #[.agg #[.float .f64 LO, .float .f64 HI]] W fun e w' => e = .returned (.float .f64 W9) ∧ Kp W w') (hW2 : ∀ W : World, Kp w W → Calls Tryz.prog 10 #[.agg #[.float .f64 ML, .float .f64 MH]] W fun e w' => e = .returned (.float .f64 W9) ∧ Kp W w') (hG1 : ∀ W : World, Kp w W → Calls Tryz.prog 11 #[.agg #[.float .f64 LO, .float .f64 HI]] W fun e w' => e = .returned (.float .f64 G9) ∧ Kp W w') (hG2 : ∀ W : World, Kp w W → Calls Tryz.prog 11 #[.agg #[.float .f64 ML, .float .f64 MH]] W fun e w' => e = .returned (.float .f64 G9) ∧ Kp W w') (hK1 : ∀ W : World, Kp w W → Calls Tryz.prog 12 #[.agg #[.float .f64 LO, .float .f64 HI]] W fun e w' => e = .returned (.float .f64 K9) ∧ Kp W w') (hK2 : ∀ W : World, Kp w W → Calls Tryz.prog 12 #[.agg #[.float .f64 ML, .float .f64 MH]] W fun e w' => e = .returned (.float .f64 K9) ∧ Kp W w') : Calls Tryz.prog 3 #[.agg #[.int .u64 X, .int .u64 Y]] w fun e w' => e = .returned (.bool true) ∧ Kp w w' := by
  go_enter Tryz.func3, Tryz.ntmps3
  go_wp2_with (first | (go_at_call 4; refine (hD _).mono ?_; rintro e w1 ⟨rfl, g1⟩; have k1 : Kp w w1 := Kp.trans ((Kp.refl w).alloc _) g1; have x0 := kkeep g1 (b := w.heap.size) (o := 0) (v := .int .u64 X) (by simp [go_sem]); have x1 := kkeep g1 (b := w.heap.size) (o := 1) (v := .int .u64 Y) (by simp [go_sem])) | (go_at_call 5; refine (hRd _).mono ?_; rintro e w2 ⟨rfl, g2⟩; have k2 : Kp w w2 := Kp.trans k1 g2) | (go_at_call 6; refine (hNg _).mono ?_; rintro e w3 ⟨rfl, g3⟩; have k3 : Kp w w3 := Kp.trans (Kp.trans k2 ((Kp.refl w2).alloc _)) g3; have y0 := kkeep g3 (b := w2.heap.size) (o := 0) (v := .int .u64 L9) (by simp [go_sem]); have y1 := kkeep g3 (b := w2.heap.size) (o := 1) (v := .int .u64 H9) (by simp [go_sem]); have ya0 := fun o => kkeep ((Kp.refl w3).alloc o) y0; have ya1 := fun o => kkeep ((Kp.refl w3).alloc o) y1) | (go_at_call_of 8 (Value.agg #[.int .u64 L9, .int .u64 H9]); refine (hI1 _).mono ?_; rintro e w4 ⟨rfl, g4⟩; have k4 : Kp w w4 := Kp.trans (Kp.trans k3 ((Kp.refl w3).alloc _)) g4; have u0 := kkeep g4 (ya0 _); have u1 := kkeep g4 (ya1 _); have z0 := kkeep g4 (b := w3.heap.size) (o := 0) (v := .int .u64 P9) (by simp [go_sem]); have z1 := kkeep g4 (b := w3.heap.size) (o := 1) (v := .int .u64 Q9) (by simp [go_sem])) | (go_at_call_of 7 (Value.agg #[.float .f64 LO, .float .f64 HI]); refine (hM1 _ k4).mono ?_; rintro e w5 ⟨rfl, g5⟩; have k5 : Kp w w5 := Kp.trans k4 g5; have v0 := kkeep g5 u0; have v1 := kkeep g5 u1; have t0 := kkeep g5 z0; have t1 := kkeep g5 z1) | (go_at_call_of 8 (Value.agg #[.int .u64 P9, .int .u64 Q9]); refine (hI2 _).mono ?_; rintro e w6 ⟨rfl, g6⟩; have k6 : Kp w w6 := Kp.trans k5 g6) | (go_at_call_of 7 (Value.agg #[.float .f64 ML, .float .f64 MH]); refine (hM2 _ k6).mono ?_; rintro e w7 ⟨rfl, g7⟩; have k7 : Kp w w7 := Kp.trans k6 g7; have a0 := kkeep (Kp.trans g6 g7) v0; have a1 := kkeep (Kp.trans g6 g7) v1; have b0 := kkeep (Kp.trans g6 g7) t0; have b1 := kkeep (Kp.trans g6 g7) t1))
  refine Fq.wp_region_grow (by kernel_rfl) (by kernel_rfl) (fun ι _ G hG hall => ?_)
  have c0 : ∀ n, (G n).cell? ⟨w2.heap.size, 0, none⟩ = some (.int .u64 L9) := fun n => Fq.gkeep (hG n) a0
  have c1 : ∀ n, (G n).cell? ⟨w2.heap.size, 1, none⟩ = some (.int .u64 H9) := fun n => Fq.gkeep (hG n) a1
  have c2 : ∀ n, (G n).cell? ⟨w3.heap.size, 0, none⟩ = some (.int .u64 P9) := fun n => Fq.gkeep (hG n) b0
  have c3 : ∀ n, (G n).cell? ⟨w3.heap.size, 1, none⟩ = some (.int .u64 Q9) := fun n => Fq.gkeep (hG n) b1
  have kG : ∀ n, Kp w (G n) := fun n => Kp.trans k7 (hG n)
  repeat (go_big_quiet_step (first | (go_at_call 9; exact (Fq.rempty_ _).mono (fun e w' h => ⟨h.1, hall _ (by rw [h.2]; exact (hG _).alloc _ _)⟩))))
  refine wpQuiet_nil ?_
  rintro _ ⟨nq, rfl⟩
  have r0 := c0 nq
  have r1 := c1 nq
  have r2 := c2 nq
  have r3 := c3 nq
  have kXWE := kG nq
  clear c0 c1 c2 c3 kG hall
  generalize G nq = WE at r0 r1 r2 r3 kXWE ⊢
  clear hG
  go_wp2
  refine Fq.wp_region_grow (by kernel_rfl) (by kernel_rfl) (fun ι _ G hG hall => ?_)
  have c0 : ∀ n, (G n).cell? ⟨w2.heap.size, 0, none⟩ = some (.int .u64 L9) := fun n => Fq.gkeep (hG n) r0
  have c1 : ∀ n, (G n).cell? ⟨w2.heap.size, 1, none⟩ = some (.int .u64 H9) := fun n => Fq.gkeep (hG n) r1
  have c2 : ∀ n, (G n).cell? ⟨w3.heap.size, 0, none⟩ = some (.int .u64 P9) := fun n => Fq.gkeep (hG n) r2
  have c3 : ∀ n, (G n).cell? ⟨w3.heap.size, 1, none⟩ = some (.int .u64 Q9) := fun n => Fq.gkeep (hG n) r3
  have kG : ∀ n, Kp w (G n) := fun n => Kp.trans kXWE (hG n)
  repeat (go_big_quiet_step (first | (go_at_call_of 8 (Value.agg #[.int .u64 L9, .int .u64 H9]); exact (hI1 _).mono (fun e w' h => ⟨h.1, hall _ (Fq.gtrans (hG _) h.2)⟩)) | (go_at_call_of 8 (Value.agg #[.int .u64 P9, .int .u64 Q9]); exact (hI2 _).mono (fun e w' h => ⟨h.1, hall _ (Fq.gtrans (hG _) h.2)⟩)) | (go_at_call_of 10 (Value.agg #[.float .f64 LO, .float .f64 HI]); exact (hW1 _ (kG _)).mono (fun e w' h => ⟨h.1, hall _ (Fq.gtrans (hG _) h.2)⟩)) | (go_at_call_of 10 (Value.agg #[.float .f64 ML, .float .f64 MH]); exact (hW2 _ (kG _)).mono (fun e w' h => ⟨h.1, hall _ (Fq.gtrans (hG _) h.2)⟩)) | (go_at_call_of 11 (Value.agg #[.float .f64 LO, .float .f64 HI]); exact (hG1 _ (kG _)).mono (fun e w' h => ⟨h.1, hall _ (Fq.gtrans (hG _) h.2)⟩)) | (go_at_call_of 11 (Value.agg #[.float .f64 ML, .float .f64 MH]); exact (hG2 _ (kG _)).mono (fun e w' h => ⟨h.1, hall _ (Fq.gtrans (hG _) h.2)⟩)) | (go_at_call_of 12 (Value.agg #[.float .f64 LO, .float .f64 HI]); exact (hK1 _ (kG _)).mono (fun e w' h => ⟨h.1, hall _ (Fq.gtrans (hG _) h.2)⟩)) | (go_at_call_of 12 (Value.agg #[.float .f64 ML, .float .f64 MH]); exact (hK2 _ (kG _)).mono (fun e w' h => ⟨h.1, hall _ (Fq.gtrans (hG _) h.2)⟩))))
  refine wpQuiet_nil ?_
  rintro _ ⟨nq, rfl⟩
  have s0 := c0 nq
  have s1 := c1 nq
  have s2 := c2 nq
  have s3 := c3 nq
  have kXWF := kG nq
  clear c0 c1 c2 c3 kG hall
  generalize G nq = WF at s0 s1 s2 s3 kXWF ⊢
  clear hG
  go_wp2
  exact bodyPost_ret (v := .bool true) (by simp [results, Tryz.results3, go_sem]) rfl ⟨rfl, kXWF⟩
theorem read_again8 (a b : Nat) (ha : a < 18446744073709551616) (hb : b < 18446744073709551616) : Fq.rlo (Fq.rlo a b) (Fq.rhi a b) = Fq.rlo a b ∧ Fq.rhi (Fq.rlo a b) (Fq.rhi a b) = Fq.rhi a b := by
  by_cases s1 : Fq.snd a b = true
  · exact ⟨rlo_read8 a b ha hb s1, rhi_read8 a b ha hb s1⟩
  · have q := rempty8 a b (by simpa using s1)
    rw [q.1, q.2]
    exact ⟨by decide +kernel, by decide +kernel⟩
theorem fself8 (x : Nat) (h : x ≤ 9218868437227405312) : (FloatKind.f64.format.order x x == some Ordering.eq) = true := by
  have g := Fq.feq false false x x (by omega) (by omega)
  rw [show Fq.wD false x = x from rfl, decide_eq_true ⟨h, h, rfl⟩] at g
  exact g
theorem fnan8 : (FloatKind.f64.format.order 9221120237041090561 9221120237041090561 == some Ordering.eq) = false := by
  have h := Fq.feq false false 9221120237041090561 9221120237041090561 (by decide) (by decide)
  rw [decide_eq_false (by omega)] at h
  exact h
theorem mid13_ (w : World) : Calls Tryz.prog 4 #[.agg #[.float .f64 4607182418800017408, .float .f64 4613937818241073152]] w fun e w' => e = .returned (.float .f64 4611686018427387904) ∧ Kp w w' := by
  have h := midS8_ 4607182418800017408 4613937818241073152 (by decide) (by decide) (by decide +kernel) false false 4607182418800017408 4613937818241073152 (by decide) (by decide) (by decide +kernel) (by decide +kernel) w
  rw [show mdP false 4607182418800017408 false 4613937818241073152 = 4611686018427387904 from by decide +kernel] at h
  exact h
theorem op_plz (g : Bool) (r : Nat) (hr : r < 9223372036854775808) : ∃ k : Bool, opP (Fq.wD g r) = Fq.wD k r ∧ Fq.plz k r = -Fq.plz g r ∧ (k = true → r ≠ 0) := by
  rw [opP_w g r hr]
  by_cases z : r = 0
  · refine ⟨false, ?_, ?_, fun h => by cases h⟩
    · rw [z]; cases g <;> decide +kernel
    · rw [z]; cases g <;> rfl
  · refine ⟨!g, ?_, ?_, fun _ => z⟩
    · unfold mnP Fq.pla Fq.wD
      cases g <;> simp <;> repeat' split
      all_goals first | rfl | omega
    · unfold Fq.plz; cases g <;> simp
theorem mirrors_ (a b : Nat) (ha : a < 18446744073709551616) (hb : b < 18446744073709551616) (w : World) (hT : Tab w) (hQ : Fq.Tab w) : Calls Tryz.prog 3 #[.agg #[.int .u64 ((a : Nat) : Int), .int .u64 ((b : Nat) : Int)]] w fun e w' => e = .returned (.bool true) ∧ Kp w w' := by
  have lr := Fq.rlo_lt a b ha
  have hr := Fq.rhi_lt a b hb
  have ra := read_again8 a b ha hb
  have hNg := rnegX_ (Fq.rlo a b) (Fq.rhi a b) lr hr
  rw [ra.1, ra.2] at hNg
  have hRd := rread8 a b ha hb
  have hI1 := in8_ (Fq.rlo a b) (Fq.rhi a b)
  have hI2 := in8_ (opP (Fq.rhi a b)) (opP (Fq.rlo a b))
  have q0 := fself8 4611686018427387904 (by decide)
  by_cases s1 : Fq.snd a b = true
  · obtain ⟨n, m, l1, e1⟩ := rlo_w a b ha hb
    obtain ⟨g, r, l2, e2⟩ := rhi_w a b ha hb
    have t8 := lo_inf8 a b s1 n m l1 e1
    have i1 := rlo_inf a b s1 n m e1
    have i2 := rhi_inf a b s1 g r e2
    have le := le_read8 a b ha hb s1 n g m r l1 l2 e1 e2
    have s2 := snd_read8 a b ha hb s1
    obtain ⟨k, ek, pk, zk⟩ := op_plz g r (by omega)
    obtain ⟨j, ej, pj, zj⟩ := op_plz n m (by omega)
    -- the mirrored one is read as itself
    have b1 : Fq.wD k r < 18446744073709551616 := by unfold Fq.wD; split <;> omega
    have b2 : Fq.wD j m < 18446744073709551616 := by unfold Fq.wD; split <;> omega
    have s3 : Fq.snd (Fq.wD k r) (Fq.wD j m) = true := by
      rw [Fq.snd_w k j r m (by omega) (by omega)]
      refine decide_eq_true ⟨l2, l1, by omega, ?_, ?_⟩
      · rintro ⟨h1, h2⟩
        rw [h1, h2, i2 h2] at pk
        exact absurd pk (by decide)
      · rintro ⟨h1, h2⟩
        rw [h1, h2, i1 h2] at pj
        exact absurd pj (by decide)
    have p1 : Fq.pla (Fq.wD k r) = Fq.wD k r := by unfold Fq.pla; rw [if_neg]; unfold Fq.wD; cases k <;> simp; omega; exact zk rfl
    have p2 : Fq.pla (Fq.wD j m) = Fq.wD j m := by unfold Fq.pla; rw [if_neg]; unfold Fq.wD; cases j <;> simp; omega; exact zj rfl
    have e3 : Fq.rlo (Fq.wD k r) (Fq.wD j m) = Fq.wD k r := by rw [Fq.rlo, if_pos s3, p1]
    have e4 : Fq.rhi (Fq.wD k r) (Fq.wD j m) = Fq.wD j m := by rw [Fq.rhi, if_pos s3, p2]
    have e5 := ra.1.trans e1
    have e6 := ra.2.trans e2
    obtain ⟨s, x, lx, ex, s', ex', px⟩ := mdP_neg n g j k m r pj pk
    have hM1 := mradX_ (Fq.rlo a b) (Fq.rhi a b) lr hr s2 n g m r l1 l2 e5 e6 s x lx ex
    have hM2 := mradX_ (Fq.wD k r) (Fq.wD j m) b1 b2 s3 k j r m l2 l1 e3 e4 s' x lx ex'
    have hW1 := widX_ (Fq.rlo a b) (Fq.rhi a b) lr hr s2 n g m r l1 l2 e5 e6
    have hW2 := widX_ (Fq.wD k r) (Fq.wD j m) b1 b2 s3 k j r m l2 l1 e3 e4
    have hG1 := magX_ (Fq.rlo a b) (Fq.rhi a b) lr hr s2 n g m r l1 l2 e5 e6
    have hG2 := magX_ (Fq.wD k r) (Fq.wD j m) b1 b2 s3 k j r m l2 l1 e3 e4
    have hK1 := migX_ (Fq.rlo a b) (Fq.rhi a b) lr hr s2 n g m r l1 l2 e5 e6
    have hK2 := migX_ (Fq.wD k r) (Fq.wD j m) b1 b2 s3 k j r m l2 l1 e3 e4
    have a1 : apW k r s' x = apW s x g r := by rw [apW_neg g s k s' r x pk px, apW_sym]
    have a2 : apW s' x j m = apW n m s x := by rw [apW_neg s n s' j x m px pj, apW_sym]
    have a3 : apW k r j m = apW n m g r := by rw [apW_neg g n k j r m pk pj, apW_sym]
    have a4 : (if m < r then r else m) = (if r < m then m else r) := by split <;> split <;> omega
    have a5 : miW k r j m = miW n m g r := by
      unfold miW
      rw [pk, pj]
      by_cases c1 : 0 < Fq.plz n m
      · rw [if_neg (by omega), if_pos (by omega), if_pos c1]
      · by_cases c2 : Fq.plz g r < 0
        · rw [if_pos (by omega), if_neg c1, if_pos c2]
        · rw [if_neg (by omega), if_neg (by omega), if_neg c1, if_neg c2]
    have a6 : (if apW s' x j m < apW k r s' x then apW k r s' x else apW s' x j m) = (if apW s x g r < apW n m s x then apW n m s x else apW s x g r) := by
      rw [a1, a2]; split <;> split <;> omega
    rw [a6] at hM2
    rw [a3] at hW2
    rw [a4] at hG2
    rw [a5] at hK2
    rw [e2, ek] at hNg hI2
    rw [e1, ej] at hNg hI2
    rw [e1, e2] at hRd hM1 hW1 hG1 hK1 hI1
    have f1 := Fq.feq s (!s') x x (by omega) (by omega)
    rw [decide_eq_true ⟨lx, lx, by unfold Fq.plz at px ⊢; cases s <;> cases s' <;> simp at px ⊢ <;> omega⟩] at f1
    exact mirS_ _ _ _ _ _ _ _ _ _ _ _ _ _ _ mid13_ q0 hRd hNg hI1 hI2 _ _ _ _ w (fun W y => hM1 W (Tab.grown hT y) (Fq.Tab.grown hQ y)) (fun W y => hM2 W (Tab.grown hT y) (Fq.Tab.grown hQ y)) t8 (negW8 s' x (by omega)) f1 (fself8 _ (by have := apW_le n s m x; have := apW_le s g x r; split <;> omega)) (fself8 _ (apW_le _ _ _ _)) (fself8 _ (by split <;> omega)) (fself8 _ (by unfold miW; split; omega; split <;> omega)) (fun W y => hW1 W (Tab.grown hT y) (Fq.Tab.grown hQ y)) (fun W y => hW2 W (Tab.grown hT y) (Fq.Tab.grown hQ y)) (fun W _ => hG1 W) (fun W _ => hG2 W) (fun W _ => hK1 W) (fun W _ => hK2 W)
  · have s1 : Fq.snd a b = false := by simpa using s1
    have q := rempty8 a b s1
    have o1 : opP (Fq.rhi a b) = 9218868437227405312 := by rw [q.2]; decide +kernel
    have o2 : opP (Fq.rlo a b) = 18442240474082181120 := by rw [q.1]; decide +kernel
    rw [o1, o2] at hNg hI2
    rw [q.1, q.2] at hRd hNg hI1
    have sE : Fq.snd 9218868437227405312 18442240474082181120 = false := by decide +kernel
    have qE := rempty8 9218868437227405312 18442240474082181120 sE
    have rd := Fq.read_ 9218868437227405312 18442240474082181120 (by decide) (by decide)
    have vE := void8_ 9218868437227405312 18442240474082181120 (by decide) (by decide) true (by simpa using sE)
    rw [qE.1, qE.2] at rd vE
    have hm : ∀ w : World, Calls Tryz.prog 4 #[.agg #[.float .f64 9218868437227405312, .float .f64 18442240474082181120]] w fun e w' => e = .returned (.float .f64 9221120237041090561) ∧ Kp w w' := fun w => midN_ _ _ _ _ rd vE w
    have hM : ∀ w : World, Calls Tryz.prog 7 #[.agg #[.float .f64 9218868437227405312, .float .f64 18442240474082181120]] w fun e w' => e = .returned (.tuple #[.float .f64 9221120237041090561, .float .f64 9221120237041090561]) ∧ Kp w w' := fun w => mradN_ _ _ _ _ _ rd hm vE w
    exact mirN_ _ _ _ _ _ _ 9218868437227405312 18442240474082181120 9218868437227405312 18442240474082181120 9221120237041090561 9221120237041090561 9221120237041090561 9221120237041090561 mid13_ q0 hRd hNg hI1 hI2 w (fun W _ => hM W) (fun W _ => hM W) rfl rfl fnan8 fnan8 fnan8 fnan8
end Go.Proofs.YtgebabhfcgmjlaaGreatDoor
