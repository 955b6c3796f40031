import Derived.Test.YtlplidleeckefaaProg
import Derived.Test.YtlplidleeckefaaKXA0
import Derived.Test.YtlplidleeckefaaKXM
import Derived.Test.YtlplidleeckefaaKXY
import Derived.Test.YtlplidleeckefaaKXQF
import Derived.Test.YtlplidleeckefaaKQA
import Derived.Test.YtlplidleeckefaaKXQU
import Derived.Test.YtlplidleeckefaaKXEA
import Derived.Test.YtlplidleeckefaaKXEE
import Derived.Test.YtlplidleeckefaaKMR7Q
import Derived.Test.YtlplidleeckefaaKXMR
import Derived.Test.YtlplidleeckefaaKXM3
import Derived.Test.YtlplidleeckefaaKXO
import Derived.Test.YtlplidleeckefaaKXO3
import Derived.Test.YtlplidleeckefaaKXT
import Derived.Test.YtlplidleeckefaaKHB
import Derived.Test.YtlplidleeckefaaKLX
import Derived.Test.YtlplidleeckefaaKRX
import Derived.Test.YtlplidleeckefaaKXRL
import Derived.Test.YtlplidleeckefaaKXCO
import Derived.Test.YtlplidleeckefaaKLN
import Derived.Test.YtlplidleeckefaaKXRN
import Derived.Test.YtlplidleeckefaaKW4
import Derived.Test.YtlplidleeckefaaKBY
import Derived.Test.YtlplidleeckefaaKBW
import Derived.Test.YtlplidleeckefaaKXTZ
import Derived.Test.YtlplidleeckefaaKXG1
import Derived.Test.YtlplidleeckefaaKNSm
import Derived.Test.YtlplidleeckefaaKXH2Q
import Derived.Test.YtlplidleeckefaaKXG4
import Derived.Test.YtlplidleeckefaaKXET
import Derived.Test.YtlplidleeckefaaKXME
import Derived.Test.YtlplidleeckefaaKXEC
import Derived.WalkKit
import Derived.ProofKit
import Derived.RowKit3
import Derived.WalkSpells
import Derived.StillTactics
import Derived.Deep.QuietTactic
import Derived.BigQuiet
import Derived.Below
import Derived.Deep.OwnRows
import Derived.OwnWalk
import Derived.Laws.BitsAllLaws
import Derived.Laws.Slices
import Derived.Laws.Bits64b
import Derived.Laws.FloatArith
import Derived.Deep.RegionHeld3
namespace Go.Proofs.Ytlplidleeckefaa
open Go.RowKit
set_option maxRecDepth 20000 in
set_option maxHeartbeats 400000 in
theorem size8_ (n : Bool) (m : Nat) (hm : m < 9223372036854775808) (w : World) : Calls Try.prog 26 #[.int .u64 ((Fq.wD n m : Nat) : Int)] w fun e w' => e = .returned (.int .u64 (m : Int)) ∧ w' = w := by
  obtain ⟨X, hX⟩ : ∃ X, X = Fq.wD n m := ⟨_, rfl⟩
  have f1 := (Fq.noTop6 n m X hm hX).1
  rw [← hX]
  clear hX hm
  go_enter Try.func26, Try.ntmps26
  go_wp2
  exact bodyPost_ret (v := .int .u64 (m : Int)) (by simp [results, Try.results26, go_sem]) rfl ⟨rfl, rfl⟩
set_option maxRecDepth 20000 in
set_option maxHeartbeats 1000000 in
theorem rmagN_ (X Y LO HI : Int) (hr : ∀ w : World, Calls Try.prog 19 #[.agg #[.int .u64 X, .int .u64 Y]] w fun e w' => e = .returned (.agg #[.int .u64 LO, .int .u64 HI]) ∧ Kp w w') (t1 : (LO == 9218868437227405312) = true) (t2 : (HI == 18442240474082181120) = true) (w : World) : Calls Try.prog 12 #[.agg #[.int .u64 X, .int .u64 Y]] w fun e w' => e = .returned (.int .u64 9221120237041090561) ∧ Kp w w' := by
  go_enter Try.func12, Try.ntmps12
  go_wp2_with (first | (go_at_call 19; refine (hr _).mono ?_; rintro e w1 ⟨rfl, g1⟩; have kw : Kp w w1 := Kp.trans ((Kp.refl w).alloc _) g1))
  refine Fq.wp_region_grow (by kernel_rfl) (by kernel_rfl) (fun ι _ G hG hall => ?_)
  have c0 : ∀ n, (G n).cell? ⟨w1.heap.size, 0, none⟩ = some (.int .u64 LO) := fun n => Fq.gkeep (hG n) (by simp [go_sem])
  have c1 : ∀ n, (G n).cell? ⟨w1.heap.size, 1, none⟩ = some (.int .u64 HI) := fun n => Fq.gkeep (hG n) (by simp [go_sem])
  have kG : ∀ n, Kp w1 (G n) := fun n => Kp.trans ((Kp.refl w1).alloc _) (hG n)
  repeat (go_big_quiet_step (first | (go_at_call 24; exact (Fq.rempty_ _).mono (fun e w' h => ⟨h.1, hall _ (by rw [h.2]; exact (hG _).alloc _ _)⟩))))
  refine wpQuiet_nil ?_
  rintro _ ⟨nq, rfl⟩
  have y0 := c0 nq
  have y1 := c1 nq
  have kW := kG nq
  clear c0 c1 kG hall
  generalize G nq = W at y0 y1 kW ⊢
  clear hG
  go_wp2
  exact bodyPost_ret (v := .int .u64 9221120237041090561) (by simp [results, Try.results12, go_sem]) rfl ⟨rfl, Kp.trans kw kW⟩
set_option maxRecDepth 20000 in
set_option maxHeartbeats 1000000 in
theorem rmigN_ (X Y LO HI : Int) (hr : ∀ w : World, Calls Try.prog 19 #[.agg #[.int .u64 X, .int .u64 Y]] w fun e w' => e = .returned (.agg #[.int .u64 LO, .int .u64 HI]) ∧ Kp w w') (t1 : (LO == 9218868437227405312) = true) (t2 : (HI == 18442240474082181120) = true) (w : World) : Calls Try.prog 14 #[.agg #[.int .u64 X, .int .u64 Y]] w fun e w' => e = .returned (.int .u64 9221120237041090561) ∧ Kp w w' := by
  go_enter Try.func14, Try.ntmps14
  go_wp2_with (first | (go_at_call 19; refine (hr _).mono ?_; rintro e w1 ⟨rfl, g1⟩; have kw : Kp w w1 := Kp.trans ((Kp.refl w).alloc _) g1))
  refine Fq.wp_region_grow (by kernel_rfl) (by kernel_rfl) (fun ι _ G hG hall => ?_)
  have c0 : ∀ n, (G n).cell? ⟨w1.heap.size, 0, none⟩ = some (.int .u64 LO) := fun n => Fq.gkeep (hG n) (by simp [go_sem])
  have c1 : ∀ n, (G n).cell? ⟨w1.heap.size, 1, none⟩ = some (.int .u64 HI) := fun n => Fq.gkeep (hG n) (by simp [go_sem])
  have kG : ∀ n, Kp w1 (G n) := fun n => Kp.trans ((Kp.refl w1).alloc _) (hG n)
  repeat (go_big_quiet_step (first | (go_at_call 24; exact (Fq.rempty_ _).mono (fun e w' h => ⟨h.1, hall _ (by rw [h.2]; exact (hG _).alloc _ _)⟩))))
  refine wpQuiet_nil ?_
  rintro _ ⟨nq, rfl⟩
  have y0 := c0 nq
  have y1 := c1 nq
  have kW := kG nq
  clear c0 c1 kG hall
  generalize G nq = W at y0 y1 kW ⊢
  clear hG
  go_wp2
  exact bodyPost_ret (v := .int .u64 9221120237041090561) (by simp [results, Try.results14, go_sem]) rfl ⟨rfl, Kp.trans kw kW⟩
set_option maxRecDepth 20000 in
set_option maxHeartbeats 1000000 in
theorem rmagt_ (X Y LO HI A9 B9 : Int) (hr : ∀ w : World, Calls Try.prog 19 #[.agg #[.int .u64 X, .int .u64 Y]] w fun e w' => e = .returned (.agg #[.int .u64 LO, .int .u64 HI]) ∧ Kp w w') (t1 : (LO == 9218868437227405312) = false) (hs1 : ∀ w : World, Calls Try.prog 26 #[.int .u64 LO] w fun e w' => e = .returned (.int .u64 A9) ∧ w' = w) (hs2 : ∀ w : World, Calls Try.prog 26 #[.int .u64 HI] w fun e w' => e = .returned (.int .u64 B9) ∧ w' = w) (ha : ∀ w : World, Calls Try.prog 25 #[.int .u64 A9, .int .u64 B9] w fun e w' => e = .returned (.bool true) ∧ w' = w) (w : World) : Calls Try.prog 12 #[.agg #[.int .u64 X, .int .u64 Y]] w fun e w' => e = .returned (.int .u64 A9) ∧ Kp w w' := by
  go_enter Try.func12, Try.ntmps12
  go_wp2_with (first | (go_at_call 19; refine (hr _).mono ?_; rintro e w1 ⟨rfl, g1⟩; have kw : Kp w w1 := Kp.trans ((Kp.refl w).alloc _) g1))
  refine Fq.wp_region_grow (by kernel_rfl) (by kernel_rfl) (fun ι _ G hG hall => ?_)
  have c0 : ∀ n, (G n).cell? ⟨w1.heap.size, 0, none⟩ = some (.int .u64 LO) := fun n => Fq.gkeep (hG n) (by simp [go_sem])
  have c1 : ∀ n, (G n).cell? ⟨w1.heap.size, 1, none⟩ = some (.int .u64 HI) := fun n => Fq.gkeep (hG n) (by simp [go_sem])
  have kG : ∀ n, Kp w1 (G n) := fun n => Kp.trans ((Kp.refl w1).alloc _) (hG n)
  repeat (go_big_quiet_step (first | (go_at_call 24; exact (Fq.rempty_ _).mono (fun e w' h => ⟨h.1, hall _ (by rw [h.2]; exact (hG _).alloc _ _)⟩))))
  refine wpQuiet_nil ?_
  rintro _ ⟨nq, rfl⟩
  have y0 := c0 nq
  have y1 := c1 nq
  have kW := kG nq
  clear c0 c1 kG hall
  generalize G nq = W at y0 y1 kW ⊢
  clear hG
  go_wp2
  refine Fq.wp_region_grow (by kernel_rfl) (by kernel_rfl) (fun ι _ G hG hall => ?_)
  have c0 : ∀ n, (G n).cell? ⟨w1.heap.size, 0, none⟩ = some (.int .u64 LO) := fun n => Fq.gkeep (hG n) y0
  have c1 : ∀ n, (G n).cell? ⟨w1.heap.size, 1, none⟩ = some (.int .u64 HI) := fun n => Fq.gkeep (hG n) y1
  have kG : ∀ n, Kp w1 (G n) := fun n => Kp.trans kW (hG n)
  repeat (go_big_quiet_step (first | (go_at_call_of 26 (Value.int .u64 LO); exact (hs1 _).mono (fun e w' h => ⟨h.1, hall _ (by rw [h.2]; exact hG _)⟩)) | (go_at_call_of 26 (Value.int .u64 HI); exact (hs2 _).mono (fun e w' h => ⟨h.1, hall _ (by rw [h.2]; exact hG _)⟩)) | (go_at_call_of 25 (Value.int .u64 A9); exact (ha _).mono (fun e w' h => ⟨h.1, hall _ (by rw [h.2]; exact hG _)⟩))))
  refine wpQuiet_nil ?_
  rintro _ ⟨nq, rfl⟩
  clear y0 y1 kW
  have y0 := c0 nq
  have y1 := c1 nq
  have kW := kG nq
  clear c0 c1 kG hall
  generalize G nq = W2 at y0 y1 kW ⊢
  clear hG
  go_wp2_with (first | (go_at_call 26; refine (hs1 _).mono ?_; rintro e w' ⟨rfl, hw'⟩; obtain rfl := hw'.symm; clear hw'))
  exact bodyPost_ret (v := .int .u64 A9) (by simp [results, Try.results12, go_sem]) rfl ⟨rfl, Kp.trans kw kW⟩
set_option maxRecDepth 20000 in
set_option maxHeartbeats 1000000 in
theorem rmagf_ (X Y LO HI A9 B9 : Int) (hr : ∀ w : World, Calls Try.prog 19 #[.agg #[.int .u64 X, .int .u64 Y]] w fun e w' => e = .returned (.agg #[.int .u64 LO, .int .u64 HI]) ∧ Kp w w') (t1 : (LO == 9218868437227405312) = false) (hs1 : ∀ w : World, Calls Try.prog 26 #[.int .u64 LO] w fun e w' => e = .returned (.int .u64 A9) ∧ w' = w) (hs2 : ∀ w : World, Calls Try.prog 26 #[.int .u64 HI] w fun e w' => e = .returned (.int .u64 B9) ∧ w' = w) (ha : ∀ w : World, Calls Try.prog 25 #[.int .u64 A9, .int .u64 B9] w fun e w' => e = .returned (.bool false) ∧ w' = w) (w : World) : Calls Try.prog 12 #[.agg #[.int .u64 X, .int .u64 Y]] w fun e w' => e = .returned (.int .u64 B9) ∧ Kp w w' := by
  go_enter Try.func12, Try.ntmps12
  go_wp2_with (first | (go_at_call 19; refine (hr _).mono ?_; rintro e w1 ⟨rfl, g1⟩; have kw : Kp w w1 := Kp.trans ((Kp.refl w).alloc _) g1))
  refine Fq.wp_region_grow (by kernel_rfl) (by kernel_rfl) (fun ι _ G hG hall => ?_)
  have c0 : ∀ n, (G n).cell? ⟨w1.heap.size, 0, none⟩ = some (.int .u64 LO) := fun n => Fq.gkeep (hG n) (by simp [go_sem])
  have c1 : ∀ n, (G n).cell? ⟨w1.heap.size, 1, none⟩ = some (.int .u64 HI) := fun n => Fq.gkeep (hG n) (by simp [go_sem])
  have kG : ∀ n, Kp w1 (G n) := fun n => Kp.trans ((Kp.refl w1).alloc _) (hG n)
  repeat (go_big_quiet_step (first | (go_at_call 24; exact (Fq.rempty_ _).mono (fun e w' h => ⟨h.1, hall _ (by rw [h.2]; exact (hG _).alloc _ _)⟩))))
  refine wpQuiet_nil ?_
  rintro _ ⟨nq, rfl⟩
  have y0 := c0 nq
  have y1 := c1 nq
  have kW := kG nq
  clear c0 c1 kG hall
  generalize G nq = W at y0 y1 kW ⊢
  clear hG
  go_wp2
  refine Fq.wp_region_grow (by kernel_rfl) (by kernel_rfl) (fun ι _ G hG hall => ?_)
  have c0 : ∀ n, (G n).cell? ⟨w1.heap.size, 0, none⟩ = some (.int .u64 LO) := fun n => Fq.gkeep (hG n) y0
  have c1 : ∀ n, (G n).cell? ⟨w1.heap.size, 1, none⟩ = some (.int .u64 HI) := fun n => Fq.gkeep (hG n) y1
  have kG : ∀ n, Kp w1 (G n) := fun n => Kp.trans kW (hG n)
  repeat (go_big_quiet_step (first | (go_at_call_of 26 (Value.int .u64 LO); exact (hs1 _).mono (fun e w' h => ⟨h.1, hall _ (by rw [h.2]; exact hG _)⟩)) | (go_at_call_of 26 (Value.int .u64 HI); exact (hs2 _).mono (fun e w' h => ⟨h.1, hall _ (by rw [h.2]; exact hG _)⟩)) | (go_at_call_of 25 (Value.int .u64 A9); exact (ha _).mono (fun e w' h => ⟨h.1, hall _ (by rw [h.2]; exact hG _)⟩))))
  refine wpQuiet_nil ?_
  rintro _ ⟨nq, rfl⟩
  clear y0 y1 kW
  have y0 := c0 nq
  have y1 := c1 nq
  have kW := kG nq
  clear c0 c1 kG hall
  generalize G nq = W2 at y0 y1 kW ⊢
  clear hG
  go_wp2_with (first | (go_at_call 26; refine (hs2 _).mono ?_; rintro e w' ⟨rfl, hw'⟩; obtain rfl := hw'.symm; clear hw'))
  exact bodyPost_ret (v := .int .u64 B9) (by simp [results, Try.results12, go_sem]) rfl ⟨rfl, Kp.trans kw kW⟩
set_option maxRecDepth 20000 in
set_option maxHeartbeats 1000000 in
theorem rmig0_ (X Y LO HI : Int) (hr : ∀ w : World, Calls Try.prog 19 #[.agg #[.int .u64 X, .int .u64 Y]] w fun e w' => e = .returned (.agg #[.int .u64 LO, .int .u64 HI]) ∧ Kp w w') (t1 : (LO == 9218868437227405312) = false) (hH : ∀ (W W' : World) (s : Bool) (p : Option Addr) (l c : Nat) (q : Option Addr) (k d : Nat), RP W.heap.size W' s p l c q k d false 0 → Calls Try.prog 27 #[.agg #[.int .u64 LO, .int .u64 HI], .agg #[.bool s, .slice p l c, .slice q k d]] W' fun e w' => e = .returned (.bool true) ∧ Kp W' w') (w : World) : Calls Try.prog 14 #[.agg #[.int .u64 X, .int .u64 Y]] w fun e w' => e = .returned (.int .u64 0) ∧ Kp w w' := by
  go_enter Try.func14, Try.ntmps14
  go_wp2_with (first | (go_at_call 19; refine (hr _).mono ?_; rintro e w1 ⟨rfl, g1⟩; have kw : Kp w w1 := Kp.trans ((Kp.refl w).alloc _) g1))
  refine Fq.wp_region_grow (by kernel_rfl) (by kernel_rfl) (fun ι _ G hG hall => ?_)
  have c0 : ∀ n, (G n).cell? ⟨w1.heap.size, 0, none⟩ = some (.int .u64 LO) := fun n => Fq.gkeep (hG n) (by simp [go_sem])
  have c1 : ∀ n, (G n).cell? ⟨w1.heap.size, 1, none⟩ = some (.int .u64 HI) := fun n => Fq.gkeep (hG n) (by simp [go_sem])
  have kG : ∀ n, Kp w1 (G n) := fun n => Kp.trans ((Kp.refl w1).alloc _) (hG n)
  repeat (go_big_quiet_step (first | (go_at_call 24; exact (Fq.rempty_ _).mono (fun e w' h => ⟨h.1, hall _ (by rw [h.2]; exact (hG _).alloc _ _)⟩))))
  refine wpQuiet_nil ?_
  rintro _ ⟨nq, rfl⟩
  have y0 := c0 nq
  have y1 := c1 nq
  have kW := kG nq
  clear c0 c1 kG hall
  generalize G nq = W at y0 y1 kW ⊢
  clear hG
  go_wp2
  have y2 : W.drew.cell? ⟨w1.heap.size, 0, none⟩ = some (.int .u64 LO) := y0
  have y3 : W.drew.cell? ⟨w1.heap.size, 1, none⟩ = some (.int .u64 HI) := y1
  go_region_held3 (fun w' => w'.cell? ⟨w1.heap.size, 0, none⟩ = some (.int .u64 LO) ∧ w'.cell? ⟨w1.heap.size, 1, none⟩ = some (.int .u64 HI)) (first | (with_reducible exact ⟨y0, y1⟩) | (with_reducible exact ⟨y2, y3⟩) | (with_reducible exact ⟨a0, a1⟩) | (with_reducible exact ⟨b0, b1⟩)) (first | (go_at_call 28; refine (int0_ _).mono ?_; rintro e wi ⟨s, p, l, c, q, k, d, rfl, hp, gi⟩; have ki : Kp W wi := Kp.trans (Kp.drew (Kp.refl _)) gi; have a0 := kkeep ki y0; have a1 := kkeep ki y1) | (go_at_call 27; refine (hH _ _ s p l c q k d hp).mono ?_; rintro e wh ⟨rfl, gh⟩; have kh : Kp W wh := Kp.trans ki gh; have b0 := kkeep kh y0; have b1 := kkeep kh y1))
  go_wp2
  exact bodyPost_ret (v := .int .u64 0) (by simp [results, Try.results14, go_sem]) rfl ⟨rfl, Kp.trans (Kp.trans kw kW) kh⟩
set_option maxRecDepth 20000 in
set_option maxHeartbeats 1000000 in
theorem rmigt_ (X Y LO HI A9 B9 : Int) (hr : ∀ w : World, Calls Try.prog 19 #[.agg #[.int .u64 X, .int .u64 Y]] w fun e w' => e = .returned (.agg #[.int .u64 LO, .int .u64 HI]) ∧ Kp w w') (t1 : (LO == 9218868437227405312) = false) (hH : ∀ (W W' : World) (s : Bool) (p : Option Addr) (l c : Nat) (q : Option Addr) (k d : Nat), RP W.heap.size W' s p l c q k d false 0 → Calls Try.prog 27 #[.agg #[.int .u64 LO, .int .u64 HI], .agg #[.bool s, .slice p l c, .slice q k d]] W' fun e w' => e = .returned (.bool false) ∧ Kp W' w') (hs1 : ∀ w : World, Calls Try.prog 26 #[.int .u64 LO] w fun e w' => e = .returned (.int .u64 A9) ∧ w' = w) (hs2 : ∀ w : World, Calls Try.prog 26 #[.int .u64 HI] w fun e w' => e = .returned (.int .u64 B9) ∧ w' = w) (ha : ∀ w : World, Calls Try.prog 25 #[.int .u64 A9, .int .u64 B9] w fun e w' => e = .returned (.bool true) ∧ w' = w) (w : World) : Calls Try.prog 14 #[.agg #[.int .u64 X, .int .u64 Y]] w fun e w' => e = .returned (.int .u64 B9) ∧ Kp w w' := by
  go_enter Try.func14, Try.ntmps14
  go_wp2_with (first | (go_at_call 19; refine (hr _).mono ?_; rintro e w1 ⟨rfl, g1⟩; have kw : Kp w w1 := Kp.trans ((Kp.refl w).alloc _) g1))
  refine Fq.wp_region_grow (by kernel_rfl) (by kernel_rfl) (fun ι _ G hG hall => ?_)
  have c0 : ∀ n, (G n).cell? ⟨w1.heap.size, 0, none⟩ = some (.int .u64 LO) := fun n => Fq.gkeep (hG n) (by simp [go_sem])
  have c1 : ∀ n, (G n).cell? ⟨w1.heap.size, 1, none⟩ = some (.int .u64 HI) := fun n => Fq.gkeep (hG n) (by simp [go_sem])
  have kG : ∀ n, Kp w1 (G n) := fun n => Kp.trans ((Kp.refl w1).alloc _) (hG n)
  repeat (go_big_quiet_step (first | (go_at_call 24; exact (Fq.rempty_ _).mono (fun e w' h => ⟨h.1, hall _ (by rw [h.2]; exact (hG _).alloc _ _)⟩))))
  refine wpQuiet_nil ?_
  rintro _ ⟨nq, rfl⟩
  have y0 := c0 nq
  have y1 := c1 nq
  have kW := kG nq
  clear c0 c1 kG hall
  generalize G nq = W at y0 y1 kW ⊢
  clear hG
  go_wp2
  have y2 : W.drew.cell? ⟨w1.heap.size, 0, none⟩ = some (.int .u64 LO) := y0
  have y3 : W.drew.cell? ⟨w1.heap.size, 1, none⟩ = some (.int .u64 HI) := y1
  go_region_held3 (fun w' => w'.cell? ⟨w1.heap.size, 0, none⟩ = some (.int .u64 LO) ∧ w'.cell? ⟨w1.heap.size, 1, none⟩ = some (.int .u64 HI)) (first | (with_reducible exact ⟨y0, y1⟩) | (with_reducible exact ⟨y2, y3⟩) | (with_reducible exact ⟨a0, a1⟩) | (with_reducible exact ⟨b0, b1⟩)) (first | (go_at_call 28; refine (int0_ _).mono ?_; rintro e wi ⟨s, p, l, c, q, k, d, rfl, hp, gi⟩; have ki : Kp W wi := Kp.trans (Kp.drew (Kp.refl _)) gi; have a0 := kkeep ki y0; have a1 := kkeep ki y1) | (go_at_call 27; refine (hH _ _ s p l c q k d hp).mono ?_; rintro e wh ⟨rfl, gh⟩; have kh : Kp W wh := Kp.trans ki gh; have b0 := kkeep kh y0; have b1 := kkeep kh y1))
  go_wp2
  have kq : Kp w1 wh := Kp.trans kW kh
  clear y0 y1 y2 y3 a0 a1 gi gh ki kW hp
  have y0 := b0
  have y1 := b1
  have kW := kq
  clear b0 b1 kq
  refine Fq.wp_region_grow (by kernel_rfl) (by kernel_rfl) (fun ι _ G hG hall => ?_)
  have c0 : ∀ n, (G n).cell? ⟨w1.heap.size, 0, none⟩ = some (.int .u64 LO) := fun n => Fq.gkeep (hG n) y0
  have c1 : ∀ n, (G n).cell? ⟨w1.heap.size, 1, none⟩ = some (.int .u64 HI) := fun n => Fq.gkeep (hG n) y1
  have kG : ∀ n, Kp w1 (G n) := fun n => Kp.trans kW (hG n)
  repeat (go_big_quiet_step (first | (go_at_call_of 26 (Value.int .u64 LO); exact (hs1 _).mono (fun e w' h => ⟨h.1, hall _ (by rw [h.2]; exact hG _)⟩)) | (go_at_call_of 26 (Value.int .u64 HI); exact (hs2 _).mono (fun e w' h => ⟨h.1, hall _ (by rw [h.2]; exact hG _)⟩)) | (go_at_call_of 25 (Value.int .u64 A9); exact (ha _).mono (fun e w' h => ⟨h.1, hall _ (by rw [h.2]; exact hG _)⟩))))
  refine wpQuiet_nil ?_
  rintro _ ⟨nq, rfl⟩
  clear y0 y1 kW
  have y0 := c0 nq
  have y1 := c1 nq
  have kW := kG nq
  clear c0 c1 kG hall
  generalize G nq = W2 at y0 y1 kW ⊢
  clear hG
  go_wp2_with (first | (go_at_call 26; refine (hs2 _).mono ?_; rintro e w' ⟨rfl, hw'⟩; obtain rfl := hw'.symm; clear hw'))
  exact bodyPost_ret (v := .int .u64 B9) (by simp [results, Try.results14, go_sem]) rfl ⟨rfl, Kp.trans kw kW⟩
set_option maxRecDepth 20000 in
set_option maxHeartbeats 1000000 in
theorem rmigf_ (X Y LO HI A9 B9 : Int) (hr : ∀ w : World, Calls Try.prog 19 #[.agg #[.int .u64 X, .int .u64 Y]] w fun e w' => e = .returned (.agg #[.int .u64 LO, .int .u64 HI]) ∧ Kp w w') (t1 : (LO == 9218868437227405312) = false) (hH : ∀ (W W' : World) (s : Bool) (p : Option Addr) (l c : Nat) (q : Option Addr) (k d : Nat), RP W.heap.size W' s p l c q k d false 0 → Calls Try.prog 27 #[.agg #[.int .u64 LO, .int .u64 HI], .agg #[.bool s, .slice p l c, .slice q k d]] W' fun e w' => e = .returned (.bool false) ∧ Kp W' w') (hs1 : ∀ w : World, Calls Try.prog 26 #[.int .u64 LO] w fun e w' => e = .returned (.int .u64 A9) ∧ w' = w) (hs2 : ∀ w : World, Calls Try.prog 26 #[.int .u64 HI] w fun e w' => e = .returned (.int .u64 B9) ∧ w' = w) (ha : ∀ w : World, Calls Try.prog 25 #[.int .u64 A9, .int .u64 B9] w fun e w' => e = .returned (.bool false) ∧ w' = w) (w : World) : Calls Try.prog 14 #[.agg #[.int .u64 X, .int .u64 Y]] w fun e w' => e = .returned (.int .u64 A9) ∧ Kp w w' := by
  go_enter Try.func14, Try.ntmps14
  go_wp2_with (first | (go_at_call 19; refine (hr _).mono ?_; rintro e w1 ⟨rfl, g1⟩; have kw : Kp w w1 := Kp.trans ((Kp.refl w).alloc _) g1))
  refine Fq.wp_region_grow (by kernel_rfl) (by kernel_rfl) (fun ι _ G hG hall => ?_)
  have c0 : ∀ n, (G n).cell? ⟨w1.heap.size, 0, none⟩ = some (.int .u64 LO) := fun n => Fq.gkeep (hG n) (by simp [go_sem])
  have c1 : ∀ n, (G n).cell? ⟨w1.heap.size, 1, none⟩ = some (.int .u64 HI) := fun n => Fq.gkeep (hG n) (by simp [go_sem])
  have kG : ∀ n, Kp w1 (G n) := fun n => Kp.trans ((Kp.refl w1).alloc _) (hG n)
  repeat (go_big_quiet_step (first | (go_at_call 24; exact (Fq.rempty_ _).mono (fun e w' h => ⟨h.1, hall _ (by rw [h.2]; exact (hG _).alloc _ _)⟩))))
  refine wpQuiet_nil ?_
  rintro _ ⟨nq, rfl⟩
  have y0 := c0 nq
  have y1 := c1 nq
  have kW := kG nq
  clear c0 c1 kG hall
  generalize G nq = W at y0 y1 kW ⊢
  clear hG
  go_wp2
  have y2 : W.drew.cell? ⟨w1.heap.size, 0, none⟩ = some (.int .u64 LO) := y0
  have y3 : W.drew.cell? ⟨w1.heap.size, 1, none⟩ = some (.int .u64 HI) := y1
  go_region_held3 (fun w' => w'.cell? ⟨w1.heap.size, 0, none⟩ = some (.int .u64 LO) ∧ w'.cell? ⟨w1.heap.size, 1, none⟩ = some (.int .u64 HI)) (first | (with_reducible exact ⟨y0, y1⟩) | (with_reducible exact ⟨y2, y3⟩) | (with_reducible exact ⟨a0, a1⟩) | (with_reducible exact ⟨b0, b1⟩)) (first | (go_at_call 28; refine (int0_ _).mono ?_; rintro e wi ⟨s, p, l, c, q, k, d, rfl, hp, gi⟩; have ki : Kp W wi := Kp.trans (Kp.drew (Kp.refl _)) gi; have a0 := kkeep ki y0; have a1 := kkeep ki y1) | (go_at_call 27; refine (hH _ _ s p l c q k d hp).mono ?_; rintro e wh ⟨rfl, gh⟩; have kh : Kp W wh := Kp.trans ki gh; have b0 := kkeep kh y0; have b1 := kkeep kh y1))
  go_wp2
  have kq : Kp w1 wh := Kp.trans kW kh
  clear y0 y1 y2 y3 a0 a1 gi gh ki kW hp
  have y0 := b0
  have y1 := b1
  have kW := kq
  clear b0 b1 kq
  refine Fq.wp_region_grow (by kernel_rfl) (by kernel_rfl) (fun ι _ G hG hall => ?_)
  have c0 : ∀ n, (G n).cell? ⟨w1.heap.size, 0, none⟩ = some (.int .u64 LO) := fun n => Fq.gkeep (hG n) y0
  have c1 : ∀ n, (G n).cell? ⟨w1.heap.size, 1, none⟩ = some (.int .u64 HI) := fun n => Fq.gkeep (hG n) y1
  have kG : ∀ n, Kp w1 (G n) := fun n => Kp.trans kW (hG n)
  repeat (go_big_quiet_step (first | (go_at_call_of 26 (Value.int .u64 LO); exact (hs1 _).mono (fun e w' h => ⟨h.1, hall _ (by rw [h.2]; exact hG _)⟩)) | (go_at_call_of 26 (Value.int .u64 HI); exact (hs2 _).mono (fun e w' h => ⟨h.1, hall _ (by rw [h.2]; exact hG _)⟩)) | (go_at_call_of 25 (Value.int .u64 A9); exact (ha _).mono (fun e w' h => ⟨h.1, hall _ (by rw [h.2]; exact hG _)⟩))))
  refine wpQuiet_nil ?_
  rintro _ ⟨nq, rfl⟩
  clear y0 y1 kW
  have y0 := c0 nq
  have y1 := c1 nq
  have kW := kG nq
  clear c0 c1 kG hall
  generalize G nq = W2 at y0 y1 kW ⊢
  clear hG
  go_wp2_with (first | (go_at_call 26; refine (hs1 _).mono ?_; rintro e w' ⟨rfl, hw'⟩; obtain rfl := hw'.symm; clear hw'))
  exact bodyPost_ret (v := .int .u64 A9) (by simp [results, Try.results14, go_sem]) rfl ⟨rfl, Kp.trans kw kW⟩
set_option maxRecDepth 20000 in
set_option maxHeartbeats 1000000 in
theorem holdsT_ (LO HI i j C1 C2 : Int) (N1 N2 N3 : Bool) (M1 M2 M3 B3 : Nat) (s3 : Bool) (p3 : Option Addr) (l3 c3 : Nat) (q3 : Option Addr) (k3 d3 : Nat) (hof : ∀ w : World, Calls Try.prog 35 #[.agg #[.int .u64 LO, .int .u64 HI]] w fun e w' => ∃ (s : Bool) (p : Option Addr) (l c : Nat) (q : Option Addr) (k d : Nat) (s2 : Bool) (p2 : Option Addr) (l2 c2 : Nat) (q2 : Option Addr) (k2 d2 : Nat), e = .returned (.agg #[.bool false, .int .i64 i, .bool s, .slice p l c, .slice q k d, .int .i64 j, .bool s2, .slice p2 l2 c2, .slice q2 k2 d2]) ∧ RP 0 w' s p l c q k d N1 M1 ∧ RP 0 w' s2 p2 l2 c2 q2 k2 d2 N2 M2 ∧ Kp w w') (hc1 : ∀ (W : World) (s : Bool) (p : Option Addr) (l c : Nat) (q : Option Addr) (k d : Nat), RP 0 W s p l c q k d N1 M1 → RP B3 W s3 p3 l3 c3 q3 k3 d3 N3 M3 → Calls Try.prog 36 #[.agg #[.int .i64 i, .bool s, .slice p l c, .slice q k d], .agg #[.int .i64 0, .bool s3, .slice p3 l3 c3, .slice q3 k3 d3]] W fun e w' => e = .returned (.int .i64 C1) ∧ Kp W w') (hc2 : ∀ (W : World) (s2 : Bool) (p2 : Option Addr) (l2 c2 : Nat) (q2 : Option Addr) (k2 d2 : Nat), RP 0 W s2 p2 l2 c2 q2 k2 d2 N2 M2 → RP B3 W s3 p3 l3 c3 q3 k3 d3 N3 M3 → Calls Try.prog 36 #[.agg #[.int .i64 0, .bool s3, .slice p3 l3 c3, .slice q3 k3 d3], .agg #[.int .i64 j, .bool s2, .slice p2 l2 c2, .slice q2 k2 d2]] W fun e w' => e = .returned (.int .i64 C2) ∧ Kp W w') (t1 : C1 ≤ 0) (t2 : C2 ≤ 0) (w : World) (hz : RP B3 w s3 p3 l3 c3 q3 k3 d3 N3 M3) : Calls Try.prog 27 #[.agg #[.int .u64 LO, .int .u64 HI], .agg #[.bool s3, .slice p3 l3 c3, .slice q3 k3 d3]] w fun e w' => e = .returned (.bool true) ∧ Kp w w' := by
  go_enter Try.func27, Try.ntmps27
  go_wp2_with (first | (go_at_call 35; refine (hof _).mono ?_; rintro e w1 ⟨s, p, l, c, q, k, d, s2, p2, l2, c2, q2, k2, d2, rfl, r1, r2, g1⟩; have kw : Kp w w1 := Kp.trans (((Kp.refl w).alloc _).alloc _) g1; have v0 := kkeep g1 (b := w.heap.size + 1) (o := 0) (v := .bool s3) (by simp [go_sem]); have v1 := kkeep g1 (b := w.heap.size + 1) (o := 1) (v := .slice p3 l3 c3) (by simp [go_sem]); have v2 := kkeep g1 (b := w.heap.size + 1) (o := 2) (v := .slice q3 k3 d3) (by simp [go_sem]); have va0 := fun o => kkeep ((Kp.refl w1).alloc o) v0; have va1 := fun o => kkeep ((Kp.refl w1).alloc o) v1; have va2 := fun o => kkeep ((Kp.refl w1).alloc o) v2) | (go_at_call_of 36 (Value.slice p l c); refine (hc1 _ s p l c q k d (r1.kp (((Kp.refl w1).alloc _).alloc _)) ((hz.kp kw).kp (((Kp.refl w1).alloc _).alloc _))).mono ?_; rintro e w4 ⟨rfl, g4⟩; have k4 : Kp w w4 := Kp.trans (Kp.trans kw (((Kp.refl w1).alloc _).alloc _)) g4; have k14 : Kp w1 w4 := Kp.trans (((Kp.refl w1).alloc _).alloc _) g4; have a0 := kkeep g4 (b := w1.heap.size) (o := 0) (v := .bool false) (by simp [go_sem]); have a1 := kkeep g4 (b := w1.heap.size) (o := 1) (v := .int .i64 i) (by simp [go_sem]); have a2 := kkeep g4 (b := w1.heap.size) (o := 2) (v := .bool s) (by simp [go_sem]); have a3 := kkeep g4 (b := w1.heap.size) (o := 3) (v := .slice p l c) (by simp [go_sem]); have a4 := kkeep g4 (b := w1.heap.size) (o := 4) (v := .slice q k d) (by simp [go_sem]); have a5 := kkeep g4 (b := w1.heap.size) (o := 5) (v := .int .i64 j) (by simp [go_sem]); have a6 := kkeep g4 (b := w1.heap.size) (o := 6) (v := .bool s2) (by simp [go_sem]); have a7 := kkeep g4 (b := w1.heap.size) (o := 7) (v := .slice p2 l2 c2) (by simp [go_sem]); have a8 := kkeep g4 (b := w1.heap.size) (o := 8) (v := .slice q2 k2 d2) (by simp [go_sem]); have b0 := kkeep g4 (b := w1.heap.size + 1) (o := 0) (v := .int .i64 0) (by simp [go_sem]); have b1 := kkeep g4 (b := w1.heap.size + 1) (o := 1) (v := .bool s3) (by simp [go_sem]); have b2 := kkeep g4 (b := w1.heap.size + 1) (o := 2) (v := .slice p3 l3 c3) (by simp [go_sem]); have b3 := kkeep g4 (b := w1.heap.size + 1) (o := 3) (v := .slice q3 k3 d3) (by simp [go_sem])) | (go_at_call_of 36 (Value.slice p2 l2 c2); refine (hc2 _ s2 p2 l2 c2 q2 k2 d2 (r2.kp k14) (hz.kp k4)).mono ?_; rintro e w5 ⟨rfl, g5⟩; have k5 : Kp w w5 := Kp.trans k4 g5))
  exact bodyPost_ret (v := .bool true) (by simp [results, Try.results27, go_sem]) rfl ⟨rfl, k5⟩
set_option maxRecDepth 20000 in
set_option maxHeartbeats 1000000 in
theorem holdsF_ (LO HI i j C1 C2 : Int) (N1 N2 N3 : Bool) (M1 M2 M3 B3 : Nat) (s3 : Bool) (p3 : Option Addr) (l3 c3 : Nat) (q3 : Option Addr) (k3 d3 : Nat) (hof : ∀ w : World, Calls Try.prog 35 #[.agg #[.int .u64 LO, .int .u64 HI]] w fun e w' => ∃ (s : Bool) (p : Option Addr) (l c : Nat) (q : Option Addr) (k d : Nat) (s2 : Bool) (p2 : Option Addr) (l2 c2 : Nat) (q2 : Option Addr) (k2 d2 : Nat), e = .returned (.agg #[.bool false, .int .i64 i, .bool s, .slice p l c, .slice q k d, .int .i64 j, .bool s2, .slice p2 l2 c2, .slice q2 k2 d2]) ∧ RP 0 w' s p l c q k d N1 M1 ∧ RP 0 w' s2 p2 l2 c2 q2 k2 d2 N2 M2 ∧ Kp w w') (hc1 : ∀ (W : World) (s : Bool) (p : Option Addr) (l c : Nat) (q : Option Addr) (k d : Nat), RP 0 W s p l c q k d N1 M1 → RP B3 W s3 p3 l3 c3 q3 k3 d3 N3 M3 → Calls Try.prog 36 #[.agg #[.int .i64 i, .bool s, .slice p l c, .slice q k d], .agg #[.int .i64 0, .bool s3, .slice p3 l3 c3, .slice q3 k3 d3]] W fun e w' => e = .returned (.int .i64 C1) ∧ Kp W w') (hc2 : ∀ (W : World) (s2 : Bool) (p2 : Option Addr) (l2 c2 : Nat) (q2 : Option Addr) (k2 d2 : Nat), RP 0 W s2 p2 l2 c2 q2 k2 d2 N2 M2 → RP B3 W s3 p3 l3 c3 q3 k3 d3 N3 M3 → Calls Try.prog 36 #[.agg #[.int .i64 0, .bool s3, .slice p3 l3 c3, .slice q3 k3 d3], .agg #[.int .i64 j, .bool s2, .slice p2 l2 c2, .slice q2 k2 d2]] W fun e w' => e = .returned (.int .i64 C2) ∧ Kp W w') (t1 : C1 ≤ 0) (t2 : ¬ (C2 ≤ 0)) (w : World) (hz : RP B3 w s3 p3 l3 c3 q3 k3 d3 N3 M3) : Calls Try.prog 27 #[.agg #[.int .u64 LO, .int .u64 HI], .agg #[.bool s3, .slice p3 l3 c3, .slice q3 k3 d3]] w fun e w' => e = .returned (.bool false) ∧ Kp w w' := by
  go_enter Try.func27, Try.ntmps27
  go_wp2_with (first | (go_at_call 35; refine (hof _).mono ?_; rintro e w1 ⟨s, p, l, c, q, k, d, s2, p2, l2, c2, q2, k2, d2, rfl, r1, r2, g1⟩; have kw : Kp w w1 := Kp.trans (((Kp.refl w).alloc _).alloc _) g1; have v0 := kkeep g1 (b := w.heap.size + 1) (o := 0) (v := .bool s3) (by simp [go_sem]); have v1 := kkeep g1 (b := w.heap.size + 1) (o := 1) (v := .slice p3 l3 c3) (by simp [go_sem]); have v2 := kkeep g1 (b := w.heap.size + 1) (o := 2) (v := .slice q3 k3 d3) (by simp [go_sem]); have va0 := fun o => kkeep ((Kp.refl w1).alloc o) v0; have va1 := fun o => kkeep ((Kp.refl w1).alloc o) v1; have va2 := fun o => kkeep ((Kp.refl w1).alloc o) v2) | (go_at_call_of 36 (Value.slice p l c); refine (hc1 _ s p l c q k d (r1.kp (((Kp.refl w1).alloc _).alloc _)) ((hz.kp kw).kp (((Kp.refl w1).alloc _).alloc _))).mono ?_; rintro e w4 ⟨rfl, g4⟩; have k4 : Kp w w4 := Kp.trans (Kp.trans kw (((Kp.refl w1).alloc _).alloc _)) g4; have k14 : Kp w1 w4 := Kp.trans (((Kp.refl w1).alloc _).alloc _) g4; have a0 := kkeep g4 (b := w1.heap.size) (o := 0) (v := .bool false) (by simp [go_sem]); have a1 := kkeep g4 (b := w1.heap.size) (o := 1) (v := .int .i64 i) (by simp [go_sem]); have a2 := kkeep g4 (b := w1.heap.size) (o := 2) (v := .bool s) (by simp [go_sem]); have a3 := kkeep g4 (b := w1.heap.size) (o := 3) (v := .slice p l c) (by simp [go_sem]); have a4 := kkeep g4 (b := w1.heap.size) (o := 4) (v := .slice q k d) (by simp [go_sem]); have a5 := kkeep g4 (b := w1.heap.size) (o := 5) (v := .int .i64 j) (by simp [go_sem]); have a6 := kkeep g4 (b := w1.heap.size) (o := 6) (v := .bool s2) (by simp [go_sem]); have a7 := kkeep g4 (b := w1.heap.size) (o := 7) (v := .slice p2 l2 c2) (by simp [go_sem]); have a8 := kkeep g4 (b := w1.heap.size) (o := 8) (v := .slice q2 k2 d2) (by simp [go_sem]); have b0 := kkeep g4 (b := w1.heap.size + 1) (o := 0) (v := .int .i64 0) (by simp [go_sem]); have b1 := kkeep g4 (b := w1.heap.size + 1) (o := 1) (v := .bool s3) (by simp [go_sem]); have b2 := kkeep g4 (b := w1.heap.size + 1) (o := 2) (v := .slice p3 l3 c3) (by simp [go_sem]); have b3 := kkeep g4 (b := w1.heap.size + 1) (o := 3) (v := .slice q3 k3 d3) (by simp [go_sem])) | (go_at_call_of 36 (Value.slice p2 l2 c2); refine (hc2 _ s2 p2 l2 c2 q2 k2 d2 (r2.kp k14) (hz.kp k4)).mono ?_; rintro e w5 ⟨rfl, g5⟩; have k5 : Kp w w5 := Kp.trans k4 g5))
  exact bodyPost_ret (v := .bool false) (by simp [results, Try.results27, go_sem] <;> omega) rfl ⟨rfl, k5⟩
set_option maxRecDepth 20000 in
set_option maxHeartbeats 1000000 in
theorem holdsG_ (LO HI i j C1 : Int) (N1 N2 N3 : Bool) (M1 M2 M3 B3 : Nat) (s3 : Bool) (p3 : Option Addr) (l3 c3 : Nat) (q3 : Option Addr) (k3 d3 : Nat) (hof : ∀ w : World, Calls Try.prog 35 #[.agg #[.int .u64 LO, .int .u64 HI]] w fun e w' => ∃ (s : Bool) (p : Option Addr) (l c : Nat) (q : Option Addr) (k d : Nat) (s2 : Bool) (p2 : Option Addr) (l2 c2 : Nat) (q2 : Option Addr) (k2 d2 : Nat), e = .returned (.agg #[.bool false, .int .i64 i, .bool s, .slice p l c, .slice q k d, .int .i64 j, .bool s2, .slice p2 l2 c2, .slice q2 k2 d2]) ∧ RP 0 w' s p l c q k d N1 M1 ∧ RP 0 w' s2 p2 l2 c2 q2 k2 d2 N2 M2 ∧ Kp w w') (hc1 : ∀ (W : World) (s : Bool) (p : Option Addr) (l c : Nat) (q : Option Addr) (k d : Nat), RP 0 W s p l c q k d N1 M1 → RP B3 W s3 p3 l3 c3 q3 k3 d3 N3 M3 → Calls Try.prog 36 #[.agg #[.int .i64 i, .bool s, .slice p l c, .slice q k d], .agg #[.int .i64 0, .bool s3, .slice p3 l3 c3, .slice q3 k3 d3]] W fun e w' => e = .returned (.int .i64 C1) ∧ Kp W w')  (t1 : ¬ (C1 ≤ 0)) (w : World) (hz : RP B3 w s3 p3 l3 c3 q3 k3 d3 N3 M3) : Calls Try.prog 27 #[.agg #[.int .u64 LO, .int .u64 HI], .agg #[.bool s3, .slice p3 l3 c3, .slice q3 k3 d3]] w fun e w' => e = .returned (.bool false) ∧ Kp w w' := by
  go_enter Try.func27, Try.ntmps27
  go_wp2_with (first | (go_at_call 35; refine (hof _).mono ?_; rintro e w1 ⟨s, p, l, c, q, k, d, s2, p2, l2, c2, q2, k2, d2, rfl, r1, r2, g1⟩; have kw : Kp w w1 := Kp.trans (((Kp.refl w).alloc _).alloc _) g1; have v0 := kkeep g1 (b := w.heap.size + 1) (o := 0) (v := .bool s3) (by simp [go_sem]); have v1 := kkeep g1 (b := w.heap.size + 1) (o := 1) (v := .slice p3 l3 c3) (by simp [go_sem]); have v2 := kkeep g1 (b := w.heap.size + 1) (o := 2) (v := .slice q3 k3 d3) (by simp [go_sem]); have va0 := fun o => kkeep ((Kp.refl w1).alloc o) v0; have va1 := fun o => kkeep ((Kp.refl w1).alloc o) v1; have va2 := fun o => kkeep ((Kp.refl w1).alloc o) v2) | (go_at_call_of 36 (Value.slice p l c); refine (hc1 _ s p l c q k d (r1.kp (((Kp.refl w1).alloc _).alloc _)) ((hz.kp kw).kp (((Kp.refl w1).alloc _).alloc _))).mono ?_; rintro e w4 ⟨rfl, g4⟩; have k4 : Kp w w4 := Kp.trans (Kp.trans kw (((Kp.refl w1).alloc _).alloc _)) g4; have k14 : Kp w1 w4 := Kp.trans (((Kp.refl w1).alloc _).alloc _) g4; have a0 := kkeep g4 (b := w1.heap.size) (o := 0) (v := .bool false) (by simp [go_sem]); have a1 := kkeep g4 (b := w1.heap.size) (o := 1) (v := .int .i64 i) (by simp [go_sem]); have a2 := kkeep g4 (b := w1.heap.size) (o := 2) (v := .bool s) (by simp [go_sem]); have a3 := kkeep g4 (b := w1.heap.size) (o := 3) (v := .slice p l c) (by simp [go_sem]); have a4 := kkeep g4 (b := w1.heap.size) (o := 4) (v := .slice q k d) (by simp [go_sem]); have a5 := kkeep g4 (b := w1.heap.size) (o := 5) (v := .int .i64 j) (by simp [go_sem]); have a6 := kkeep g4 (b := w1.heap.size) (o := 6) (v := .bool s2) (by simp [go_sem]); have a7 := kkeep g4 (b := w1.heap.size) (o := 7) (v := .slice p2 l2 c2) (by simp [go_sem]); have a8 := kkeep g4 (b := w1.heap.size) (o := 8) (v := .slice q2 k2 d2) (by simp [go_sem]); have b0 := kkeep g4 (b := w1.heap.size + 1) (o := 0) (v := .int .i64 0) (by simp [go_sem]); have b1 := kkeep g4 (b := w1.heap.size + 1) (o := 1) (v := .bool s3) (by simp [go_sem]); have b2 := kkeep g4 (b := w1.heap.size + 1) (o := 2) (v := .slice p3 l3 c3) (by simp [go_sem]); have b3 := kkeep g4 (b := w1.heap.size + 1) (o := 3) (v := .slice q3 k3 d3) (by simp [go_sem])))
  exact bodyPost_ret (v := .bool false) (by simp [results, Try.results27, go_sem]) rfl ⟨rfl, k4⟩
theorem holds8_ (n n' n3 : Bool) (m m' m3 : Nat) (hm : m ≤ 9218868437227405312) (hm' : m' ≤ 9218868437227405312) (h3 : m3 < 9218868437227405312) (B3 : Nat) (s3 : Bool) (p3 : Option Addr) (l3 c3 : Nat) (q3 : Option Addr) (k3 d3 : Nat) (hof : ∀ w : World, Calls Try.prog 35 #[.agg #[.int .u64 ((Fq.wD n m : Nat) : Int), .int .u64 ((Fq.wD n' m' : Nat) : Int)]] w fun e w' => ∃ v, e = .returned v ∧ SV1 n m n' m' w' v ∧ Kp w w') (w : World) (hz : RP B3 w s3 p3 l3 c3 q3 k3 d3 n3 m3) : Calls Try.prog 27 #[.agg #[.int .u64 ((Fq.wD n m : Nat) : Int), .int .u64 ((Fq.wD n' m' : Nat) : Int)], .agg #[.bool s3, .slice p3 l3 c3, .slice q3 k3 d3]] w fun e w' => e = .returned (.bool (decide (Fq.plz n m ≤ Fq.plz n3 m3 ∧ Fq.plz n3 m3 ≤ Fq.plz n' m'))) ∧ Kp w w' := by
  have hof2 : ∀ w : World, Calls Try.prog 35 #[.agg #[.int .u64 ((Fq.wD n m : Nat) : Int), .int .u64 ((Fq.wD n' m' : Nat) : Int)]] w fun e w' => ∃ (s : Bool) (p : Option Addr) (l c : Nat) (q : Option Addr) (k d : Nat) (s2 : Bool) (p2 : Option Addr) (l2 c2 : Nat) (q2 : Option Addr) (k2 d2 : Nat), e = .returned (.agg #[.bool false, .int .i64 (infS n m), .bool s, .slice p l c, .slice q k d, .int .i64 (infS n' m'), .bool s2, .slice p2 l2 c2, .slice q2 k2 d2]) ∧ RP 0 w' s p l c q k d (fN n m) (fM m) ∧ RP 0 w' s2 p2 l2 c2 q2 k2 d2 (fN n' m') (fM m') ∧ Kp w w' := fun w => (hof w).mono (by
    rintro e w' ⟨v, rfl, ⟨s, p, l, c, q, k, d, s2, p2, l2, c2, q2, k2, d2, rfl, h1, h2⟩, g⟩
    exact ⟨s, p, l, c, q, k, d, s2, p2, l2, c2, q2, k2, d2, rfl, h1, h2, g⟩)
  have ei : infS n3 m3 = 0 := by unfold infS; rw [if_neg (by omega)]
  have ef : fN n3 m3 = n3 ∧ fM m3 = m3 := by unfold fN fM; rw [if_neg (by omega), if_neg (by omega)]; exact ⟨rfl, rfl⟩
  have hc1 : ∀ (W : World) (s : Bool) (p : Option Addr) (l c : Nat) (q : Option Addr) (k d : Nat), RP 0 W s p l c q k d (fN n m) (fM m) → RP B3 W s3 p3 l3 c3 q3 k3 d3 n3 m3 → Calls Try.prog 36 #[.agg #[.int .i64 (infS n m), .bool s, .slice p l c, .slice q k d], .agg #[.int .i64 0, .bool s3, .slice p3 l3 c3, .slice q3 k3 d3]] W fun e w' => e = .returned (.int .i64 (cmI (Fq.plz n m) (Fq.plz n3 m3))) ∧ Kp W w' := by
    intro W s p l c q k d h1 h2
    have h := cmpE_ 0 B3 n n3 m m3 hm (by omega) s p l c q k d s3 p3 l3 c3 q3 k3 d3 W h1 (by rw [ef.1, ef.2]; exact h2)
    rw [ei] at h
    exact h
  have hc2 : ∀ (W : World) (s2 : Bool) (p2 : Option Addr) (l2 c2 : Nat) (q2 : Option Addr) (k2 d2 : Nat), RP 0 W s2 p2 l2 c2 q2 k2 d2 (fN n' m') (fM m') → RP B3 W s3 p3 l3 c3 q3 k3 d3 n3 m3 → Calls Try.prog 36 #[.agg #[.int .i64 0, .bool s3, .slice p3 l3 c3, .slice q3 k3 d3], .agg #[.int .i64 (infS n' m'), .bool s2, .slice p2 l2 c2, .slice q2 k2 d2]] W fun e w' => e = .returned (.int .i64 (cmI (Fq.plz n3 m3) (Fq.plz n' m'))) ∧ Kp W w' := by
    intro W s2 p2 l2 c2 q2 k2 d2 h1 h2
    have h := cmpE_ B3 0 n3 n' m3 m' (by omega) hm' s3 p3 l3 c3 q3 k3 d3 s2 p2 l2 c2 q2 k2 d2 W (by rw [ef.1, ef.2]; exact h2) h1
    rw [ei] at h
    exact h
  by_cases c1 : Fq.plz n m ≤ Fq.plz n3 m3
  · by_cases c2 : Fq.plz n3 m3 ≤ Fq.plz n' m'
    · rw [decide_eq_true ⟨c1, c2⟩]
      exact holdsT_ _ _ _ _ _ _ _ _ _ _ _ _ _ s3 p3 l3 c3 q3 k3 d3 hof2 hc1 hc2 ((cmI_le0 _ _).2 c1) ((cmI_le0 _ _).2 c2) w hz
    · rw [decide_eq_false (fun h => c2 h.2)]
      exact holdsF_ _ _ _ _ _ _ _ _ _ _ _ _ _ s3 p3 l3 c3 q3 k3 d3 hof2 hc1 hc2 ((cmI_le0 _ _).2 c1) (fun h => c2 ((cmI_le0 _ _).1 h)) w hz
  · rw [decide_eq_false (fun h => c1 h.1)]
    exact holdsG_ _ _ _ _ _ _ _ _ _ _ _ _ s3 p3 l3 c3 q3 k3 d3 hof2 hc1 (fun h => c1 ((cmI_le0 _ _).1 h)) w hz
theorem rlo_inf (a b : Nat) (hs : Fq.snd a b = true) (n : Bool) (m : Nat) (e1 : Fq.rlo a b = Fq.wD n m) (c : m = 9218868437227405312) : n = true := by
  have h2 : a ≠ 9218868437227405312 := by intro h; rw [h] at hs; simp [Fq.snd] at hs
  have h1 : Fq.rlo a b ≠ 9218868437227405312 := by simp only [Fq.rlo, hs, if_true, Fq.pla]; split <;> omega
  rw [e1, c] at h1
  cases n
  · exact absurd rfl h1
  · rfl
theorem rhi_inf (a b : Nat) (hs : Fq.snd a b = true) (n : Bool) (m : Nat) (e1 : Fq.rhi a b = Fq.wD n m) (c : m = 9218868437227405312) : n = false := by
  have h2 : b ≠ 18442240474082181120 := by intro h; rw [h] at hs; simp [Fq.snd] at hs
  have h1 : Fq.rhi a b ≠ 18442240474082181120 := by simp only [Fq.rhi, hs, if_true, Fq.pla]; split <;> omega
  rw [e1, c] at h1
  cases n
  · rfl
  · exact absurd rfl h1
theorem wD_inj6 (n n' : Bool) (m m' : Nat) (h : m < 9223372036854775808) (h' : m' < 9223372036854775808) (e : Fq.wD n m = Fq.wD n' m') : n = n' ∧ m = m' := by
  unfold Fq.wD at e
  cases n <;> cases n' <;> simp at e ⊢ <;> omega

theorem mag_both (a b : Nat) (ha : a < 18446744073709551616) (hb : b < 18446744073709551616) : ∃ Z : Nat, (∀ w : World, Calls Try.prog 11 #[.agg #[.float .f64 a, .float .f64 b]] w fun e w' => e = .returned (.float .f64 Z) ∧ Kp w w') ∧ (∀ w : World, Calls Try.prog 12 #[.agg #[.int .u64 ((a : Nat) : Int), .int .u64 ((b : Nat) : Int)]] w fun e w' => e = .returned (.int .u64 (Z : Int)) ∧ Kp w w') ∧ (Z ≤ 9218868437227405312 ∨ Z = 9221120237041090561) := by
  have hr : ∀ w : World, Calls Try.prog 19 #[.agg #[.int .u64 ((a : Nat) : Int), .int .u64 ((b : Nat) : Int)]] w fun e w' => e = .returned (.agg #[.int .u64 ((Fq.rlo a b : Nat) : Int), .int .u64 ((Fq.rhi a b : Nat) : Int)]) ∧ Kp w w' := by
    obtain ⟨n, m, hm, rfl⟩ := Fq.exD a ha
    obtain ⟨n', m', hm', rfl⟩ := Fq.exD b hb
    exact fun w => Fq.rread_ n n' m m' hm hm' w
  have hp := Fq.read_ a b ha hb
  by_cases s1 : Fq.snd a b = true
  · obtain ⟨n, m, l1, e1⟩ := rlo_w a b ha hb
    obtain ⟨g, r, l2, e2⟩ := rhi_w a b ha hb
    have i1 := rlo_inf a b s1 n m e1
    have t1 : (((Fq.wD n m : Nat) : Int) == 9218868437227405312) = false := by
      have h2 : Fq.wD n m ≠ 9218868437227405312 := by
        intro h
        have hh := wD_inj6 n false m 9218868437227405312 (by omega) (by decide) (h.trans rfl)
        have := i1 hh.2
        rw [hh.1] at this; cases this
      simp; omega
    have hv := void8_ a b ha hb false (by simpa using s1)
    have ab := Fq.above6_ false false m r (by omega) (by omega)
    rw [show Fq.wD false m = m from rfl, show Fq.wD false r = r from rfl, show decide (m ≤ 9218868437227405312 ∧ r ≤ 9218868437227405312 ∧ Fq.plz false r < Fq.plz false m) = decide (r < m) from by congr 1; apply propext; unfold Fq.plz; simp; omega] at ab
    rw [e1, e2] at hr hp hv
    refine ⟨if r < m then m else r, fun w => magS_ a b _ _ hp hv m r _ (abs_ n m (by omega)) (abs_ g r (by omega)) (greater8_ m r l1 l2) w, fun w => ?_, Or.inl (by split <;> omega)⟩
    by_cases c : r < m
    · rw [if_pos c]
      rw [decide_eq_true c] at ab
      exact rmagt_ _ _ _ _ _ _ hr t1 (size8_ n m (by omega)) (size8_ g r (by omega)) ab w
    · rw [if_neg c]
      rw [decide_eq_false c] at ab
      exact rmagf_ _ _ _ _ _ _ hr t1 (size8_ n m (by omega)) (size8_ g r (by omega)) ab w
  · have s1 : Fq.snd a b = false := by simpa using s1
    have q1 : Fq.rlo a b = 9218868437227405312 := by rw [Fq.rlo, if_neg (by rw [s1]; decide)]
    have q2 : Fq.rhi a b = 18442240474082181120 := by rw [Fq.rhi, if_neg (by rw [s1]; decide)]
    have hv := void8_ a b ha hb true (by simpa using s1)
    rw [q1, q2] at hr
    exact ⟨9221120237041090561, fun w => magN_ a b _ _ hp hv w, fun w => rmagN_ _ _ _ _ hr (by decide) (by decide) w, Or.inr rfl⟩
theorem mig_both (a b : Nat) (ha : a < 18446744073709551616) (hb : b < 18446744073709551616) : ∃ Z : Nat, (∀ w : World, Calls Try.prog 13 #[.agg #[.float .f64 a, .float .f64 b]] w fun e w' => e = .returned (.float .f64 Z) ∧ Kp w w') ∧ (∀ w : World, Calls Try.prog 14 #[.agg #[.int .u64 ((a : Nat) : Int), .int .u64 ((b : Nat) : Int)]] w fun e w' => e = .returned (.int .u64 (Z : Int)) ∧ Kp w w') ∧ (Z ≤ 9218868437227405312 ∨ Z = 9221120237041090561) := by
  have hr : ∀ w : World, Calls Try.prog 19 #[.agg #[.int .u64 ((a : Nat) : Int), .int .u64 ((b : Nat) : Int)]] w fun e w' => e = .returned (.agg #[.int .u64 ((Fq.rlo a b : Nat) : Int), .int .u64 ((Fq.rhi a b : Nat) : Int)]) ∧ Kp w w' := by
    obtain ⟨n, m, hm, rfl⟩ := Fq.exD a ha
    obtain ⟨n', m', hm', rfl⟩ := Fq.exD b hb
    exact fun w => Fq.rread_ n n' m m' hm hm' w
  have hp := Fq.read_ a b ha hb
  by_cases s1 : Fq.snd a b = true
  · obtain ⟨n, m, l1, e1⟩ := rlo_w a b ha hb
    obtain ⟨g, r, l2, e2⟩ := rhi_w a b ha hb
    have i1 := rlo_inf a b s1 n m e1
    have t1 : (((Fq.wD n m : Nat) : Int) == 9218868437227405312) = false := by
      have h2 : Fq.wD n m ≠ 9218868437227405312 := by
        intro h
        have hh := wD_inj6 n false m 9218868437227405312 (by omega) (by decide) (h.trans rfl)
        have := i1 hh.2
        rw [hh.1] at this; cases this
      simp; omega
    have hv := void8_ a b ha hb false (by simpa using s1)
    have ab := Fq.above6_ false false m r (by omega) (by omega)
    rw [show Fq.wD false m = m from rfl, show Fq.wD false r = r from rfl, show decide (m ≤ 9218868437227405312 ∧ r ≤ 9218868437227405312 ∧ Fq.plz false r < Fq.plz false m) = decide (r < m) from by congr 1; apply propext; unfold Fq.plz; simp; omega] at ab
    have n1 : Fq.wD n m ≠ 9223372036854775808 := e1 ▸ rlo_ne a b
    have n2 : Fq.wD g r ≠ 9223372036854775808 := e2 ▸ rhi_ne a b
    have z1 : n = true → m ≠ 0 := fun h z => n1 (by rw [h, z]; rfl)
    have z2 : g = true → r ≠ 0 := fun h z => n2 (by rw [h, z]; rfl)
    have hof := fun w => ofSound_ (Fq.rlo a b) (Fq.rhi a b) (Fq.rlo_lt a b ha) (Fq.rhi_lt a b hb) (snd_read8 a b ha hb s1) n g m r l1 l2 ((rlo_read8 a b ha hb s1).trans e1) ((rhi_read8 a b ha hb s1).trans e2) w
    rw [e1, e2] at hr hp hv hof
    have le : Fq.plz n m ≤ Fq.plz g r := by
      have h := snd_read8 a b ha hb s1
      rw [e1, e2, Fq.snd_w n g m r (by omega) (by omega)] at h
      exact (of_decide_eq_true h).2.2.1
    have hH := fun (W W' : World) (s : Bool) (p : Option Addr) (l c : Nat) (q : Option Addr) (k d : Nat) (hz : RP W.heap.size W' s p l c q k d false 0) => holds8_ n g false m r 0 l1 l2 (by decide) W.heap.size s p l c q k d hof W' hz
    have f1 := fgt8 n false m 0 (by omega) (by decide)
    have f2 := Fq.flt g false r 0 (by omega) (by decide)
    rw [show Fq.wD false 0 = 0 from rfl] at f1 f2
    have P1 : Fq.plz n m = if n then -(m : Int) else m := by unfold Fq.plz; cases n <;> rfl
    have P2 : Fq.plz g r = if g then -(r : Int) else r := by unfold Fq.plz; cases g <;> rfl
    have P0 : Fq.plz false 0 = 0 := rfl
    rw [P0] at f1 f2
    by_cases c1 : 0 < Fq.plz n m
    · have nn : n = false := by cases n; rfl; rw [P1] at c1; simp at c1; omega
      have gg : g = false := by cases g; rfl; rw [P2] at le; simp at le; omega
      have mr : m ≤ r := by rw [P1, P2, nn, gg] at le; simpa using le
      have hH' := fun W W' s p l c q k d hz => hH W W' s p l c q k d hz
      rw [P0, decide_eq_false (fun h => by omega)] at hH'
      rw [decide_eq_false (by omega)] at ab
      rw [decide_eq_true ⟨l1, by decide, c1⟩] at f1
      refine ⟨m, fun w => ?_, fun w => ?_, Or.inl l1⟩
      · have h := mig1_ a b _ _ hp hv f1 w
        rw [nn] at h
        exact h
      · exact rmigf_ _ _ _ _ _ _ hr t1 hH' (size8_ n m (by omega)) (size8_ g r (by omega)) ab w
    · rw [decide_eq_false (fun h => c1 h.2.2)] at f1
      by_cases c2 : Fq.plz g r < 0
      · have gg : g = true := by cases g; rw [P2] at c2; simp at c2; omega; rfl
        have nn : n = true := by cases n; rw [P1] at le; simp at le; omega; rfl
        have mr : r ≤ m := by rw [P1, P2, nn, gg] at le; simp at le; omega
        have hH' := fun W W' s p l c q k d hz => hH W W' s p l c q k d hz
        rw [P0, decide_eq_false (fun h => by omega)] at hH'
        rw [decide_eq_true ⟨l2, by decide, c2⟩] at f2
        have hn := negW8 g r (by omega)
        rw [gg] at hn
        refine ⟨r, fun w => ?_, fun w => ?_, Or.inl l2⟩
        · rw [gg] at hp hv f2
          exact mig2_ a b _ _ hp hv r hn f1 f2 w
        · by_cases c : r < m
          · rw [decide_eq_true c] at ab
            exact rmigt_ _ _ _ _ _ _ hr t1 hH' (size8_ n m (by omega)) (size8_ g r (by omega)) ab w
          · rw [decide_eq_false c] at ab
            have := rmigf_ _ _ _ _ _ _ hr t1 hH' (size8_ n m (by omega)) (size8_ g r (by omega)) ab w
            rw [show m = r from by omega] at this
            exact this
      · rw [decide_eq_false (fun h => c2 h.2.2)] at f2
        have hH' := fun W W' s p l c q k d hz => hH W W' s p l c q k d hz
        rw [P0, decide_eq_true ⟨by omega, by omega⟩] at hH'
        exact ⟨0, fun w => mig3_ a b _ _ hp hv f1 f2 w, fun w => rmig0_ _ _ _ _ hr t1 hH' w, Or.inl (by decide)⟩
  · have s1 : Fq.snd a b = false := by simpa using s1
    have q1 : Fq.rlo a b = 9218868437227405312 := by rw [Fq.rlo, if_neg (by rw [s1]; decide)]
    have q2 : Fq.rhi a b = 18442240474082181120 := by rw [Fq.rhi, if_neg (by rw [s1]; decide)]
    have hv := void8_ a b ha hb true (by simpa using s1)
    rw [q1, q2] at hr
    exact ⟨9221120237041090561, fun w => migN_ a b _ _ hp hv w, fun w => rmigN_ _ _ _ _ hr (by decide) (by decide) w, Or.inr rfl⟩
set_option maxRecDepth 20000 in
set_option maxHeartbeats 4000000 in
theorem mmags_ (a b : Nat) (ha : a < 18446744073709551616) (hb : b < 18446744073709551616) (w : World) : Calls Try.prog 4 #[.agg #[.int .u64 ((a : Nat) : Int), .int .u64 ((b : Nat) : Int)]] w fun e w' => e = .returned (.bool true) ∧ Kp w w' := by
  have h1 := in8_ a b
  obtain ⟨LO, hP, hR, hz⟩ := mag_both a b ha hb
  obtain ⟨HI, hP2, hR2, hz2⟩ := mig_both a b ha hb
  have hI := isZ8_ LO hz
  have hJ := isZ8_ HI hz2
  clear ha hb hz hz2
  generalize (LO : Int) = LI at hR hI
  generalize (HI : Int) = HJ at hR2 hJ
  generalize (a : Int) = X at h1 hR hR2 ⊢
  generalize (b : Int) = Y at h1 hR hR2 ⊢
  go_enter Try.func4, Try.ntmps4
  go_wp2
  refine Fq.wp_region_grow (by kernel_rfl) (by kernel_rfl) (fun ι _ G hG hall => ?_)
  have cc0 : ∀ n, (G n).cell? ⟨w.heap.size, 0, none⟩ = some (.int .u64 X) := fun n => Fq.gkeep (hG n) (by simp [go_sem])
  have cc1 : ∀ n, (G n).cell? ⟨w.heap.size, 1, none⟩ = some (.int .u64 Y) := fun n => Fq.gkeep (hG n) (by simp [go_sem])
  repeat (go_big_quiet_step (first | (go_at_call 7; exact (h1 _).mono (fun e w' h => ⟨h.1, hall _ (Fq.gtrans (hG _) h.2)⟩)) | (go_at_call 11; exact (hP _).mono (fun e w' h => ⟨h.1, hall _ (Fq.gtrans (hG _) h.2)⟩)) | (go_at_call 12; exact (hR _).mono (fun e w' h => ⟨h.1, hall _ (Fq.gtrans (hG _) h.2)⟩)) | (go_at_call 13; exact (hP2 _).mono (fun e w' h => ⟨h.1, hall _ (Fq.gtrans (hG _) h.2)⟩)) | (go_at_call 14; exact (hR2 _).mono (fun e w' h => ⟨h.1, hall _ (Fq.gtrans (hG _) h.2)⟩)) | (go_at_call_of 5 (Value.float .f64 LO); exact (hI _).mono (fun e w' h => ⟨h.1, hall _ (Fq.gtrans (hG _) h.2)⟩)) | (go_at_call_of 5 (Value.float .f64 HI); exact (hJ _).mono (fun e w' h => ⟨h.1, hall _ (Fq.gtrans (hG _) h.2)⟩))))
  refine wpQuiet_nil ?_
  rintro _ ⟨nq, rfl⟩
  have gq : Kp w (G nq) := Kp.trans ((Kp.refl w).alloc _) (hG nq)
  clear cc0 cc1 hall hG
  go_wp2
  exact bodyPost_ret (v := .bool true) (by simp [results, Try.results4, go_sem]) rfl ⟨rfl, gq⟩
end Go.Proofs.Ytlplidleeckefaa
