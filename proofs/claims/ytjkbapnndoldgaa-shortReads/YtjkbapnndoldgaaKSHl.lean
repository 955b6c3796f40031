import Derived.Test.YtjkbapnndoldgaaKSHy
namespace Go.Proofs.Ytjkbapnndoldgaa
open Go.RowKit
set_option linter.unusedVariables false
set_option maxRecDepth 20000 in
set_option maxHeartbeats 2000000 in
theorem sReadsA_ (X Y R S : Int) (a b c d : Nat) (V : Bool) (hi : ∀ w : World, Calls Try.prog 9 #[.agg #[.int .u32 X, .int .u32 Y]] w fun e w' => e = .returned (.agg #[.float .f32 a, .float .f32 b]) ∧ Kp w w') (hp : ∀ w : World, Calls Try.prog 8 #[.agg #[.float .f32 a, .float .f32 b]] w fun e w' => e = .returned (.agg #[.float .f32 c, .float .f32 d]) ∧ Kp w w') (ho : ∀ w : World, Calls Try.prog 7 #[.agg #[.float .f32 c, .float .f32 d]] w fun e w' => e = .returned (.agg #[.int .u32 R, .int .u32 S]) ∧ Kp w w') (hr : ∀ w : World, Calls Try.prog 10 #[.agg #[.int .u32 X, .int .u32 Y]] w fun e w' => e = .returned (.agg #[.int .u32 R, .int .u32 S]) ∧ Kp w w') (hv : ∀ w : World, Calls Try.prog 11 #[.agg #[.float .f32 a, .float .f32 b]] w fun e w' => e = .returned (.bool V) ∧ Kp w w') (hw : ∀ w : World, Calls Try.prog 12 #[.agg #[.int .u32 X, .int .u32 Y]] w fun e w' => e = .returned (.bool V) ∧ Kp w w') (w : World) : Calls Try.prog 3 #[.agg #[.int .u32 X, .int .u32 Y]] w fun e w' => e = .returned (.bool true) ∧ Kp w w' := by
  go_enter Try.func3, Try.ntmps3
  go_wp2
  refine Fq.wp_region_grow (by kernel_rfl) (by kernel_rfl) (fun ι _ G hG hall => ?_)
  have cc0 : ∀ n, (G n).cell? ⟨w.heap.size, 0, none⟩ = some (.int .u32 X) := fun n => Fq.gkeep (hG n) (by simp [go_sem])
  have cc1 : ∀ n, (G n).cell? ⟨w.heap.size, 1, none⟩ = some (.int .u32 Y) := fun n => Fq.gkeep (hG n) (by simp [go_sem])
  repeat (go_big_quiet_step (first | (go_at_call 9; exact (hi _).mono (fun e w' h => ⟨h.1, hall _ (Fq.gtrans (hG _) h.2)⟩)) | (go_at_call 8; exact (hp _).mono (fun e w' h => ⟨h.1, hall _ (Fq.gtrans (hG _) h.2)⟩)) | (go_at_call 7; exact (ho _).mono (fun e w' h => ⟨h.1, hall _ (Fq.gtrans (hG _) h.2)⟩)) | (go_at_call 10; exact (hr _).mono (fun e w' h => ⟨h.1, hall _ (Fq.gtrans (hG _) h.2)⟩)) | (go_at_call 11; exact (hv _).mono (fun e w' h => ⟨h.1, hall _ (Fq.gtrans (hG _) h.2)⟩)) | (go_at_call 12; exact (hw _).mono (fun e w' h => ⟨h.1, hall _ (Fq.gtrans (hG _) h.2)⟩))))
  refine wpQuiet_nil ?_
  rintro _ ⟨nq, rfl⟩
  have gq : Kp _ (G nq) := hG nq
  clear cc0 cc1 hall hG
  have gq2 := Kp.trans ((Kp.refl w).alloc _) gq
  go_wp2
  exact bodyPost_ret (v := .bool true) (by simp [results, Try.results3, go_sem]) rfl ⟨rfl, gq2⟩
theorem sReads_ (a b : Nat) (ha : a < 4294967296) (hb : b < 4294967296) (w : World) : Calls Try.prog 3 #[.agg #[.int .u32 ((a : Nat) : Int), .int .u32 ((b : Nat) : Int)]] w fun e w' => e = .returned (.bool true) ∧ Kp w w' := by
  obtain ⟨L, H, r⟩ := Sg.Rd.ex a b ha hb
  exact sReadsA_ _ _ _ _ a b _ _ _ (inS_ a b) (shRead_ a b L H r) (outS_ _ _) (rread14_ a b L H r) (shValid_ a b L H r) (rvalid14_ a b L H r) w
end Go.Proofs.Ytjkbapnndoldgaa
