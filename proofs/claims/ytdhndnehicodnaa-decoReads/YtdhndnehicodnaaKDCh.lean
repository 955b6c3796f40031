import Derived.Test.YtdhndnehicodnaaProg
import Derived.Test.YtdhndnehicodnaaKXA0
import Derived.Test.YtdhndnehicodnaaKQM
import Derived.Test.YtdhndnehicodnaaKQA
import Derived.Test.YtdhndnehicodnaaKXQU
import Derived.Test.YtdhndnehicodnaaKEM
import Derived.Test.YtdhndnehicodnaaKEN
import Derived.Test.YtdhndnehicodnaaKEA
import Derived.Test.YtdhndnehicodnaaKEB
import Derived.Test.YtdhndnehicodnaaKEH
import Derived.Test.YtdhndnehicodnaaKEK
import Derived.Test.YtdhndnehicodnaaKEO
import Derived.Test.YtdhndnehicodnaaKER
import Derived.Test.YtdhndnehicodnaaKES
import Derived.Test.YtdhndnehicodnaaKNRv
import Derived.Test.YtdhndnehicodnaaKNRm
import Derived.Test.YtdhndnehicodnaaKNRa
import Derived.Test.YtdhndnehicodnaaKNRb
import Derived.Test.YtdhndnehicodnaaKNRc
import Derived.Test.YtdhndnehicodnaaKNRj
import Derived.Test.YtdhndnehicodnaaKNKa
import Derived.Test.YtdhndnehicodnaaKDCa
import Derived.Test.YtdhndnehicodnaaKDCb
import Derived.WalkKit
import Derived.ProofKit
import Derived.RowKit3
import Derived.WalkSpells
import Derived.StillTactics
import Derived.Deep.QuietTactic
import Derived.BigQuiet
import Derived.Below
import Derived.Deep.OwnRows
import Derived.OwnWalk
import Derived.Laws.BitsAllLaws
import Derived.Laws.Slices
import Derived.Laws.Bits64b
import Derived.Laws.FloatArith
import Derived.Deep.RegionHeld3
import Derived.Deep.CutRange
import Derived.Deep.DeepCutAuto
namespace Go.Proofs.Ytdhndnehicodnaa
open Go.RowKit
set_option maxRecDepth 20000 in
set_option maxHeartbeats 1000000 in
theorem in9_ (a b : Nat) (w : World) : Calls Try.prog 9 #[.agg #[.int .u64 ((a : Nat) : Int), .int .u64 ((b : Nat) : Int)]] w fun e w' => e = .returned (.agg #[.float .f64 a, .float .f64 b]) ∧ Kp w w' := by
  have h1 := Fq.ff64 a
  have h2 := Fq.ff64 b
  generalize (a : Int) = X at h1 ⊢
  generalize (b : Int) = Y at h2 ⊢
  go_enter Try.func9, Try.ntmps9
  go_wp2
  go_region_held3 (fun w' => w'.cell? ⟨w.heap.size, 0, none⟩ = some (.int .u64 X) ∧ w'.cell? ⟨w.heap.size, 1, none⟩ = some (.int .u64 Y)) (simp [go_sem]) (fail)
  go_wp2
  exact bodyPost_ret (v := .agg #[.float .f64 a, .float .f64 b]) (by simp [results, Try.results9, go_sem]) rfl ⟨rfl, (by repeat (with_reducible (first | assumption | exact Kp.refl _ | apply Kp.drew | apply Kp.alloc | apply Kp.drewN | (refine Kp.setCell ?_ (by first | omega | (simp <;> omega)) _) | (refine Kp.trans ?_ (by assumption)))))⟩
set_option maxRecDepth 20000 in
set_option maxHeartbeats 1000000 in
theorem out9_ (a b : Nat) (w : World) : Calls Try.prog 15 #[.agg #[.float .f64 a, .float .f64 b]] w fun e w' => e = .returned (.agg #[.int .u64 ((a : Nat) : Int), .int .u64 ((b : Nat) : Int)]) ∧ Kp w w' := by
  have h1 := Fq.fb64 a
  have h2 := Fq.fb64 b
  generalize (a : Int) = X at h1 ⊢
  generalize (b : Int) = Y at h2 ⊢
  go_enter Try.func15, Try.ntmps15
  go_wp2
  go_region_held3 (fun w' => w'.cell? ⟨w.heap.size, 0, none⟩ = some (.float .f64 a) ∧ w'.cell? ⟨w.heap.size, 1, none⟩ = some (.float .f64 b)) (simp [go_sem, World.cell?_alloc_past]) (fail)
  go_wp2
  exact bodyPost_ret (v := .agg #[.int .u64 X, .int .u64 Y]) (by simp [results, Try.results15, go_sem]) rfl ⟨rfl, (by repeat (with_reducible (first | assumption | exact Kp.refl _ | apply Kp.drew | apply Kp.alloc | apply Kp.drewN | (refine Kp.setCell ?_ (by first | omega | (simp <;> omega)) _) | (refine Kp.trans ?_ (by assumption)))))⟩
set_option maxRecDepth 20000 in
set_option maxHeartbeats 1000000 in
theorem dinA_ (X1 X2 D : Int) (A1 A2 : Nat) (hin : ∀ w : World, Calls Try.prog 9 #[.agg #[.int .u64 X1, .int .u64 X2]] w fun e w' => e = .returned (.agg #[.float .f64 A1, .float .f64 A2]) ∧ Kp w w') (w : World) : Calls Try.prog 6 #[.agg #[.int .u64 X1, .int .u64 X2, .int .i64 D]] w fun e w' => e = .returned (.agg #[.float .f64 A1, .float .f64 A2, .int .i64 D]) ∧ Kp w w' := by
  go_enter Try.func6, Try.ntmps6
  go_wp2
  go_region_held3 (fun w' => w'.cell? ⟨w.heap.size, 0, none⟩ = some (.int .u64 X1) ∧ w'.cell? ⟨w.heap.size, 1, none⟩ = some (.int .u64 X2) ∧ w'.cell? ⟨w.heap.size, 2, none⟩ = some (.int .i64 D)) (first | (with_reducible exact ⟨x0, x1, x2⟩) | (simp [go_sem, x0, x1, x2]; done) | (simp [go_sem])) (first | (go_at_call 9; refine (hin _).mono ?_; rintro e w1 ⟨rfl, g1⟩; have k1 : Kp w w1 := Kp.trans ((((Kp.refl w).alloc _).alloc _).drew) g1; obtain ⟨x0, x1, x2, x3, x4, x5⟩ := H3c.keep (H3c.keep (H3c.keep (H3c.new w (.int .u64 X1) (.int .u64 X2) (.int .i64 D) 26) ((Kp.refl _).alloc (.cells #[.float .f64 0, .float .f64 0, .int .i64 0] 32))) (Kp.drew (Kp.refl _))) g1; obtain ⟨r0, r1, r2, r3, r4, r5⟩ := H3c.keep (H3c.keep (H3c.two w #[.int .u64 X1, .int .u64 X2, .int .i64 D] (.float .f64 0) (.float .f64 0) (.int .i64 0) 26 32) (Kp.drew (Kp.refl _))) g1))
  go_wp2
  exact bodyPost_ret (v := .agg #[.float .f64 A1, .float .f64 A2, .int .i64 D]) (by simp [results, Try.results6, go_sem, r0, r1, r2]) rfl ⟨rfl, (((k1.setCell (by simp) _).setCell (by simp) _).setCell (by simp) _)⟩
set_option maxRecDepth 20000 in
set_option maxHeartbeats 1000000 in
theorem doutA_ (X1 X2 D : Int) (A1 A2 : Nat) (hin : ∀ w : World, Calls Try.prog 15 #[.agg #[.float .f64 A1, .float .f64 A2]] w fun e w' => e = .returned (.agg #[.int .u64 X1, .int .u64 X2]) ∧ Kp w w') (w : World) : Calls Try.prog 4 #[.agg #[.float .f64 A1, .float .f64 A2, .int .i64 D]] w fun e w' => e = .returned (.agg #[.int .u64 X1, .int .u64 X2, .int .i64 D]) ∧ Kp w w' := by
  go_enter Try.func4, Try.ntmps4
  go_wp2
  go_region_held3 (fun w' => w'.cell? ⟨w.heap.size, 0, none⟩ = some (.float .f64 A1) ∧ w'.cell? ⟨w.heap.size, 1, none⟩ = some (.float .f64 A2) ∧ w'.cell? ⟨w.heap.size, 2, none⟩ = some (.int .i64 D)) (first | (with_reducible exact ⟨x0, x1, x2⟩) | (simp [go_sem, x0, x1, x2]; done) | (simp [go_sem])) (first | (go_at_call 15; refine (hin _).mono ?_; rintro e w1 ⟨rfl, g1⟩; have k1 : Kp w w1 := Kp.trans ((((Kp.refl w).alloc _).alloc _).drew) g1; obtain ⟨x0, x1, x2, x3, x4, x5⟩ := H3c.keep (H3c.keep (H3c.keep (H3c.new w (.float .f64 A1) (.float .f64 A2) (.int .i64 D) 32) ((Kp.refl _).alloc (.cells #[.int .u64 0, .int .u64 0, .int .i64 0] 26))) (Kp.drew (Kp.refl _))) g1; obtain ⟨r0, r1, r2, r3, r4, r5⟩ := H3c.keep (H3c.keep (H3c.two w #[.float .f64 A1, .float .f64 A2, .int .i64 D] (.int .u64 0) (.int .u64 0) (.int .i64 0) 32 26) (Kp.drew (Kp.refl _))) g1))
  go_wp2
  exact bodyPost_ret (v := .agg #[.int .u64 X1, .int .u64 X2, .int .i64 D]) (by simp [results, Try.results4, go_sem, r0, r1, r2]) rfl ⟨rfl, (((k1.setCell (by simp) _).setCell (by simp) _).setCell (by simp) _)⟩
theorem din_ (a b : Nat) (D : Int) (w : World) : Calls Try.prog 6 #[.agg #[.int .u64 ((a : Nat) : Int), .int .u64 ((b : Nat) : Int), .int .i64 D]] w fun e w' => e = .returned (.agg #[.float .f64 a, .float .f64 b, .int .i64 D]) ∧ Kp w w' := dinA_ _ _ D a b (in9_ a b) w
theorem dout_ (a b : Nat) (D : Int) (w : World) : Calls Try.prog 4 #[.agg #[.float .f64 a, .float .f64 b, .int .i64 D]] w fun e w' => e = .returned (.agg #[.int .u64 ((a : Nat) : Int), .int .u64 ((b : Nat) : Int), .int .i64 D]) ∧ Kp w w' := doutA_ _ _ D a b (out9_ a b) w
end Go.Proofs.Ytdhndnehicodnaa
