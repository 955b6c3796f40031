import Derived.Test.YtnjbheammpdjfaaProg
import Derived.Test.YtnjbheammpdjfaaKXA0
import Derived.Test.YtnjbheammpdjfaaKXQF
import Derived.Test.YtnjbheammpdjfaaKQA
import Derived.Test.YtnjbheammpdjfaaKXQU
import Derived.Test.YtnjbheammpdjfaaKXEA
import Derived.Test.YtnjbheammpdjfaaKXNR
import Derived.Test.YtnjbheammpdjfaaKXNS9
import Derived.Test.YtnjbheammpdjfaaKXND
import Derived.Test.YtnjbheammpdjfaaKXNB
import Derived.Test.YtnjbheammpdjfaaKXNX
import Derived.Test.YtnjbheammpdjfaaKXMI
import Derived.Test.YtnjbheammpdjfaaKXEE
import Derived.WalkKit
import Derived.ProofKit
import Derived.RowKit3
import Derived.WalkSpells
import Derived.StillTactics
import Derived.Deep.QuietTactic
import Derived.BigQuiet
import Derived.Below
import Derived.Deep.OwnRows
import Derived.OwnWalk
import Derived.Laws.BitsAllLaws
import Derived.Laws.Slices
import Derived.Laws.Bits64b
import Derived.Laws.FloatArith
import Derived.Deep.RegionHeld3
import Derived.Deep.CutRange
import Derived.Deep.DeepCutAuto
namespace Go.Proofs.Ytnjbheammpdjfaa
open Go.RowKit
set_option linter.unusedVariables false
set_option maxRecDepth 20000 in
set_option maxHeartbeats 4000000 in
theorem cutsN_ (X1 X2 Y1 Y2 : Int) (a b : Nat) (hi : ∀ w : World, Calls Try.prog 26 #[.agg #[.int .u64 X1, .int .u64 X2]] w fun e w' => e = .returned (.agg #[.float .f64 a, .float .f64 b]) ∧ Kp w w') (hb : ∀ w : World, Calls Try.prog 24 #[.agg #[.float .f64 a, .float .f64 b]] w fun e w' => e = .returned (.tuple #[.agg #[.float .f64 0, .float .f64 0], .agg #[.float .f64 0, .float .f64 0], .bool false]) ∧ Kp w w') (hr : ∀ w : World, Calls Try.prog 29 #[.agg #[.int .u64 X1, .int .u64 X2]] w fun e w' => e = .returned (.agg #[.int .u64 Y1, .int .u64 Y2]) ∧ Kp w w') (e0 : (∀ w : World, (Op.equalIn 9999 22 (.float .f64 0) (.float .f64 0)).run Try.prog w = .ok true w)) (VE VS VN : Bool) (h1 : ∀ w : World, Calls Try.prog 20 #[.agg #[.float .f64 a, .float .f64 b]] w fun e w' => e = .returned (.bool VE) ∧ Kp w w') (h2 : ∀ w : World, Calls Try.prog 30 #[.agg #[.float .f64 a, .float .f64 b]] w fun e w' => e = .returned (.bool VS) ∧ Kp w w') (h3 : ∀ w : World, Calls Try.prog 31 #[.agg #[.int .u64 Y1, .int .u64 Y2]] w fun e w' => e = .returned (.bool VN) ∧ Kp w w') (hv : VE = true ∨ (VE = false ∧ VS = true) ∨ (VE = false ∧ VS = false ∧ VN = true)) (w : World) : Calls Try.prog 6 #[.agg #[.int .u64 X1, .int .u64 X2]] w fun e w' => e = .returned (.bool true) ∧ Kp w w' := by
  go_enter Try.func6, Try.ntmps6
  go_upto_region 5 with (first | (go_at_call 9; refine (awake9_ _).mono ?_; rintro e w1 ⟨rfl, g1⟩; have k1 : Kp w w1 := Kp.trans ((Kp.refl w).alloc _) g1; have s1 := Fq.H2.keep (Fq.H2.new w (.int .u64 X1) (.int .u64 X2) 38) g1; have x10 := s1.1; have x11 := s1.2.1) | (go_at_call 26; refine (hi _).mono ?_; rintro e w2 ⟨rfl, g2⟩; have k2 := Kp.trans k1 g2; have s2 := Fq.H2.keep s1 g2) | (go_at_call 24; refine (hb _).mono ?_; rintro e w3 ⟨rfl, g3⟩; have k3 := Kp.trans k2 g3; have s3 := Fq.H2.keep s2 g3; have x30 := fun o o2 => (Fq.H2.keep s3 (((Kp.refl w3).alloc o).alloc o2)).1; have x31 := fun o o2 => (Fq.H2.keep s3 (((Kp.refl w3).alloc o).alloc o2)).2.1) | (go_at_call 29; refine (hr _).mono ?_; rintro e w4 ⟨rfl, g4⟩))
  have k4 := Kp.trans ((k3.alloc (.cells #[.float .f64 0, .float .f64 0] 25)).alloc (.cells #[.float .f64 0, .float .f64 0] 25)) g4
  have kA : Kp w4 (w4.alloc (.cells #[.int .u64 Y1, .int .u64 Y2] 38)) := (Kp.refl w4).alloc _
  have qx := Fq.H2.keep (Fq.H2.keep s3 (Kp.trans (((Kp.refl w3).alloc _).alloc _) g4)) kA
  have ql := Fq.H2.keep (Fq.H2.past (Fq.H2.new w3 (.float .f64 0) (.float .f64 0) 25) #[.float .f64 0, .float .f64 0] 25) (Kp.trans g4 kA)
  have qr := Fq.H2.keep (Fq.H2.two0 w3 (.float .f64 0) (.float .f64 0) (.float .f64 0) (.float .f64 0) 25 25) (Kp.trans g4 kA)
  have qy := Fq.H2.new w4 (.int .u64 Y1) (.int .u64 Y2) 38
  have kW := Kp.trans k4 kA
  generalize hW : w4.alloc (.cells #[.int .u64 Y1, .int .u64 Y2] 38) = W at qx ql qr qy kW ⊢
  generalize w3.heap.size = bl at ql qr ⊢
  generalize w4.heap.size = by9 at qy ⊢
  clear hW kA k1 k2 k3 k4 s1 s2 s3 g1 g2 g3 g4 x10 x11 x30 x31
  go_upto_region 6 with fail
  rcases hv with rfl | ⟨rfl, rfl⟩ | ⟨rfl, rfl, rfl⟩
  all_goals (
    refine Fq.wp_region_grow (by kernel_rfl) (by kernel_rfl) (fun ι _ G hG hall => ?_)
    have cc0 : ∀ n, (G n).cell? ⟨bl, 0, none⟩ = some (.float .f64 0) := fun n => Fq.gkeep (hG n) ql.1
    have cc1 : ∀ n, (G n).cell? ⟨bl, 1, none⟩ = some (.float .f64 0) := fun n => Fq.gkeep (hG n) ql.2.1
    have cc2 : ∀ n, (G n).cell? ⟨bl + 1, 0, none⟩ = some (.float .f64 0) := fun n => Fq.gkeep (hG n) qr.1
    have cc3 : ∀ n, (G n).cell? ⟨bl + 1, 1, none⟩ = some (.float .f64 0) := fun n => Fq.gkeep (hG n) qr.2.1
    have cc4 : ∀ n, (G n).cell? ⟨w.heap.size, 0, none⟩ = some (.int .u64 X1) := fun n => Fq.gkeep (hG n) qx.1
    have cc5 : ∀ n, (G n).cell? ⟨w.heap.size, 1, none⟩ = some (.int .u64 X2) := fun n => Fq.gkeep (hG n) qx.2.1
    have cc6 : ∀ n, (G n).cell? ⟨by9, 0, none⟩ = some (.int .u64 Y1) := fun n => Fq.gkeep (hG n) qy.1
    have cc7 : ∀ n, (G n).cell? ⟨by9, 1, none⟩ = some (.int .u64 Y2) := fun n => Fq.gkeep (hG n) qy.2.1
    repeat (go_big_quiet_step (first | (go_at_call 8; exact (of9_ _ _ _).mono (fun e w' h => ⟨h.1, hall _ (Fq.gtrans (hG _) h.2)⟩)) | (go_at_call 26; exact (hi _).mono (fun e w' h => ⟨h.1, hall _ (Fq.gtrans (hG _) h.2)⟩)) | (go_at_call 20; exact (h1 _).mono (fun e w' h => ⟨h.1, hall _ (Fq.gtrans (hG _) h.2)⟩)) | (go_at_call 30; exact (h2 _).mono (fun e w' h => ⟨h.1, hall _ (Fq.gtrans (hG _) h.2)⟩)) | (go_at_call 31; exact (h3 _).mono (fun e w' h => ⟨h.1, hall _ (Fq.gtrans (hG _) h.2)⟩))))
    refine wpQuiet_nil ?_
    rintro _ ⟨nq, rfl⟩
    have gq : Kp W (G nq) := hG nq
    clear cc0 cc1 cc2 cc3 cc4 cc5 cc6 cc7 hall hG
    go_wp2
    exact bodyPost_ret (v := .bool true) (by simp [results, Try.results6, go_sem]) rfl ⟨rfl, (Kp.trans kW gq)⟩)
set_option maxRecDepth 20000 in
set_option maxHeartbeats 4000000 in
theorem cutsM_ (X1 X2 Y1 Y2 : Int) (a b : Nat) (hi : ∀ w : World, Calls Try.prog 26 #[.agg #[.int .u64 X1, .int .u64 X2]] w fun e w' => e = .returned (.agg #[.float .f64 a, .float .f64 b]) ∧ Kp w w') (hb : ∀ w : World, Calls Try.prog 24 #[.agg #[.float .f64 a, .float .f64 b]] w fun e w' => e = .returned (.tuple #[.agg #[.float .f64 0, .float .f64 0], .agg #[.float .f64 0, .float .f64 0], .bool false]) ∧ Kp w w') (hr : ∀ w : World, Calls Try.prog 29 #[.agg #[.int .u64 X1, .int .u64 X2]] w fun e w' => e = .returned (.agg #[.int .u64 Y1, .int .u64 Y2]) ∧ Kp w w') (e0 : (∀ w : World, (Op.equalIn 9999 22 (.float .f64 0) (.float .f64 0)).run Try.prog w = .ok true w)) (VE VS : Bool) (h1 : ∀ w : World, Calls Try.prog 20 #[.agg #[.float .f64 a, .float .f64 b]] w fun e w' => e = .returned (.bool VE) ∧ Kp w w') (h2 : ∀ w : World, Calls Try.prog 30 #[.agg #[.float .f64 a, .float .f64 b]] w fun e w' => e = .returned (.bool VS) ∧ Kp w w') (hv : VE = true ∨ (VE = false ∧ VS = true)) (w : World) : Calls Try.prog 6 #[.agg #[.int .u64 X1, .int .u64 X2]] w fun e w' => e = .returned (.bool true) ∧ Kp w w' := by
  go_enter Try.func6, Try.ntmps6
  go_upto_region 5 with (first | (go_at_call 9; refine (awake9_ _).mono ?_; rintro e w1 ⟨rfl, g1⟩; have k1 : Kp w w1 := Kp.trans ((Kp.refl w).alloc _) g1; have s1 := Fq.H2.keep (Fq.H2.new w (.int .u64 X1) (.int .u64 X2) 38) g1; have x10 := s1.1; have x11 := s1.2.1) | (go_at_call 26; refine (hi _).mono ?_; rintro e w2 ⟨rfl, g2⟩; have k2 := Kp.trans k1 g2; have s2 := Fq.H2.keep s1 g2) | (go_at_call 24; refine (hb _).mono ?_; rintro e w3 ⟨rfl, g3⟩; have k3 := Kp.trans k2 g3; have s3 := Fq.H2.keep s2 g3; have x30 := fun o o2 => (Fq.H2.keep s3 (((Kp.refl w3).alloc o).alloc o2)).1; have x31 := fun o o2 => (Fq.H2.keep s3 (((Kp.refl w3).alloc o).alloc o2)).2.1) | (go_at_call 29; refine (hr _).mono ?_; rintro e w4 ⟨rfl, g4⟩))
  have k4 := Kp.trans ((k3.alloc (.cells #[.float .f64 0, .float .f64 0] 25)).alloc (.cells #[.float .f64 0, .float .f64 0] 25)) g4
  have kA : Kp w4 (w4.alloc (.cells #[.int .u64 Y1, .int .u64 Y2] 38)) := (Kp.refl w4).alloc _
  have qx := Fq.H2.keep (Fq.H2.keep s3 (Kp.trans (((Kp.refl w3).alloc _).alloc _) g4)) kA
  have ql := Fq.H2.keep (Fq.H2.past (Fq.H2.new w3 (.float .f64 0) (.float .f64 0) 25) #[.float .f64 0, .float .f64 0] 25) (Kp.trans g4 kA)
  have qr := Fq.H2.keep (Fq.H2.two0 w3 (.float .f64 0) (.float .f64 0) (.float .f64 0) (.float .f64 0) 25 25) (Kp.trans g4 kA)
  have qy := Fq.H2.new w4 (.int .u64 Y1) (.int .u64 Y2) 38
  have kW := Kp.trans k4 kA
  generalize hW : w4.alloc (.cells #[.int .u64 Y1, .int .u64 Y2] 38) = W at qx ql qr qy kW ⊢
  generalize w3.heap.size = bl at ql qr ⊢
  generalize w4.heap.size = by9 at qy ⊢
  clear hW kA k1 k2 k3 k4 s1 s2 s3 g1 g2 g3 g4 x10 x11 x30 x31
  go_upto_region 6 with fail
  rcases hv with rfl | ⟨rfl, rfl⟩
  all_goals (
    refine Fq.wp_region_grow (by kernel_rfl) (by kernel_rfl) (fun ι _ G hG hall => ?_)
    have cc0 : ∀ n, (G n).cell? ⟨bl, 0, none⟩ = some (.float .f64 0) := fun n => Fq.gkeep (hG n) ql.1
    have cc1 : ∀ n, (G n).cell? ⟨bl, 1, none⟩ = some (.float .f64 0) := fun n => Fq.gkeep (hG n) ql.2.1
    have cc2 : ∀ n, (G n).cell? ⟨bl + 1, 0, none⟩ = some (.float .f64 0) := fun n => Fq.gkeep (hG n) qr.1
    have cc3 : ∀ n, (G n).cell? ⟨bl + 1, 1, none⟩ = some (.float .f64 0) := fun n => Fq.gkeep (hG n) qr.2.1
    have cc4 : ∀ n, (G n).cell? ⟨w.heap.size, 0, none⟩ = some (.int .u64 X1) := fun n => Fq.gkeep (hG n) qx.1
    have cc5 : ∀ n, (G n).cell? ⟨w.heap.size, 1, none⟩ = some (.int .u64 X2) := fun n => Fq.gkeep (hG n) qx.2.1
    have cc6 : ∀ n, (G n).cell? ⟨by9, 0, none⟩ = some (.int .u64 Y1) := fun n => Fq.gkeep (hG n) qy.1
    have cc7 : ∀ n, (G n).cell? ⟨by9, 1, none⟩ = some (.int .u64 Y2) := fun n => Fq.gkeep (hG n) qy.2.1
    repeat (go_big_quiet_step (first | (go_at_call 8; exact (of9_ _ _ _).mono (fun e w' h => ⟨h.1, hall _ (Fq.gtrans (hG _) h.2)⟩)) | (go_at_call 26; exact (hi _).mono (fun e w' h => ⟨h.1, hall _ (Fq.gtrans (hG _) h.2)⟩)) | (go_at_call 20; exact (h1 _).mono (fun e w' h => ⟨h.1, hall _ (Fq.gtrans (hG _) h.2)⟩)) | (go_at_call 30; exact (h2 _).mono (fun e w' h => ⟨h.1, hall _ (Fq.gtrans (hG _) h.2)⟩))))
    refine wpQuiet_nil ?_
    rintro _ ⟨nq, rfl⟩
    have gq : Kp W (G nq) := hG nq
    clear cc0 cc1 cc2 cc3 cc4 cc5 cc6 cc7 hall hG
    go_wp2
    exact bodyPost_ret (v := .bool true) (by simp [results, Try.results6, go_sem]) rfl ⟨rfl, (Kp.trans kW gq)⟩)
set_option maxRecDepth 20000 in
set_option maxHeartbeats 4000000 in
theorem cutsY_ (X1 X2 Y1 Y2 CI : Int) (a b A1 A2 C : Nat) (hi : ∀ w : World, Calls Try.prog 26 #[.agg #[.int .u64 X1, .int .u64 X2]] w fun e w' => e = .returned (.agg #[.float .f64 a, .float .f64 b]) ∧ Kp w w') (hb : ∀ w : World, Calls Try.prog 24 #[.agg #[.float .f64 a, .float .f64 b]] w fun e w' => e = .returned (.tuple #[.agg #[.float .f64 A1, .float .f64 C], .agg #[.float .f64 C, .float .f64 A2], .bool true]) ∧ Kp w w') (hr : ∀ w : World, Calls Try.prog 29 #[.agg #[.int .u64 X1, .int .u64 X2]] w fun e w' => e = .returned (.agg #[.int .u64 Y1, .int .u64 Y2]) ∧ Kp w w') (e1 : (∀ w : World, (Op.equalIn 9999 22 (.float .f64 A1) (.float .f64 A1)).run Try.prog w = .ok true w)) (e2 : (∀ w : World, (Op.equalIn 9999 22 (.float .f64 A2) (.float .f64 A2)).run Try.prog w = .ok true w)) (o1 : ∀ w : World, Calls Try.prog 25 #[.agg #[.float .f64 A1, .float .f64 C]] w fun e w' => e = .returned (.agg #[.int .u64 Y1, .int .u64 CI]) ∧ Kp w w') (o2 : ∀ w : World, Calls Try.prog 25 #[.agg #[.float .f64 C, .float .f64 A2]] w fun e w' => e = .returned (.agg #[.int .u64 CI, .int .u64 Y2]) ∧ Kp w w') (v1 : ∀ w : World, Calls Try.prog 32 #[.agg #[.int .u64 Y1, .int .u64 CI]] w fun e w' => e = .returned (.bool true) ∧ Kp w w') (v2 : ∀ w : World, Calls Try.prog 32 #[.agg #[.int .u64 CI, .int .u64 Y2]] w fun e w' => e = .returned (.bool true) ∧ Kp w w') (j1 : ∀ w : World, Calls Try.prog 33 #[.int .u64 CI] w fun e w' => e = .returned (.bool false) ∧ w' = w) (a1 : ∀ w : World, Calls Try.prog 34 #[.int .u64 CI, .int .u64 Y1] w fun e w' => e = .returned (.bool true) ∧ w' = w) (a2 : ∀ w : World, Calls Try.prog 34 #[.int .u64 Y2, .int .u64 CI] w fun e w' => e = .returned (.bool true) ∧ w' = w) (h1 : ∀ w : World, Calls Try.prog 11 #[.agg #[.float .f64 A1, .float .f64 C], .agg #[.float .f64 C, .float .f64 A2]] w fun e w' => e = .returned (.agg #[.float .f64 A1, .float .f64 A2]) ∧ Kp w w') (hy : ∀ w : World, Calls Try.prog 26 #[.agg #[.int .u64 Y1, .int .u64 Y2]] w fun e w' => e = .returned (.agg #[.float .f64 A1, .float .f64 A2]) ∧ Kp w w') (h2 : ∀ w : World, Calls Try.prog 10 #[.agg #[.float .f64 A1, .float .f64 C], .agg #[.float .f64 C, .float .f64 A2]] w fun e w' => e = .returned (.agg #[.float .f64 C, .float .f64 C]) ∧ Kp w w') (h3 : ∀ w : World, Calls Try.prog 30 #[.agg #[.float .f64 C, .float .f64 C]] w fun e w' => e = .returned (.bool true) ∧ Kp w w') (w : World) : Calls Try.prog 6 #[.agg #[.int .u64 X1, .int .u64 X2]] w fun e w' => e = .returned (.bool true) ∧ Kp w w' := by
  go_enter Try.func6, Try.ntmps6
  go_upto_region 5 with (first | (go_at_call 9; refine (awake9_ _).mono ?_; rintro e w1 ⟨rfl, g1⟩; have k1 : Kp w w1 := Kp.trans ((Kp.refl w).alloc _) g1; have s1 := Fq.H2.keep (Fq.H2.new w (.int .u64 X1) (.int .u64 X2) 38) g1; have x10 := s1.1; have x11 := s1.2.1) | (go_at_call 26; refine (hi _).mono ?_; rintro e w2 ⟨rfl, g2⟩; have k2 := Kp.trans k1 g2; have s2 := Fq.H2.keep s1 g2) | (go_at_call 24; refine (hb _).mono ?_; rintro e w3 ⟨rfl, g3⟩; have k3 := Kp.trans k2 g3; have s3 := Fq.H2.keep s2 g3; have x30 := fun o o2 => (Fq.H2.keep s3 (((Kp.refl w3).alloc o).alloc o2)).1; have x31 := fun o o2 => (Fq.H2.keep s3 (((Kp.refl w3).alloc o).alloc o2)).2.1) | (go_at_call 29; refine (hr _).mono ?_; rintro e w4 ⟨rfl, g4⟩))
  have k4 := Kp.trans ((k3.alloc (.cells #[.float .f64 A1, .float .f64 C] 25)).alloc (.cells #[.float .f64 C, .float .f64 A2] 25)) g4
  have kA : Kp w4 (w4.alloc (.cells #[.int .u64 Y1, .int .u64 Y2] 38)) := (Kp.refl w4).alloc _
  have qx := Fq.H2.keep (Fq.H2.keep s3 (Kp.trans (((Kp.refl w3).alloc _).alloc _) g4)) kA
  have ql := Fq.H2.keep (Fq.H2.past (Fq.H2.new w3 (.float .f64 A1) (.float .f64 C) 25) #[.float .f64 C, .float .f64 A2] 25) (Kp.trans g4 kA)
  have qr := Fq.H2.keep (Fq.H2.two0 w3 (.float .f64 A1) (.float .f64 C) (.float .f64 C) (.float .f64 A2) 25 25) (Kp.trans g4 kA)
  have qy := Fq.H2.new w4 (.int .u64 Y1) (.int .u64 Y2) 38
  have kW := Kp.trans k4 kA
  generalize hW : w4.alloc (.cells #[.int .u64 Y1, .int .u64 Y2] 38) = W at qx ql qr qy kW ⊢
  generalize w3.heap.size = bl at ql qr ⊢
  generalize w4.heap.size = by9 at qy ⊢
  clear hW kA k1 k2 k3 k4 s1 s2 s3 g1 g2 g3 g4 x10 x11 x30 x31
  obtain ⟨l0, l1, l2, l3⟩ := id ql
  go_upto_region 9 with (first | (go_at_call_of 25 (Value.agg #[.float .f64 A1, .float .f64 C]); refine (o1 _).mono ?_; rintro e w5 ⟨rfl, g5⟩; have r50 := fun o => (Fq.H2.keep (Fq.H2.keep qr g5) ((Kp.refl w5).alloc o)).1; have r51 := fun o => (Fq.H2.keep (Fq.H2.keep qr g5) ((Kp.refl w5).alloc o)).2.1) | (go_at_call_of 25 (Value.agg #[.float .f64 C, .float .f64 A2]); refine (o2 _).mono ?_; rintro e w6 ⟨rfl, g6⟩))
  clear l0 l1 l2 l3
  have G6 := Kp.trans (Kp.trans g5 ((Kp.refl w5).alloc (.cells #[.int .u64 Y1, .int .u64 CI] 38))) g6
  have kA : Kp w6 (w6.alloc (.cells #[.int .u64 CI, .int .u64 Y2] 38)) := (Kp.refl w6).alloc _
  replace ql := Fq.H2.keep (Fq.H2.keep ql G6) kA
  replace qr := Fq.H2.keep (Fq.H2.keep qr G6) kA
  replace qy := Fq.H2.keep (Fq.H2.keep qy G6) kA
  have qp := Fq.H2.keep (Fq.H2.keep (Fq.H2.new w5 (.int .u64 Y1) (.int .u64 CI) 38) g6) kA
  have qq := Fq.H2.new w6 (.int .u64 CI) (.int .u64 Y2) 38
  replace kW := Kp.trans (Kp.trans kW G6) kA
  generalize hW : w6.alloc (.cells #[.int .u64 CI, .int .u64 Y2] 38) = W at ql qr qy qp qq kW ⊢
  generalize w5.heap.size = bp at qp ⊢
  generalize w6.heap.size = bq at qq ⊢
  clear hW kA G6 g5 g6 r50 r51 qx
  go_cut [81] (fun s81 wx => s81 = .bool false ∧ Kp W wx)
  case first =>
    have gq : Kp W W := Kp.refl W
    obtain ⟨p0, p1, p2, p3⟩ := id qp
    obtain ⟨q0, q1, q2, q3⟩ := id qq
    obtain ⟨y0, y1, y2, y3⟩ := id qy
    go_wp2_with (first | (go_at_call_of 32 (Value.agg #[.int .u64 Y1, .int .u64 CI]); refine (v1 _).mono ?_; rintro e wx ⟨rfl, gx⟩; replace gq := Kp.trans gq gx; replace qp := Fq.H2.keep qp gx; replace qq := Fq.H2.keep qq gx; replace qy := Fq.H2.keep qy gx; clear gx; obtain ⟨p0, p1, p2, p3⟩ := id qp; obtain ⟨q0, q1, q2, q3⟩ := id qq; obtain ⟨y0, y1, y2, y3⟩ := id qy) | (go_at_call_of 32 (Value.agg #[.int .u64 CI, .int .u64 Y2]); refine (v2 _).mono ?_; rintro e wx ⟨rfl, gx⟩; replace gq := Kp.trans gq gx; replace qp := Fq.H2.keep qp gx; replace qq := Fq.H2.keep qq gx; replace qy := Fq.H2.keep qy gx; clear gx; obtain ⟨p0, p1, p2, p3⟩ := id qp; obtain ⟨q0, q1, q2, q3⟩ := id qq; obtain ⟨y0, y1, y2, y3⟩ := id qy) | (go_at_call 33; refine (j1 _).mono ?_; rintro e wj ⟨rfl, hwj⟩; obtain rfl := hwj.symm; clear hwj))
    go_meet
    exact ⟨rfl, gq⟩
  case rest =>
  obtain ⟨rfl, gw⟩ := hcut
  replace ql := Fq.H2.keep ql gw
  replace qr := Fq.H2.keep qr gw
  replace qy := Fq.H2.keep qy gw
  replace qp := Fq.H2.keep qp gw
  replace qq := Fq.H2.keep qq gw
  replace kW := Kp.trans kW gw
  clear gw
  generalize wc = W at ql qr qy qp qq kW ⊢
  go_upto_region 11 with fail
  refine Fq.wp_region_grow (by kernel_rfl) (by kernel_rfl) (fun ι _ G hG hall => ?_)
  have cc0 : ∀ n, (G n).cell? ⟨bl, 0, none⟩ = some (.float .f64 A1) := fun n => Fq.gkeep (hG n) ql.1
  have cc1 : ∀ n, (G n).cell? ⟨bl, 1, none⟩ = some (.float .f64 C) := fun n => Fq.gkeep (hG n) ql.2.1
  have cc2 : ∀ n, (G n).cell? ⟨bl + 1, 0, none⟩ = some (.float .f64 C) := fun n => Fq.gkeep (hG n) qr.1
  have cc3 : ∀ n, (G n).cell? ⟨bl + 1, 1, none⟩ = some (.float .f64 A2) := fun n => Fq.gkeep (hG n) qr.2.1
  have cc4 : ∀ n, (G n).cell? ⟨bp, 0, none⟩ = some (.int .u64 Y1) := fun n => Fq.gkeep (hG n) qp.1
  have cc5 : ∀ n, (G n).cell? ⟨bp, 1, none⟩ = some (.int .u64 CI) := fun n => Fq.gkeep (hG n) qp.2.1
  have cc6 : ∀ n, (G n).cell? ⟨bq, 0, none⟩ = some (.int .u64 CI) := fun n => Fq.gkeep (hG n) qq.1
  have cc7 : ∀ n, (G n).cell? ⟨bq, 1, none⟩ = some (.int .u64 Y2) := fun n => Fq.gkeep (hG n) qq.2.1
  have cc8 : ∀ n, (G n).cell? ⟨by9, 0, none⟩ = some (.int .u64 Y1) := fun n => Fq.gkeep (hG n) qy.1
  have cc9 : ∀ n, (G n).cell? ⟨by9, 1, none⟩ = some (.int .u64 Y2) := fun n => Fq.gkeep (hG n) qy.2.1
  repeat (go_big_quiet_step (first | (go_at_call_of 34 (Value.int .u64 Y1); exact (a1 _).mono (fun e w' h => ⟨h.1, hall _ (by rw [h.2]; exact hG _)⟩)) | (go_at_call_of 34 (Value.int .u64 Y2); exact (a2 _).mono (fun e w' h => ⟨h.1, hall _ (by rw [h.2]; exact hG _)⟩)) | (go_at_call 11; exact (h1 _).mono (fun e w' h => ⟨h.1, hall _ (Fq.gtrans (hG _) h.2)⟩)) | (go_at_call 26; exact (hy _).mono (fun e w' h => ⟨h.1, hall _ (Fq.gtrans (hG _) h.2)⟩)) | (go_at_call 10; exact (h2 _).mono (fun e w' h => ⟨h.1, hall _ (Fq.gtrans (hG _) h.2)⟩)) | (go_at_call 30; exact (h3 _).mono (fun e w' h => ⟨h.1, hall _ (Fq.gtrans (hG _) h.2)⟩))))
  refine wpQuiet_nil ?_
  rintro _ ⟨nq, rfl⟩
  have gq : Kp W (G nq) := hG nq
  clear cc0 cc1 cc2 cc3 cc4 cc5 cc6 cc7 cc8 cc9 hall hG
  go_wp2
  exact bodyPost_ret (v := .bool true) (by simp [results, Try.results6, go_sem]) rfl ⟨rfl, (Kp.trans kW gq)⟩
theorem eqW9 (x : Int) (hx : BdZ x) (w : World) : (Op.equalIn 9999 22 (.float .f64 (pw x)) (.float .f64 (pw x))).run Try.prog w = .ok true w := by
  have h := Fq.eqInR (pw x) (pw x) w
  rw [peq9 x x hx hx, decide_eq_true rfl] at h
  exact h
theorem valid9_ (L H : Int) (d : VdZ L H) (w : World) : Calls Try.prog 32 #[.agg #[.int .u64 (pI L), .int .u64 (pI H)]] w fun e w' => e = .returned (.bool true) ∧ Kp w w' := by
  have al := abs_pw L d.lo
  have ah := abs_pw H d.hi
  have g := Fq.rvalid_ (decide (L < 0)) (decide (H < 0)) L.natAbs H.natAbs (by omega) (by omega) w
  have hv : Fq.vld (pw L) (pw H) = true := by
    unfold Fq.vld
    rcases d with ⟨rfl, rfl⟩ | d'
    · decide
    · rw [snd_pw L H (by unfold BdZ; omega) (by unfold BdZ; omega), decide_eq_true (show L ≤ H ∧ L ≠ 9218868437227405312 ∧ H ≠ -9218868437227405312 by omega), decide_eq_false (pw_ne L (by unfold BdZ; omega)), decide_eq_false (pw_ne H (by unfold BdZ; omega))]
      simp
  rw [show Fq.vld (Fq.wD (decide (L < 0)) L.natAbs) (Fq.wD (decide (H < 0)) H.natAbs) = true from hv] at g
  exact g
set_option maxHeartbeats 2000000 in
theorem cutlaw_ (a b : Nat) (ha : a < 18446744073709551616) (hb : b < 18446744073709551616) (w : World) : Calls Try.prog 6 #[.agg #[.int .u64 ((a : Nat) : Int), .int .u64 ((b : Nat) : Int)]] w fun e w' => e = .returned (.bool true) ∧ Kp w w' := by
  obtain ⟨L, H, r⟩ := Rd.ex a b ha hb
  have d := r.vd
  have dd := d
  unfold VdZ at dd
  have hr := rread9_ a b L H r
  have e0 : (∀ w : World, (Op.equalIn 9999 22 (.float .f64 0) (.float .f64 0)).run Try.prog w = .ok true w) := eqW9 0 (by unfold BdZ; omega)
  by_cases c2 : H ≤ L + 1
  · by_cases c3 : L ≠ 9218868437227405312 ∧ L ≠ H
    · have hH : H = L + 1 := by omega
      have h3 := nb9_ L (by omega) (by omega)
      rw [← hH] at h3
      exact cutsN_ _ _ _ _ a b (in9_ a b) (bisN9_ a b L H r c2) hr e0 _ _ _ (isemp9_ a b L H r) (single9_ a b L H r) h3 (Or.inr (Or.inr ⟨decide_eq_false c3.1, decide_eq_false c3.2, rfl⟩)) w
    · refine cutsM_ _ _ _ _ a b (in9_ a b) (bisN9_ a b L H r c2) hr e0 _ _ (isemp9_ a b L H r) (single9_ a b L H r) ?_ w
      by_cases c4 : L = 9218868437227405312
      · exact Or.inl (decide_eq_true c4)
      · exact Or.inr ⟨decide_eq_false c4, decide_eq_true (by omega)⟩
  · obtain ⟨c, h1, h2, hc⟩ := cut9_ L H d (by omega)
    have bc : BdZ c := by have := d.lo; have := d.hi; unfold BdZ at *; omega
    have dl : VdZ L c := Or.inr (by have := d.lo; have := d.hi; unfold BdZ at *; omega)
    have dr : VdZ c H := Or.inr (by have := d.lo; have := d.hi; unfold BdZ at *; omega)
    have dc : VdZ c c := Or.inr (by have := d.lo; have := d.hi; unfold BdZ at *; omega)
    have j1 := isinf9_ c bc
    rw [decide_eq_false (by have := d.lo; have := d.hi; unfold BdZ at *; omega)] at j1
    have a1 := rabove9_ c L bc d.lo
    rw [decide_eq_true h1] at a1
    have a2 := rabove9_ H c d.hi bc
    rw [decide_eq_true h2] at a2
    have hh := hull9_ _ _ _ _ L c c H (Rd.of dl) (Rd.of dr)
    rw [show min L c = L from by omega, show max c H = H from by omega] at hh
    have hi := meet9_ _ _ _ _ L c c H (Rd.of dl) (Rd.of dr)
    rw [show iL L c c H = c from by unfold iL; rw [if_pos (by omega)]; omega, show iH L c c H = c from by unfold iH; rw [if_pos (by omega)]; omega] at hi
    have hs := single9_ _ _ c c (Rd.of dc)
    rw [decide_eq_true rfl] at hs
    exact cutsY_ _ _ _ _ _ a b _ _ _ (in9_ a b) (bisC9_ a b L H r (by omega) _ hc) hr (eqW9 L d.lo) (eqW9 H d.hi) (out9_ _ _) (out9_ _ _) (valid9_ L c dl) (valid9_ c H dr) j1 a1 a2 hh (in9_ (pw L) (pw H)) hi hs w
end Go.Proofs.Ytnjbheammpdjfaa
