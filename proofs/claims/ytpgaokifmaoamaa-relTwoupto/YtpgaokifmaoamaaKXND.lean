import Derived.Test.YtpgaokifmaoamaaProg
import Derived.Test.YtpgaokifmaoamaaKXA0
import Derived.Test.YtpgaokifmaoamaaKXQF
import Derived.Test.YtpgaokifmaoamaaKQA
import Derived.Test.YtpgaokifmaoamaaKXQU
import Derived.Test.YtpgaokifmaoamaaKXEA
import Derived.Test.YtpgaokifmaoamaaKXNR
import Derived.Test.YtpgaokifmaoamaaKXNS9
import Derived.WalkKit
import Derived.ProofKit
import Derived.RowKit3
import Derived.WalkSpells
import Derived.StillTactics
import Derived.Deep.QuietTactic
import Derived.BigQuiet
import Derived.Below
import Derived.Deep.OwnRows
import Derived.OwnWalk
import Derived.Laws.BitsAllLaws
import Derived.Laws.Slices
import Derived.Laws.Bits64b
import Derived.Laws.FloatArith
import Derived.Deep.RegionHeld3
import Derived.Deep.CutRange
import Derived.Deep.DeepCutAuto
namespace Go.Proofs.Ytpgaokifmaoamaa
open Go.RowKit
set_option maxRecDepth 20000 in
set_option maxHeartbeats 2000000 in
theorem precedesA_ (a b c d L1 H1 L2 H2 : Nat) (hx : ∀ w : World, Calls Try.prog 23 #[.agg #[.float .f64 a, .float .f64 b]] w fun e w' => e = .returned (.agg #[.float .f64 L1, .float .f64 H1]) ∧ Kp w w') (hy : ∀ w : World, Calls Try.prog 23 #[.agg #[.float .f64 c, .float .f64 d]] w fun e w' => e = .returned (.agg #[.float .f64 L2, .float .f64 H2]) ∧ Kp w w') (B1 : Bool) (t1 : (FloatKind.f64.format.order H1 L2 == some Ordering.lt || FloatKind.f64.format.order H1 L2 == some Ordering.eq) = B1) (w : World) : Calls Try.prog 9 #[.agg #[.float .f64 a, .float .f64 b], .agg #[.float .f64 c, .float .f64 d]] w fun e w' => e = .returned (.bool B1) ∧ Kp w w' := by
    go_enter Try.func9, Try.ntmps9
    go_upto_region 1 with fail
    go_cut [] (fun wx => H48 wx w.heap.size (.float .f64 L1) (.float .f64 H1) (.float .f64 L2) (.float .f64 H2) ∧ Kp w wx)
    case first =>
      go_region_with (first | (go_at_call_of 23 (Value.agg #[.float .f64 a, .float .f64 b]); refine (hx _).mono ?_; rintro e wx ⟨rfl, gx⟩; first | (have kx := Kp.trans ky gx; have sx := H48.keep sy gx; obtain ⟨⟨p0, p1, p2, p3⟩, ⟨p4, p5, p6, p7⟩⟩ := id sx) | (have kx : Kp w wx := Kp.trans (((Kp.refl w).alloc _).alloc _).drew gx; have sx := H48.keep (H48.new w (.float .f64 a) (.float .f64 b) (.float .f64 c) (.float .f64 d) 34 34) (Kp.trans (Kp.drew (Kp.refl _)) gx); obtain ⟨⟨p0, p1, p2, p3⟩, ⟨p4, p5, p6, p7⟩⟩ := id sx)) | (go_at_call_of 23 (Value.agg #[.float .f64 c, .float .f64 d]); refine (hy _).mono ?_; rintro e wy ⟨rfl, gy⟩; first | (have ky := Kp.trans kx gy; have sy := H48.keep sx gy; obtain ⟨⟨p0, p1, p2, p3⟩, ⟨p4, p5, p6, p7⟩⟩ := id sy) | (have ky : Kp w wy := Kp.trans (((Kp.refl w).alloc _).alloc _).drew gy; have sy := H48.keep (H48.new w (.float .f64 a) (.float .f64 b) (.float .f64 c) (.float .f64 d) 34 34) (Kp.trans (Kp.drew (Kp.refl _)) gy); obtain ⟨⟨p0, p1, p2, p3⟩, ⟨p4, p5, p6, p7⟩⟩ := id sy)))
      all_goals (
        go_wp2_with fail
        go_meet
        first | (exact ⟨H48.put (id sy : H48 wy w.heap.size (.float .f64 a) (.float .f64 b) (.float .f64 c) (.float .f64 d)) (.float .f64 L1) (.float .f64 H1) (.float .f64 L2) (.float .f64 H2), (((ky.setCell (Nat.le_refl _) _).setCell (Nat.le_refl _) _).setCell (Nat.le_succ _) _).setCell (Nat.le_succ _) _⟩) | (exact ⟨H48.put (id sx : H48 wx w.heap.size (.float .f64 a) (.float .f64 b) (.float .f64 c) (.float .f64 d)) (.float .f64 L1) (.float .f64 H1) (.float .f64 L2) (.float .f64 H2), (((kx.setCell (Nat.le_refl _) _).setCell (Nat.le_refl _) _).setCell (Nat.le_succ _) _).setCell (Nat.le_succ _) _⟩))
    case rest =>
    obtain ⟨sw, kw⟩ := hcut
    obtain ⟨⟨p0, p1, p2, p3⟩, ⟨p4, p5, p6, p7⟩⟩ := id sw
    cases B1
    all_goals (
      go_wp2
      exact bodyPost_ret (v := .bool _) (by simp [results, Try.results9, go_sem]) rfl ⟨rfl, (by repeat (with_reducible (first | assumption | exact Kp.refl _ | apply Kp.drew | apply Kp.alloc | apply Kp.drewN | (refine Kp.setCell ?_ (by first | omega | (simp <;> omega)) _) | (refine Kp.trans ?_ (by assumption)))))⟩)
theorem precedes9_ (a b c d : Nat) (L1 H1 L2 H2 : Int) (hx : Rd a b L1 H1) (hy : Rd c d L2 H2) (w : World) : Calls Try.prog 9 #[.agg #[.float .f64 a, .float .f64 b], .agg #[.float .f64 c, .float .f64 d]] w fun e w' => e = .returned (.bool (decide (H1 ≤ L2))) ∧ Kp w w' := by
  have h := precedesA_ a b c d _ _ _ _ hx.call hy.call _ rfl w
  rw [ple9 H1 L2 hx.vd.hi hy.vd.lo] at h
  exact h
set_option maxRecDepth 20000 in
set_option maxHeartbeats 4000000 in
theorem sprecA_ (a b c d L1 H1 L2 H2 : Nat) (hx : ∀ w : World, Calls Try.prog 23 #[.agg #[.float .f64 a, .float .f64 b]] w fun e w' => e = .returned (.agg #[.float .f64 L1, .float .f64 H1]) ∧ Kp w w') (hy : ∀ w : World, Calls Try.prog 23 #[.agg #[.float .f64 c, .float .f64 d]] w fun e w' => e = .returned (.agg #[.float .f64 L2, .float .f64 H2]) ∧ Kp w w') (V1 V2 B1 : Bool) (hv1 : ∀ w : World, Calls Try.prog 24 #[.agg #[.float .f64 L1, .float .f64 H1]] w fun e w' => e = .returned (.bool V1) ∧ Kp w w') (hv2 : ∀ w : World, Calls Try.prog 24 #[.agg #[.float .f64 L2, .float .f64 H2]] w fun e w' => e = .returned (.bool V2) ∧ Kp w w') (t1 : (FloatKind.f64.format.order H1 L2 == some Ordering.lt) = B1) (w : World) : Calls Try.prog 10 #[.agg #[.float .f64 a, .float .f64 b], .agg #[.float .f64 c, .float .f64 d]] w fun e w' => e = .returned (.bool (V1 || (V2 || B1))) ∧ Kp w w' := by
    go_enter Try.func10, Try.ntmps10
    go_upto_region 1 with fail
    go_cut [] (fun wx => H48 wx w.heap.size (.float .f64 L1) (.float .f64 H1) (.float .f64 L2) (.float .f64 H2) ∧ Kp w wx)
    case first =>
      go_region_with (first | (go_at_call_of 23 (Value.agg #[.float .f64 a, .float .f64 b]); refine (hx _).mono ?_; rintro e wx ⟨rfl, gx⟩; first | (have kx := Kp.trans ky gx; have sx := H48.keep sy gx; obtain ⟨⟨p0, p1, p2, p3⟩, ⟨p4, p5, p6, p7⟩⟩ := id sx) | (have kx : Kp w wx := Kp.trans (((Kp.refl w).alloc _).alloc _).drew gx; have sx := H48.keep (H48.new w (.float .f64 a) (.float .f64 b) (.float .f64 c) (.float .f64 d) 34 34) (Kp.trans (Kp.drew (Kp.refl _)) gx); obtain ⟨⟨p0, p1, p2, p3⟩, ⟨p4, p5, p6, p7⟩⟩ := id sx)) | (go_at_call_of 23 (Value.agg #[.float .f64 c, .float .f64 d]); refine (hy _).mono ?_; rintro e wy ⟨rfl, gy⟩; first | (have ky := Kp.trans kx gy; have sy := H48.keep sx gy; obtain ⟨⟨p0, p1, p2, p3⟩, ⟨p4, p5, p6, p7⟩⟩ := id sy) | (have ky : Kp w wy := Kp.trans (((Kp.refl w).alloc _).alloc _).drew gy; have sy := H48.keep (H48.new w (.float .f64 a) (.float .f64 b) (.float .f64 c) (.float .f64 d) 34 34) (Kp.trans (Kp.drew (Kp.refl _)) gy); obtain ⟨⟨p0, p1, p2, p3⟩, ⟨p4, p5, p6, p7⟩⟩ := id sy)))
      all_goals (
        go_wp2_with fail
        go_meet
        first | (exact ⟨H48.put (id sy : H48 wy w.heap.size (.float .f64 a) (.float .f64 b) (.float .f64 c) (.float .f64 d)) (.float .f64 L1) (.float .f64 H1) (.float .f64 L2) (.float .f64 H2), (((ky.setCell (Nat.le_refl _) _).setCell (Nat.le_refl _) _).setCell (Nat.le_succ _) _).setCell (Nat.le_succ _) _⟩) | (exact ⟨H48.put (id sx : H48 wx w.heap.size (.float .f64 a) (.float .f64 b) (.float .f64 c) (.float .f64 d)) (.float .f64 L1) (.float .f64 H1) (.float .f64 L2) (.float .f64 H2), (((kx.setCell (Nat.le_refl _) _).setCell (Nat.le_refl _) _).setCell (Nat.le_succ _) _).setCell (Nat.le_succ _) _⟩))
    case rest =>
    obtain ⟨sw, kw⟩ := hcut
    obtain ⟨⟨p0, p1, p2, p3⟩, ⟨p4, p5, p6, p7⟩⟩ := id sw
    cases V1 <;> cases V2 <;> cases B1
    all_goals (
      go_wp2_with (first | (go_at_call_of 24 (Value.agg #[.float .f64 L1, .float .f64 H1]); refine (hv1 _).mono ?_; rintro e wv ⟨rfl, gv⟩; have kv := Kp.trans kw gv; have sv := H48.keep sw gv; obtain ⟨⟨u0, u1, u2, u3⟩, ⟨u4, u5, u6, u7⟩⟩ := id sv) | (go_at_call_of 24 (Value.agg #[.float .f64 L2, .float .f64 H2]); refine (hv2 _).mono ?_; rintro e wz ⟨rfl, gz⟩; have kz := Kp.trans kv gz; have sz := H48.keep sv gz; obtain ⟨⟨v0, v1, v2, v3⟩, ⟨v4, v5, v6, v7⟩⟩ := id sz))
      exact bodyPost_ret (v := .bool _) (by simp [results, Try.results10, go_sem]) rfl ⟨rfl, (by repeat (with_reducible (first | assumption | exact Kp.refl _ | apply Kp.drew | apply Kp.alloc | apply Kp.drewN | (refine Kp.setCell ?_ (by first | omega | (simp <;> omega)) _) | (refine Kp.trans ?_ (by assumption)))))⟩)
theorem sprec9_ (a b c d : Nat) (L1 H1 L2 H2 : Int) (hx : Rd a b L1 H1) (hy : Rd c d L2 H2) (w : World) : Calls Try.prog 10 #[.agg #[.float .f64 a, .float .f64 b], .agg #[.float .f64 c, .float .f64 d]] w fun e w' => e = .returned (.bool (decide (L1 = 9218868437227405312 ∨ L2 = 9218868437227405312 ∨ H1 < L2))) ∧ Kp w w' := by
  have h := sprecA_ a b c d _ _ _ _ hx.call hy.call _ _ _ (void9_ L1 H1 hx.vd) (void9_ L2 H2 hy.vd) rfl w
  rw [plt9 H1 L2 hx.vd.hi hy.vd.lo] at h
  rw [show decide (L1 = 9218868437227405312 ∨ L2 = 9218868437227405312 ∨ H1 < L2) = (decide (L1 = 9218868437227405312) || (decide (L2 = 9218868437227405312) || decide (H1 < L2))) from by simp]
  exact h
set_option maxRecDepth 20000 in
set_option maxHeartbeats 4000000 in
theorem belowA_ (L1 H1 L2 H2 : Nat) (V1 B1 B2 : Bool) (hv1 : ∀ w : World, Calls Try.prog 24 #[.agg #[.float .f64 L2, .float .f64 H2]] w fun e w' => e = .returned (.bool V1) ∧ Kp w w') (t1 : (FloatKind.f64.format.order L1 L2 == some Ordering.lt) = B1) (t2 : (FloatKind.f64.format.order L1 18442240474082181120 == some Ordering.eq) = B2) (w : World) : Calls Try.prog 25 #[.agg #[.float .f64 L1, .float .f64 H1], .agg #[.float .f64 L2, .float .f64 H2]] w fun e w' => e = .returned (.bool (V1 || (B1 || B2))) ∧ Kp w w' := by
  cases V1 <;> cases B1 <;> cases B2
  all_goals (
    go_enter Try.func25, Try.ntmps25
    go_wp2
    refine Fq.wp_region_grow (by kernel_rfl) (by kernel_rfl) (fun ι _ G hG hall => ?_)
    have cc0 : ∀ n, (G n).cell? ⟨w.heap.size, 0, none⟩ = some (.float .f64 L1) := fun n => Fq.gkeep (hG n) (by simp [go_sem])
    have cc1 : ∀ n, (G n).cell? ⟨w.heap.size, 1, none⟩ = some (.float .f64 H1) := fun n => Fq.gkeep (hG n) (by simp [go_sem])
    have cc2 : ∀ n, (G n).cell? ⟨w.heap.size + 1, 0, none⟩ = some (.float .f64 L2) := fun n => Fq.gkeep (hG n) (by simp [go_sem])
    have cc3 : ∀ n, (G n).cell? ⟨w.heap.size + 1, 1, none⟩ = some (.float .f64 H2) := fun n => Fq.gkeep (hG n) (by simp [go_sem])
    have kG : ∀ n, Kp w (G n) := fun n => Kp.trans (((Kp.refl w).alloc _).alloc _) (hG n)
    repeat (go_big_quiet_step (first | (go_at_call 24; exact (hv1 _).mono (fun e w' h => ⟨h.1, hall _ (Fq.gtrans (hG _) h.2)⟩)) | (go_at_call 32; exact (Fq.infm_ _).mono (fun e w' h => ⟨h.1, hall _ (by rw [h.2]; exact hG _)⟩))))
    refine wpQuiet_nil ?_
    rintro _ ⟨nq, rfl⟩
    have gq := kG nq
    clear cc0 cc1 cc2 cc3 hall hG kG
    go_wp2
    exact bodyPost_ret (v := .bool _) (by simp [results, Try.results25, go_sem]) rfl ⟨rfl, gq⟩)
theorem below9_ (L1 H1 L2 H2 : Int) (h1 : VdZ L1 H1) (h2 : VdZ L2 H2) (w : World) : Calls Try.prog 25 #[.agg #[.float .f64 (pw L1), .float .f64 (pw H1)], .agg #[.float .f64 (pw L2), .float .f64 (pw H2)]] w fun e w' => e = .returned (.bool (decide (L2 = 9218868437227405312 ∨ L1 < L2 ∨ L1 = -9218868437227405312))) ∧ Kp w w' := by
  have h := belowA_ (pw L1) (pw H1) (pw L2) (pw H2) _ _ _ (void9_ L2 H2 h2) rfl rfl w
  have e := peq9 L1 (-9218868437227405312) h1.lo (by unfold BdZ; omega)
  rw [pw_MI] at e
  rw [plt9 L1 L2 h1.lo h2.lo, e] at h
  rw [show decide (L2 = 9218868437227405312 ∨ L1 < L2 ∨ L1 = -9218868437227405312) = (decide (L2 = 9218868437227405312) || (decide (L1 < L2) || decide (L1 = -9218868437227405312))) from by simp]
  exact h
set_option maxRecDepth 20000 in
set_option maxHeartbeats 4000000 in
theorem aboveA_ (L1 H1 L2 H2 : Nat) (V1 B1 B2 : Bool) (hv1 : ∀ w : World, Calls Try.prog 24 #[.agg #[.float .f64 L2, .float .f64 H2]] w fun e w' => e = .returned (.bool V1) ∧ Kp w w') (t1 : (FloatKind.f64.format.order H1 H2 == some Ordering.gt) = B1) (t2 : (FloatKind.f64.format.order H1 9218868437227405312 == some Ordering.eq) = B2) (w : World) : Calls Try.prog 26 #[.agg #[.float .f64 L1, .float .f64 H1], .agg #[.float .f64 L2, .float .f64 H2]] w fun e w' => e = .returned (.bool (V1 || (B1 || B2))) ∧ Kp w w' := by
  cases V1 <;> cases B1 <;> cases B2
  all_goals (
    go_enter Try.func26, Try.ntmps26
    go_wp2
    refine Fq.wp_region_grow (by kernel_rfl) (by kernel_rfl) (fun ι _ G hG hall => ?_)
    have cc0 : ∀ n, (G n).cell? ⟨w.heap.size, 0, none⟩ = some (.float .f64 L1) := fun n => Fq.gkeep (hG n) (by simp [go_sem])
    have cc1 : ∀ n, (G n).cell? ⟨w.heap.size, 1, none⟩ = some (.float .f64 H1) := fun n => Fq.gkeep (hG n) (by simp [go_sem])
    have cc2 : ∀ n, (G n).cell? ⟨w.heap.size + 1, 0, none⟩ = some (.float .f64 L2) := fun n => Fq.gkeep (hG n) (by simp [go_sem])
    have cc3 : ∀ n, (G n).cell? ⟨w.heap.size + 1, 1, none⟩ = some (.float .f64 H2) := fun n => Fq.gkeep (hG n) (by simp [go_sem])
    have kG : ∀ n, Kp w (G n) := fun n => Kp.trans (((Kp.refl w).alloc _).alloc _) (hG n)
    repeat (go_big_quiet_step (first | (go_at_call 24; exact (hv1 _).mono (fun e w' h => ⟨h.1, hall _ (Fq.gtrans (hG _) h.2)⟩)) | (go_at_call 32; exact (Fq.inf1_ _).mono (fun e w' h => ⟨h.1, hall _ (by rw [h.2]; exact hG _)⟩))))
    refine wpQuiet_nil ?_
    rintro _ ⟨nq, rfl⟩
    have gq := kG nq
    clear cc0 cc1 cc2 cc3 hall hG kG
    go_wp2
    exact bodyPost_ret (v := .bool _) (by simp [results, Try.results26, go_sem]) rfl ⟨rfl, gq⟩)
theorem above9_ (L1 H1 L2 H2 : Int) (h1 : VdZ L1 H1) (h2 : VdZ L2 H2) (w : World) : Calls Try.prog 26 #[.agg #[.float .f64 (pw L1), .float .f64 (pw H1)], .agg #[.float .f64 (pw L2), .float .f64 (pw H2)]] w fun e w' => e = .returned (.bool (decide (L2 = 9218868437227405312 ∨ H2 < H1 ∨ H1 = 9218868437227405312))) ∧ Kp w w' := by
  have h := aboveA_ (pw L1) (pw H1) (pw L2) (pw H2) _ _ _ (void9_ L2 H2 h2) rfl rfl w
  have e := peq9 H1 9218868437227405312 h1.hi (by unfold BdZ; omega)
  rw [pw_I] at e
  rw [pgt9 H1 H2 h1.hi h2.hi, e] at h
  rw [show decide (L2 = 9218868437227405312 ∨ H2 < H1 ∨ H1 = 9218868437227405312) = (decide (L2 = 9218868437227405312) || (decide (H2 < H1) || decide (H1 = 9218868437227405312))) from by simp]
  exact h
set_option maxRecDepth 20000 in
set_option maxHeartbeats 4000000 in
theorem interiorA_ (a b c d L1 H1 L2 H2 : Nat) (hx : ∀ w : World, Calls Try.prog 23 #[.agg #[.float .f64 a, .float .f64 b]] w fun e w' => e = .returned (.agg #[.float .f64 L1, .float .f64 H1]) ∧ Kp w w') (hy : ∀ w : World, Calls Try.prog 23 #[.agg #[.float .f64 c, .float .f64 d]] w fun e w' => e = .returned (.agg #[.float .f64 L2, .float .f64 H2]) ∧ Kp w w') (V1 V2 : Bool) (hc1 : ∀ w : World, Calls Try.prog 25 #[.agg #[.float .f64 L2, .float .f64 H2], .agg #[.float .f64 L1, .float .f64 H1]] w fun e w' => e = .returned (.bool V1) ∧ Kp w w') (hc2 : ∀ w : World, Calls Try.prog 26 #[.agg #[.float .f64 L2, .float .f64 H2], .agg #[.float .f64 L1, .float .f64 H1]] w fun e w' => e = .returned (.bool V2) ∧ Kp w w') (w : World) : Calls Try.prog 14 #[.agg #[.float .f64 a, .float .f64 b], .agg #[.float .f64 c, .float .f64 d]] w fun e w' => e = .returned (.bool (V1 && V2)) ∧ Kp w w' := by
    go_enter Try.func14, Try.ntmps14
    go_upto_region 1 with fail
    go_cut [] (fun wx => H48 wx w.heap.size (.float .f64 L1) (.float .f64 H1) (.float .f64 L2) (.float .f64 H2) ∧ Kp w wx)
    case first =>
      go_region_with (first | (go_at_call_of 23 (Value.agg #[.float .f64 a, .float .f64 b]); refine (hx _).mono ?_; rintro e wx ⟨rfl, gx⟩; first | (have kx := Kp.trans ky gx; have sx := H48.keep sy gx; obtain ⟨⟨p0, p1, p2, p3⟩, ⟨p4, p5, p6, p7⟩⟩ := id sx) | (have kx : Kp w wx := Kp.trans (((Kp.refl w).alloc _).alloc _).drew gx; have sx := H48.keep (H48.new w (.float .f64 a) (.float .f64 b) (.float .f64 c) (.float .f64 d) 34 34) (Kp.trans (Kp.drew (Kp.refl _)) gx); obtain ⟨⟨p0, p1, p2, p3⟩, ⟨p4, p5, p6, p7⟩⟩ := id sx)) | (go_at_call_of 23 (Value.agg #[.float .f64 c, .float .f64 d]); refine (hy _).mono ?_; rintro e wy ⟨rfl, gy⟩; first | (have ky := Kp.trans kx gy; have sy := H48.keep sx gy; obtain ⟨⟨p0, p1, p2, p3⟩, ⟨p4, p5, p6, p7⟩⟩ := id sy) | (have ky : Kp w wy := Kp.trans (((Kp.refl w).alloc _).alloc _).drew gy; have sy := H48.keep (H48.new w (.float .f64 a) (.float .f64 b) (.float .f64 c) (.float .f64 d) 34 34) (Kp.trans (Kp.drew (Kp.refl _)) gy); obtain ⟨⟨p0, p1, p2, p3⟩, ⟨p4, p5, p6, p7⟩⟩ := id sy)))
      all_goals (
        go_wp2_with fail
        go_meet
        first | (exact ⟨H48.put (id sy : H48 wy w.heap.size (.float .f64 a) (.float .f64 b) (.float .f64 c) (.float .f64 d)) (.float .f64 L1) (.float .f64 H1) (.float .f64 L2) (.float .f64 H2), (((ky.setCell (Nat.le_refl _) _).setCell (Nat.le_refl _) _).setCell (Nat.le_succ _) _).setCell (Nat.le_succ _) _⟩) | (exact ⟨H48.put (id sx : H48 wx w.heap.size (.float .f64 a) (.float .f64 b) (.float .f64 c) (.float .f64 d)) (.float .f64 L1) (.float .f64 H1) (.float .f64 L2) (.float .f64 H2), (((kx.setCell (Nat.le_refl _) _).setCell (Nat.le_refl _) _).setCell (Nat.le_succ _) _).setCell (Nat.le_succ _) _⟩))
    case rest =>
    obtain ⟨sw, kw⟩ := hcut
    obtain ⟨⟨p0, p1, p2, p3⟩, ⟨p4, p5, p6, p7⟩⟩ := id sw
    cases V1
    all_goals (
      go_wp2_with (first | (go_at_call 25; refine (hc1 _).mono ?_; rintro e wv ⟨rfl, gv⟩; have kv := Kp.trans kw gv; have sv := H48.keep sw gv; obtain ⟨⟨u0, u1, u2, u3⟩, ⟨u4, u5, u6, u7⟩⟩ := id sv) | (go_at_call 26; refine (hc2 _).mono ?_; rintro e wz ⟨rfl, gz⟩; have kz := Kp.trans kv gz))
      exact bodyPost_ret (v := .bool _) (by simp [results, Try.results14, go_sem]) rfl ⟨rfl, (by repeat (with_reducible (first | assumption | exact Kp.refl _ | apply Kp.drew | apply Kp.alloc | apply Kp.drewN | (refine Kp.setCell ?_ (by first | omega | (simp <;> omega)) _) | (refine Kp.trans ?_ (by assumption)))))⟩)
theorem interior9_ (a b c d : Nat) (L1 H1 L2 H2 : Int) (hx : Rd a b L1 H1) (hy : Rd c d L2 H2) (w : World) : Calls Try.prog 14 #[.agg #[.float .f64 a, .float .f64 b], .agg #[.float .f64 c, .float .f64 d]] w fun e w' => e = .returned (.bool (decide ((L1 = 9218868437227405312 ∨ L2 < L1 ∨ L2 = -9218868437227405312) ∧ (L1 = 9218868437227405312 ∨ H1 < H2 ∨ H2 = 9218868437227405312)))) ∧ Kp w w' := by
  have h := interiorA_ a b c d _ _ _ _ hx.call hy.call _ _ (below9_ L2 H2 L1 H1 hy.vd hx.vd) (above9_ L2 H2 L1 H1 hy.vd hx.vd) w
  rw [show decide ((L1 = 9218868437227405312 ∨ L2 < L1 ∨ L2 = -9218868437227405312) ∧ (L1 = 9218868437227405312 ∨ H1 < H2 ∨ H2 = 9218868437227405312)) = (decide (L1 = 9218868437227405312 ∨ L2 < L1 ∨ L2 = -9218868437227405312) && decide (L1 = 9218868437227405312 ∨ H1 < H2 ∨ H2 = 9218868437227405312)) from by simp]
  exact h
end Go.Proofs.Ytpgaokifmaoamaa
