import Derived.Test.YtnjbheammpdjfaaProg
import Derived.Test.YtnjbheammpdjfaaKXA0
import Derived.Test.YtnjbheammpdjfaaKXQF
import Derived.Test.YtnjbheammpdjfaaKQA
import Derived.Test.YtnjbheammpdjfaaKXQU
import Derived.Test.YtnjbheammpdjfaaKXEA
import Derived.Test.YtnjbheammpdjfaaKXNR
import Derived.Test.YtnjbheammpdjfaaKXNS9
import Derived.WalkKit
import Derived.ProofKit
import Derived.RowKit3
import Derived.WalkSpells
import Derived.StillTactics
import Derived.Deep.QuietTactic
import Derived.BigQuiet
import Derived.Below
import Derived.Deep.OwnRows
import Derived.OwnWalk
import Derived.Laws.BitsAllLaws
import Derived.Laws.Slices
import Derived.Laws.Bits64b
import Derived.Laws.FloatArith
import Derived.Deep.RegionHeld3
import Derived.Deep.CutRange
import Derived.Deep.DeepCutAuto
namespace Go.Proofs.Ytnjbheammpdjfaa
open Go.RowKit

def upN (L1 H1 L2 H2 : Int) : Int := if L1 = L2 ∧ H1 = H2 then 9 else if H1 = H2 then 8 else if L2 < L1 then 7 else if L1 = L2 then 6 else if L2 < H1 then 5 else if H1 = L2 then 4 else 3
/-- the state of two -/
def ovN (L1 H1 L2 H2 : Int) : Int := if L1 = 9218868437227405312 then (if L2 = 9218868437227405312 then 0 else 1) else if L2 = 9218868437227405312 then 2 else if H1 < H2 ∨ (H1 = H2 ∧ L2 ≤ L1) then upN L1 H1 L2 H2 else 18 - upN L2 H2 L1 H1
theorem upN_bd (L1 H1 L2 H2 : Int) : 3 ≤ upN L1 H1 L2 H2 ∧ upN L1 H1 L2 H2 ≤ 9 := by
  unfold upN; repeat' split
  all_goals omega
set_option maxRecDepth 20000 in
set_option maxHeartbeats 4000000 in
theorem upA_ (L1 H1 L2 H2 : Nat) (E1 E2 B2 B4 B5 : Bool) (t1 : (FloatKind.f64.format.order L1 L2 == some Ordering.eq) = E1) (t2 : (FloatKind.f64.format.order H1 H2 == some Ordering.eq) = E2) (t3 : (FloatKind.f64.format.order L1 L2 == some Ordering.gt) = B2) (t4 : (FloatKind.f64.format.order H1 L2 == some Ordering.gt) = B4) (t5 : (FloatKind.f64.format.order H1 L2 == some Ordering.eq) = B5) (w : World) : Calls Try.prog 43 #[.agg #[.float .f64 L1, .float .f64 H1], .agg #[.float .f64 L2, .float .f64 H2]] w fun e w' => e = .returned (.int .i64 (if E2 then (if E1 then 9 else 8) else if B2 then 7 else if E1 then 6 else if B4 then 5 else if B5 then 4 else 3)) ∧ Kp w w' := by
  have q1 := Fq.eqInR L1 L2
  have q2 := Fq.eqInR H1 H2
  rw [t1] at q1
  rw [t2] at q2
  cases E2
  · cases B2
    · cases E1
      · cases B4
        · cases B5
          · (
      go_enter Try.func43, Try.ntmps43
      go_wp2
      exact bodyPost_ret (v := .int .i64 3) (by simp [results, Try.results43, go_sem]) rfl ⟨rfl, (by repeat (with_reducible (first | assumption | exact Kp.refl _ | apply Kp.drew | apply Kp.alloc | apply Kp.drewN | (refine Kp.setCell ?_ (by first | omega | (simp <;> omega)) _) | (refine Kp.trans ?_ (by assumption)))))⟩)
          · (
      go_enter Try.func43, Try.ntmps43
      go_wp2
      exact bodyPost_ret (v := .int .i64 4) (by simp [results, Try.results43, go_sem]) rfl ⟨rfl, (by repeat (with_reducible (first | assumption | exact Kp.refl _ | apply Kp.drew | apply Kp.alloc | apply Kp.drewN | (refine Kp.setCell ?_ (by first | omega | (simp <;> omega)) _) | (refine Kp.trans ?_ (by assumption)))))⟩)
        · (
      go_enter Try.func43, Try.ntmps43
      go_wp2
      exact bodyPost_ret (v := .int .i64 5) (by simp [results, Try.results43, go_sem]) rfl ⟨rfl, (by repeat (with_reducible (first | assumption | exact Kp.refl _ | apply Kp.drew | apply Kp.alloc | apply Kp.drewN | (refine Kp.setCell ?_ (by first | omega | (simp <;> omega)) _) | (refine Kp.trans ?_ (by assumption)))))⟩)
      · (
      go_enter Try.func43, Try.ntmps43
      go_wp2
      exact bodyPost_ret (v := .int .i64 6) (by simp [results, Try.results43, go_sem]) rfl ⟨rfl, (by repeat (with_reducible (first | assumption | exact Kp.refl _ | apply Kp.drew | apply Kp.alloc | apply Kp.drewN | (refine Kp.setCell ?_ (by first | omega | (simp <;> omega)) _) | (refine Kp.trans ?_ (by assumption)))))⟩)
    · cases E1
      · (
      go_enter Try.func43, Try.ntmps43
      go_wp2
      exact bodyPost_ret (v := .int .i64 7) (by simp [results, Try.results43, go_sem]) rfl ⟨rfl, (by repeat (with_reducible (first | assumption | exact Kp.refl _ | apply Kp.drew | apply Kp.alloc | apply Kp.drewN | (refine Kp.setCell ?_ (by first | omega | (simp <;> omega)) _) | (refine Kp.trans ?_ (by assumption)))))⟩)
      · (
      go_enter Try.func43, Try.ntmps43
      go_wp2
      exact bodyPost_ret (v := .int .i64 7) (by simp [results, Try.results43, go_sem]) rfl ⟨rfl, (by repeat (with_reducible (first | assumption | exact Kp.refl _ | apply Kp.drew | apply Kp.alloc | apply Kp.drewN | (refine Kp.setCell ?_ (by first | omega | (simp <;> omega)) _) | (refine Kp.trans ?_ (by assumption)))))⟩)
  · cases E1
    · (
      go_enter Try.func43, Try.ntmps43
      go_wp2
      exact bodyPost_ret (v := .int .i64 8) (by simp [results, Try.results43, go_sem]) rfl ⟨rfl, (by repeat (with_reducible (first | assumption | exact Kp.refl _ | apply Kp.drew | apply Kp.alloc | apply Kp.drewN | (refine Kp.setCell ?_ (by first | omega | (simp <;> omega)) _) | (refine Kp.trans ?_ (by assumption)))))⟩)
    · (
      go_enter Try.func43, Try.ntmps43
      go_wp2
      exact bodyPost_ret (v := .int .i64 9) (by simp [results, Try.results43, go_sem]) rfl ⟨rfl, (by repeat (with_reducible (first | assumption | exact Kp.refl _ | apply Kp.drew | apply Kp.alloc | apply Kp.drewN | (refine Kp.setCell ?_ (by first | omega | (simp <;> omega)) _) | (refine Kp.trans ?_ (by assumption)))))⟩)
theorem up9_ (L1 H1 L2 H2 : Int) (h1 : VdZ L1 H1) (h2 : VdZ L2 H2) (w : World) : Calls Try.prog 43 #[.agg #[.float .f64 (pw L1), .float .f64 (pw H1)], .agg #[.float .f64 (pw L2), .float .f64 (pw H2)]] w fun e w' => e = .returned (.int .i64 (upN L1 H1 L2 H2)) ∧ Kp w w' := by
  have h := upA_ (pw L1) (pw H1) (pw L2) (pw H2) _ _ _ _ _ rfl rfl rfl rfl rfl w
  rw [peq9 L1 L2 h1.lo h2.lo, peq9 H1 H2 h1.hi h2.hi, pgt9 L1 L2 h1.lo h2.lo, pgt9 H1 L2 h1.hi h2.lo, peq9 H1 L2 h1.hi h2.lo] at h
  have e : (if decide (H1 = H2) = true then (if decide (L1 = L2) = true then (9 : Int) else 8) else if decide (L2 < L1) = true then 7 else if decide (L1 = L2) = true then 6 else if decide (L2 < H1) = true then 5 else if decide (H1 = L2) = true then 4 else 3) = upN L1 H1 L2 H2 := by
    unfold upN
    simp only [decide_eq_true_eq]
    by_cases c1 : L1 = L2 <;> by_cases c2 : H1 = H2 <;> simp [c1, c2]
  rw [e] at h
  exact h
set_option maxRecDepth 20000 in
set_option maxHeartbeats 4000000 in
theorem ov00_ (a b c d L1 H1 L2 H2 : Nat) (hx : ∀ w : World, Calls Try.prog 37 #[.agg #[.float .f64 a, .float .f64 b]] w fun e w' => e = .returned (.agg #[.float .f64 L1, .float .f64 H1]) ∧ Kp w w') (hy : ∀ w : World, Calls Try.prog 37 #[.agg #[.float .f64 c, .float .f64 d]] w fun e w' => e = .returned (.agg #[.float .f64 L2, .float .f64 H2]) ∧ Kp w w') (hv1 : ∀ w : World, Calls Try.prog 40 #[.agg #[.float .f64 L1, .float .f64 H1]] w fun e w' => e = .returned (.bool true) ∧ Kp w w') (hv2 : ∀ w : World, Calls Try.prog 40 #[.agg #[.float .f64 L2, .float .f64 H2]] w fun e w' => e = .returned (.bool true) ∧ Kp w w')  (w : World) : Calls Try.prog 23 #[.agg #[.float .f64 a, .float .f64 b], .agg #[.float .f64 c, .float .f64 d]] w fun e w' => e = .returned (.int .i64 (0)) ∧ Kp w w' := by
    go_enter Try.func23, Try.ntmps23
    go_upto_region 1 with fail
    go_cut [] (fun wx => H48 wx w.heap.size (.float .f64 L1) (.float .f64 H1) (.float .f64 L2) (.float .f64 H2) ∧ Kp w wx)
    case first =>
      go_region_with (first | (go_at_call_of 37 (Value.agg #[.float .f64 a, .float .f64 b]); refine (hx _).mono ?_; rintro e wx ⟨rfl, gx⟩; first | (have kx := Kp.trans ky gx; have sx := H48.keep sy gx; obtain ⟨⟨p0, p1, p2, p3⟩, ⟨p4, p5, p6, p7⟩⟩ := id sx) | (have kx : Kp w wx := Kp.trans (((Kp.refl w).alloc _).alloc _).drew gx; have sx := H48.keep (H48.new w (.float .f64 a) (.float .f64 b) (.float .f64 c) (.float .f64 d) 25 25) (Kp.trans (Kp.drew (Kp.refl _)) gx); obtain ⟨⟨p0, p1, p2, p3⟩, ⟨p4, p5, p6, p7⟩⟩ := id sx)) | (go_at_call_of 37 (Value.agg #[.float .f64 c, .float .f64 d]); refine (hy _).mono ?_; rintro e wy ⟨rfl, gy⟩; first | (have ky := Kp.trans kx gy; have sy := H48.keep sx gy; obtain ⟨⟨p0, p1, p2, p3⟩, ⟨p4, p5, p6, p7⟩⟩ := id sy) | (have ky : Kp w wy := Kp.trans (((Kp.refl w).alloc _).alloc _).drew gy; have sy := H48.keep (H48.new w (.float .f64 a) (.float .f64 b) (.float .f64 c) (.float .f64 d) 25 25) (Kp.trans (Kp.drew (Kp.refl _)) gy); obtain ⟨⟨p0, p1, p2, p3⟩, ⟨p4, p5, p6, p7⟩⟩ := id sy)))
      all_goals (
        go_wp2_with fail
        go_meet
        first | (exact ⟨H48.put (id sy : H48 wy w.heap.size (.float .f64 a) (.float .f64 b) (.float .f64 c) (.float .f64 d)) (.float .f64 L1) (.float .f64 H1) (.float .f64 L2) (.float .f64 H2), (((ky.setCell (Nat.le_refl _) _).setCell (Nat.le_refl _) _).setCell (Nat.le_succ _) _).setCell (Nat.le_succ _) _⟩) | (exact ⟨H48.put (id sx : H48 wx w.heap.size (.float .f64 a) (.float .f64 b) (.float .f64 c) (.float .f64 d)) (.float .f64 L1) (.float .f64 H1) (.float .f64 L2) (.float .f64 H2), (((kx.setCell (Nat.le_refl _) _).setCell (Nat.le_refl _) _).setCell (Nat.le_succ _) _).setCell (Nat.le_succ _) _⟩))
    case rest =>
    obtain ⟨sw, kw⟩ := hcut
    obtain ⟨⟨p0, p1, p2, p3⟩, ⟨p4, p5, p6, p7⟩⟩ := id sw
    go_wp2_with (first | (go_at_call_of 40 (Value.agg #[.float .f64 L1, .float .f64 H1]); refine (hv1 _).mono ?_; rintro e wv ⟨rfl, gv⟩; replace kw := Kp.trans kw gv; replace sw := H48.keep sw gv; clear p0 p1 p2 p3 p4 p5 p6 p7; obtain ⟨⟨p0, p1, p2, p3⟩, ⟨p4, p5, p6, p7⟩⟩ := id sw) | (go_at_call_of 40 (Value.agg #[.float .f64 L2, .float .f64 H2]); refine (hv2 _).mono ?_; rintro e wv ⟨rfl, gv⟩; replace kw := Kp.trans kw gv; replace sw := H48.keep sw gv; clear p0 p1 p2 p3 p4 p5 p6 p7; obtain ⟨⟨p0, p1, p2, p3⟩, ⟨p4, p5, p6, p7⟩⟩ := id sw))
    exact bodyPost_ret (v := .int .i64 (0)) (by simp [results, Try.results23, go_sem]) rfl ⟨rfl, kw⟩
set_option maxRecDepth 20000 in
set_option maxHeartbeats 4000000 in
theorem ov01_ (a b c d L1 H1 L2 H2 : Nat) (hx : ∀ w : World, Calls Try.prog 37 #[.agg #[.float .f64 a, .float .f64 b]] w fun e w' => e = .returned (.agg #[.float .f64 L1, .float .f64 H1]) ∧ Kp w w') (hy : ∀ w : World, Calls Try.prog 37 #[.agg #[.float .f64 c, .float .f64 d]] w fun e w' => e = .returned (.agg #[.float .f64 L2, .float .f64 H2]) ∧ Kp w w') (hv1 : ∀ w : World, Calls Try.prog 40 #[.agg #[.float .f64 L1, .float .f64 H1]] w fun e w' => e = .returned (.bool true) ∧ Kp w w') (hv2 : ∀ w : World, Calls Try.prog 40 #[.agg #[.float .f64 L2, .float .f64 H2]] w fun e w' => e = .returned (.bool false) ∧ Kp w w')  (w : World) : Calls Try.prog 23 #[.agg #[.float .f64 a, .float .f64 b], .agg #[.float .f64 c, .float .f64 d]] w fun e w' => e = .returned (.int .i64 (1)) ∧ Kp w w' := by
    go_enter Try.func23, Try.ntmps23
    go_upto_region 1 with fail
    go_cut [] (fun wx => H48 wx w.heap.size (.float .f64 L1) (.float .f64 H1) (.float .f64 L2) (.float .f64 H2) ∧ Kp w wx)
    case first =>
      go_region_with (first | (go_at_call_of 37 (Value.agg #[.float .f64 a, .float .f64 b]); refine (hx _).mono ?_; rintro e wx ⟨rfl, gx⟩; first | (have kx := Kp.trans ky gx; have sx := H48.keep sy gx; obtain ⟨⟨p0, p1, p2, p3⟩, ⟨p4, p5, p6, p7⟩⟩ := id sx) | (have kx : Kp w wx := Kp.trans (((Kp.refl w).alloc _).alloc _).drew gx; have sx := H48.keep (H48.new w (.float .f64 a) (.float .f64 b) (.float .f64 c) (.float .f64 d) 25 25) (Kp.trans (Kp.drew (Kp.refl _)) gx); obtain ⟨⟨p0, p1, p2, p3⟩, ⟨p4, p5, p6, p7⟩⟩ := id sx)) | (go_at_call_of 37 (Value.agg #[.float .f64 c, .float .f64 d]); refine (hy _).mono ?_; rintro e wy ⟨rfl, gy⟩; first | (have ky := Kp.trans kx gy; have sy := H48.keep sx gy; obtain ⟨⟨p0, p1, p2, p3⟩, ⟨p4, p5, p6, p7⟩⟩ := id sy) | (have ky : Kp w wy := Kp.trans (((Kp.refl w).alloc _).alloc _).drew gy; have sy := H48.keep (H48.new w (.float .f64 a) (.float .f64 b) (.float .f64 c) (.float .f64 d) 25 25) (Kp.trans (Kp.drew (Kp.refl _)) gy); obtain ⟨⟨p0, p1, p2, p3⟩, ⟨p4, p5, p6, p7⟩⟩ := id sy)))
      all_goals (
        go_wp2_with fail
        go_meet
        first | (exact ⟨H48.put (id sy : H48 wy w.heap.size (.float .f64 a) (.float .f64 b) (.float .f64 c) (.float .f64 d)) (.float .f64 L1) (.float .f64 H1) (.float .f64 L2) (.float .f64 H2), (((ky.setCell (Nat.le_refl _) _).setCell (Nat.le_refl _) _).setCell (Nat.le_succ _) _).setCell (Nat.le_succ _) _⟩) | (exact ⟨H48.put (id sx : H48 wx w.heap.size (.float .f64 a) (.float .f64 b) (.float .f64 c) (.float .f64 d)) (.float .f64 L1) (.float .f64 H1) (.float .f64 L2) (.float .f64 H2), (((kx.setCell (Nat.le_refl _) _).setCell (Nat.le_refl _) _).setCell (Nat.le_succ _) _).setCell (Nat.le_succ _) _⟩))
    case rest =>
    obtain ⟨sw, kw⟩ := hcut
    obtain ⟨⟨p0, p1, p2, p3⟩, ⟨p4, p5, p6, p7⟩⟩ := id sw
    go_wp2_with (first | (go_at_call_of 40 (Value.agg #[.float .f64 L1, .float .f64 H1]); refine (hv1 _).mono ?_; rintro e wv ⟨rfl, gv⟩; replace kw := Kp.trans kw gv; replace sw := H48.keep sw gv; clear p0 p1 p2 p3 p4 p5 p6 p7; obtain ⟨⟨p0, p1, p2, p3⟩, ⟨p4, p5, p6, p7⟩⟩ := id sw) | (go_at_call_of 40 (Value.agg #[.float .f64 L2, .float .f64 H2]); refine (hv2 _).mono ?_; rintro e wv ⟨rfl, gv⟩; replace kw := Kp.trans kw gv; replace sw := H48.keep sw gv; clear p0 p1 p2 p3 p4 p5 p6 p7; obtain ⟨⟨p0, p1, p2, p3⟩, ⟨p4, p5, p6, p7⟩⟩ := id sw))
    exact bodyPost_ret (v := .int .i64 (1)) (by simp [results, Try.results23, go_sem]) rfl ⟨rfl, kw⟩
set_option maxRecDepth 20000 in
set_option maxHeartbeats 4000000 in
theorem ov10_ (a b c d L1 H1 L2 H2 : Nat) (hx : ∀ w : World, Calls Try.prog 37 #[.agg #[.float .f64 a, .float .f64 b]] w fun e w' => e = .returned (.agg #[.float .f64 L1, .float .f64 H1]) ∧ Kp w w') (hy : ∀ w : World, Calls Try.prog 37 #[.agg #[.float .f64 c, .float .f64 d]] w fun e w' => e = .returned (.agg #[.float .f64 L2, .float .f64 H2]) ∧ Kp w w') (hv1 : ∀ w : World, Calls Try.prog 40 #[.agg #[.float .f64 L1, .float .f64 H1]] w fun e w' => e = .returned (.bool false) ∧ Kp w w') (hv2 : ∀ w : World, Calls Try.prog 40 #[.agg #[.float .f64 L2, .float .f64 H2]] w fun e w' => e = .returned (.bool true) ∧ Kp w w')  (w : World) : Calls Try.prog 23 #[.agg #[.float .f64 a, .float .f64 b], .agg #[.float .f64 c, .float .f64 d]] w fun e w' => e = .returned (.int .i64 (2)) ∧ Kp w w' := by
    go_enter Try.func23, Try.ntmps23
    go_upto_region 1 with fail
    go_cut [] (fun wx => H48 wx w.heap.size (.float .f64 L1) (.float .f64 H1) (.float .f64 L2) (.float .f64 H2) ∧ Kp w wx)
    case first =>
      go_region_with (first | (go_at_call_of 37 (Value.agg #[.float .f64 a, .float .f64 b]); refine (hx _).mono ?_; rintro e wx ⟨rfl, gx⟩; first | (have kx := Kp.trans ky gx; have sx := H48.keep sy gx; obtain ⟨⟨p0, p1, p2, p3⟩, ⟨p4, p5, p6, p7⟩⟩ := id sx) | (have kx : Kp w wx := Kp.trans (((Kp.refl w).alloc _).alloc _).drew gx; have sx := H48.keep (H48.new w (.float .f64 a) (.float .f64 b) (.float .f64 c) (.float .f64 d) 25 25) (Kp.trans (Kp.drew (Kp.refl _)) gx); obtain ⟨⟨p0, p1, p2, p3⟩, ⟨p4, p5, p6, p7⟩⟩ := id sx)) | (go_at_call_of 37 (Value.agg #[.float .f64 c, .float .f64 d]); refine (hy _).mono ?_; rintro e wy ⟨rfl, gy⟩; first | (have ky := Kp.trans kx gy; have sy := H48.keep sx gy; obtain ⟨⟨p0, p1, p2, p3⟩, ⟨p4, p5, p6, p7⟩⟩ := id sy) | (have ky : Kp w wy := Kp.trans (((Kp.refl w).alloc _).alloc _).drew gy; have sy := H48.keep (H48.new w (.float .f64 a) (.float .f64 b) (.float .f64 c) (.float .f64 d) 25 25) (Kp.trans (Kp.drew (Kp.refl _)) gy); obtain ⟨⟨p0, p1, p2, p3⟩, ⟨p4, p5, p6, p7⟩⟩ := id sy)))
      all_goals (
        go_wp2_with fail
        go_meet
        first | (exact ⟨H48.put (id sy : H48 wy w.heap.size (.float .f64 a) (.float .f64 b) (.float .f64 c) (.float .f64 d)) (.float .f64 L1) (.float .f64 H1) (.float .f64 L2) (.float .f64 H2), (((ky.setCell (Nat.le_refl _) _).setCell (Nat.le_refl _) _).setCell (Nat.le_succ _) _).setCell (Nat.le_succ _) _⟩) | (exact ⟨H48.put (id sx : H48 wx w.heap.size (.float .f64 a) (.float .f64 b) (.float .f64 c) (.float .f64 d)) (.float .f64 L1) (.float .f64 H1) (.float .f64 L2) (.float .f64 H2), (((kx.setCell (Nat.le_refl _) _).setCell (Nat.le_refl _) _).setCell (Nat.le_succ _) _).setCell (Nat.le_succ _) _⟩))
    case rest =>
    obtain ⟨sw, kw⟩ := hcut
    obtain ⟨⟨p0, p1, p2, p3⟩, ⟨p4, p5, p6, p7⟩⟩ := id sw
    go_wp2_with (first | (go_at_call_of 40 (Value.agg #[.float .f64 L1, .float .f64 H1]); refine (hv1 _).mono ?_; rintro e wv ⟨rfl, gv⟩; replace kw := Kp.trans kw gv; replace sw := H48.keep sw gv; clear p0 p1 p2 p3 p4 p5 p6 p7; obtain ⟨⟨p0, p1, p2, p3⟩, ⟨p4, p5, p6, p7⟩⟩ := id sw) | (go_at_call_of 40 (Value.agg #[.float .f64 L2, .float .f64 H2]); refine (hv2 _).mono ?_; rintro e wv ⟨rfl, gv⟩; replace kw := Kp.trans kw gv; replace sw := H48.keep sw gv; clear p0 p1 p2 p3 p4 p5 p6 p7; obtain ⟨⟨p0, p1, p2, p3⟩, ⟨p4, p5, p6, p7⟩⟩ := id sw))
    exact bodyPost_ret (v := .int .i64 (2)) (by simp [results, Try.results23, go_sem]) rfl ⟨rfl, kw⟩
set_option maxRecDepth 20000 in
set_option maxHeartbeats 4000000 in
theorem ovA_ (a b c d L1 H1 L2 H2 : Nat) (hx : ∀ w : World, Calls Try.prog 37 #[.agg #[.float .f64 a, .float .f64 b]] w fun e w' => e = .returned (.agg #[.float .f64 L1, .float .f64 H1]) ∧ Kp w w') (hy : ∀ w : World, Calls Try.prog 37 #[.agg #[.float .f64 c, .float .f64 d]] w fun e w' => e = .returned (.agg #[.float .f64 L2, .float .f64 H2]) ∧ Kp w w') (hv1 : ∀ w : World, Calls Try.prog 40 #[.agg #[.float .f64 L1, .float .f64 H1]] w fun e w' => e = .returned (.bool false) ∧ Kp w w') (hv2 : ∀ w : World, Calls Try.prog 40 #[.agg #[.float .f64 L2, .float .f64 H2]] w fun e w' => e = .returned (.bool false) ∧ Kp w w') (t1 : (FloatKind.f64.format.order H1 H2 == some Ordering.lt) = true) (U : Int) (hu1 : ∀ w : World, Calls Try.prog 43 #[.agg #[.float .f64 L1, .float .f64 H1], .agg #[.float .f64 L2, .float .f64 H2]] w fun e w' => e = .returned (.int .i64 U) ∧ Kp w w') (w : World) : Calls Try.prog 23 #[.agg #[.float .f64 a, .float .f64 b], .agg #[.float .f64 c, .float .f64 d]] w fun e w' => e = .returned (.int .i64 (U)) ∧ Kp w w' := by
    go_enter Try.func23, Try.ntmps23
    go_upto_region 1 with fail
    go_cut [] (fun wx => H48 wx w.heap.size (.float .f64 L1) (.float .f64 H1) (.float .f64 L2) (.float .f64 H2) ∧ Kp w wx)
    case first =>
      go_region_with (first | (go_at_call_of 37 (Value.agg #[.float .f64 a, .float .f64 b]); refine (hx _).mono ?_; rintro e wx ⟨rfl, gx⟩; first | (have kx := Kp.trans ky gx; have sx := H48.keep sy gx; obtain ⟨⟨p0, p1, p2, p3⟩, ⟨p4, p5, p6, p7⟩⟩ := id sx) | (have kx : Kp w wx := Kp.trans (((Kp.refl w).alloc _).alloc _).drew gx; have sx := H48.keep (H48.new w (.float .f64 a) (.float .f64 b) (.float .f64 c) (.float .f64 d) 25 25) (Kp.trans (Kp.drew (Kp.refl _)) gx); obtain ⟨⟨p0, p1, p2, p3⟩, ⟨p4, p5, p6, p7⟩⟩ := id sx)) | (go_at_call_of 37 (Value.agg #[.float .f64 c, .float .f64 d]); refine (hy _).mono ?_; rintro e wy ⟨rfl, gy⟩; first | (have ky := Kp.trans kx gy; have sy := H48.keep sx gy; obtain ⟨⟨p0, p1, p2, p3⟩, ⟨p4, p5, p6, p7⟩⟩ := id sy) | (have ky : Kp w wy := Kp.trans (((Kp.refl w).alloc _).alloc _).drew gy; have sy := H48.keep (H48.new w (.float .f64 a) (.float .f64 b) (.float .f64 c) (.float .f64 d) 25 25) (Kp.trans (Kp.drew (Kp.refl _)) gy); obtain ⟨⟨p0, p1, p2, p3⟩, ⟨p4, p5, p6, p7⟩⟩ := id sy)))
      all_goals (
        go_wp2_with fail
        go_meet
        first | (exact ⟨H48.put (id sy : H48 wy w.heap.size (.float .f64 a) (.float .f64 b) (.float .f64 c) (.float .f64 d)) (.float .f64 L1) (.float .f64 H1) (.float .f64 L2) (.float .f64 H2), (((ky.setCell (Nat.le_refl _) _).setCell (Nat.le_refl _) _).setCell (Nat.le_succ _) _).setCell (Nat.le_succ _) _⟩) | (exact ⟨H48.put (id sx : H48 wx w.heap.size (.float .f64 a) (.float .f64 b) (.float .f64 c) (.float .f64 d)) (.float .f64 L1) (.float .f64 H1) (.float .f64 L2) (.float .f64 H2), (((kx.setCell (Nat.le_refl _) _).setCell (Nat.le_refl _) _).setCell (Nat.le_succ _) _).setCell (Nat.le_succ _) _⟩))
    case rest =>
    obtain ⟨sw, kw⟩ := hcut
    obtain ⟨⟨p0, p1, p2, p3⟩, ⟨p4, p5, p6, p7⟩⟩ := id sw
    go_wp2_with (first | (go_at_call_of 40 (Value.agg #[.float .f64 L1, .float .f64 H1]); refine (hv1 _).mono ?_; rintro e wv ⟨rfl, gv⟩; replace kw := Kp.trans kw gv; replace sw := H48.keep sw gv; clear p0 p1 p2 p3 p4 p5 p6 p7; obtain ⟨⟨p0, p1, p2, p3⟩, ⟨p4, p5, p6, p7⟩⟩ := id sw) | (go_at_call_of 40 (Value.agg #[.float .f64 L2, .float .f64 H2]); refine (hv2 _).mono ?_; rintro e wv ⟨rfl, gv⟩; replace kw := Kp.trans kw gv; replace sw := H48.keep sw gv; clear p0 p1 p2 p3 p4 p5 p6 p7; obtain ⟨⟨p0, p1, p2, p3⟩, ⟨p4, p5, p6, p7⟩⟩ := id sw) | (go_at_call 43; refine (hu1 _).mono ?_; rintro e wu ⟨rfl, gu⟩; replace kw := Kp.trans kw gu))
    exact bodyPost_ret (v := .int .i64 (U)) (by simp [results, Try.results23, go_sem]) rfl ⟨rfl, kw⟩
set_option maxRecDepth 20000 in
set_option maxHeartbeats 4000000 in
theorem ovB_ (a b c d L1 H1 L2 H2 : Nat) (hx : ∀ w : World, Calls Try.prog 37 #[.agg #[.float .f64 a, .float .f64 b]] w fun e w' => e = .returned (.agg #[.float .f64 L1, .float .f64 H1]) ∧ Kp w w') (hy : ∀ w : World, Calls Try.prog 37 #[.agg #[.float .f64 c, .float .f64 d]] w fun e w' => e = .returned (.agg #[.float .f64 L2, .float .f64 H2]) ∧ Kp w w') (hv1 : ∀ w : World, Calls Try.prog 40 #[.agg #[.float .f64 L1, .float .f64 H1]] w fun e w' => e = .returned (.bool false) ∧ Kp w w') (hv2 : ∀ w : World, Calls Try.prog 40 #[.agg #[.float .f64 L2, .float .f64 H2]] w fun e w' => e = .returned (.bool false) ∧ Kp w w') (t1 : (FloatKind.f64.format.order H1 H2 == some Ordering.lt) = false) (t2 : (FloatKind.f64.format.order H1 H2 == some Ordering.eq) = true) (t3 : (FloatKind.f64.format.order L1 L2 == some Ordering.gt || FloatKind.f64.format.order L1 L2 == some Ordering.eq) = true) (U : Int) (hu1 : ∀ w : World, Calls Try.prog 43 #[.agg #[.float .f64 L1, .float .f64 H1], .agg #[.float .f64 L2, .float .f64 H2]] w fun e w' => e = .returned (.int .i64 U) ∧ Kp w w') (w : World) : Calls Try.prog 23 #[.agg #[.float .f64 a, .float .f64 b], .agg #[.float .f64 c, .float .f64 d]] w fun e w' => e = .returned (.int .i64 (U)) ∧ Kp w w' := by
    go_enter Try.func23, Try.ntmps23
    go_upto_region 1 with fail
    go_cut [] (fun wx => H48 wx w.heap.size (.float .f64 L1) (.float .f64 H1) (.float .f64 L2) (.float .f64 H2) ∧ Kp w wx)
    case first =>
      go_region_with (first | (go_at_call_of 37 (Value.agg #[.float .f64 a, .float .f64 b]); refine (hx _).mono ?_; rintro e wx ⟨rfl, gx⟩; first | (have kx := Kp.trans ky gx; have sx := H48.keep sy gx; obtain ⟨⟨p0, p1, p2, p3⟩, ⟨p4, p5, p6, p7⟩⟩ := id sx) | (have kx : Kp w wx := Kp.trans (((Kp.refl w).alloc _).alloc _).drew gx; have sx := H48.keep (H48.new w (.float .f64 a) (.float .f64 b) (.float .f64 c) (.float .f64 d) 25 25) (Kp.trans (Kp.drew (Kp.refl _)) gx); obtain ⟨⟨p0, p1, p2, p3⟩, ⟨p4, p5, p6, p7⟩⟩ := id sx)) | (go_at_call_of 37 (Value.agg #[.float .f64 c, .float .f64 d]); refine (hy _).mono ?_; rintro e wy ⟨rfl, gy⟩; first | (have ky := Kp.trans kx gy; have sy := H48.keep sx gy; obtain ⟨⟨p0, p1, p2, p3⟩, ⟨p4, p5, p6, p7⟩⟩ := id sy) | (have ky : Kp w wy := Kp.trans (((Kp.refl w).alloc _).alloc _).drew gy; have sy := H48.keep (H48.new w (.float .f64 a) (.float .f64 b) (.float .f64 c) (.float .f64 d) 25 25) (Kp.trans (Kp.drew (Kp.refl _)) gy); obtain ⟨⟨p0, p1, p2, p3⟩, ⟨p4, p5, p6, p7⟩⟩ := id sy)))
      all_goals (
        go_wp2_with fail
        go_meet
        first | (exact ⟨H48.put (id sy : H48 wy w.heap.size (.float .f64 a) (.float .f64 b) (.float .f64 c) (.float .f64 d)) (.float .f64 L1) (.float .f64 H1) (.float .f64 L2) (.float .f64 H2), (((ky.setCell (Nat.le_refl _) _).setCell (Nat.le_refl _) _).setCell (Nat.le_succ _) _).setCell (Nat.le_succ _) _⟩) | (exact ⟨H48.put (id sx : H48 wx w.heap.size (.float .f64 a) (.float .f64 b) (.float .f64 c) (.float .f64 d)) (.float .f64 L1) (.float .f64 H1) (.float .f64 L2) (.float .f64 H2), (((kx.setCell (Nat.le_refl _) _).setCell (Nat.le_refl _) _).setCell (Nat.le_succ _) _).setCell (Nat.le_succ _) _⟩))
    case rest =>
    obtain ⟨sw, kw⟩ := hcut
    obtain ⟨⟨p0, p1, p2, p3⟩, ⟨p4, p5, p6, p7⟩⟩ := id sw
    go_wp2_with (first | (go_at_call_of 40 (Value.agg #[.float .f64 L1, .float .f64 H1]); refine (hv1 _).mono ?_; rintro e wv ⟨rfl, gv⟩; replace kw := Kp.trans kw gv; replace sw := H48.keep sw gv; clear p0 p1 p2 p3 p4 p5 p6 p7; obtain ⟨⟨p0, p1, p2, p3⟩, ⟨p4, p5, p6, p7⟩⟩ := id sw) | (go_at_call_of 40 (Value.agg #[.float .f64 L2, .float .f64 H2]); refine (hv2 _).mono ?_; rintro e wv ⟨rfl, gv⟩; replace kw := Kp.trans kw gv; replace sw := H48.keep sw gv; clear p0 p1 p2 p3 p4 p5 p6 p7; obtain ⟨⟨p0, p1, p2, p3⟩, ⟨p4, p5, p6, p7⟩⟩ := id sw) | (go_at_call 43; refine (hu1 _).mono ?_; rintro e wu ⟨rfl, gu⟩; replace kw := Kp.trans kw gu))
    exact bodyPost_ret (v := .int .i64 (U)) (by simp [results, Try.results23, go_sem]) rfl ⟨rfl, kw⟩
set_option maxRecDepth 20000 in
set_option maxHeartbeats 4000000 in
theorem ovC_ (a b c d L1 H1 L2 H2 : Nat) (hx : ∀ w : World, Calls Try.prog 37 #[.agg #[.float .f64 a, .float .f64 b]] w fun e w' => e = .returned (.agg #[.float .f64 L1, .float .f64 H1]) ∧ Kp w w') (hy : ∀ w : World, Calls Try.prog 37 #[.agg #[.float .f64 c, .float .f64 d]] w fun e w' => e = .returned (.agg #[.float .f64 L2, .float .f64 H2]) ∧ Kp w w') (hv1 : ∀ w : World, Calls Try.prog 40 #[.agg #[.float .f64 L1, .float .f64 H1]] w fun e w' => e = .returned (.bool false) ∧ Kp w w') (hv2 : ∀ w : World, Calls Try.prog 40 #[.agg #[.float .f64 L2, .float .f64 H2]] w fun e w' => e = .returned (.bool false) ∧ Kp w w') (t1 : (FloatKind.f64.format.order H1 H2 == some Ordering.lt) = false) (t2 : (FloatKind.f64.format.order H1 H2 == some Ordering.eq) = true) (t3 : (FloatKind.f64.format.order L1 L2 == some Ordering.gt || FloatKind.f64.format.order L1 L2 == some Ordering.eq) = false) (U : Int) (b1 : 3 ≤ U) (b2 : U ≤ 9) (hu2 : ∀ w : World, Calls Try.prog 43 #[.agg #[.float .f64 L2, .float .f64 H2], .agg #[.float .f64 L1, .float .f64 H1]] w fun e w' => e = .returned (.int .i64 U) ∧ Kp w w') (w : World) : Calls Try.prog 23 #[.agg #[.float .f64 a, .float .f64 b], .agg #[.float .f64 c, .float .f64 d]] w fun e w' => e = .returned (.int .i64 (18 - U)) ∧ Kp w w' := by
    go_enter Try.func23, Try.ntmps23
    go_upto_region 1 with fail
    go_cut [] (fun wx => H48 wx w.heap.size (.float .f64 L1) (.float .f64 H1) (.float .f64 L2) (.float .f64 H2) ∧ Kp w wx)
    case first =>
      go_region_with (first | (go_at_call_of 37 (Value.agg #[.float .f64 a, .float .f64 b]); refine (hx _).mono ?_; rintro e wx ⟨rfl, gx⟩; first | (have kx := Kp.trans ky gx; have sx := H48.keep sy gx; obtain ⟨⟨p0, p1, p2, p3⟩, ⟨p4, p5, p6, p7⟩⟩ := id sx) | (have kx : Kp w wx := Kp.trans (((Kp.refl w).alloc _).alloc _).drew gx; have sx := H48.keep (H48.new w (.float .f64 a) (.float .f64 b) (.float .f64 c) (.float .f64 d) 25 25) (Kp.trans (Kp.drew (Kp.refl _)) gx); obtain ⟨⟨p0, p1, p2, p3⟩, ⟨p4, p5, p6, p7⟩⟩ := id sx)) | (go_at_call_of 37 (Value.agg #[.float .f64 c, .float .f64 d]); refine (hy _).mono ?_; rintro e wy ⟨rfl, gy⟩; first | (have ky := Kp.trans kx gy; have sy := H48.keep sx gy; obtain ⟨⟨p0, p1, p2, p3⟩, ⟨p4, p5, p6, p7⟩⟩ := id sy) | (have ky : Kp w wy := Kp.trans (((Kp.refl w).alloc _).alloc _).drew gy; have sy := H48.keep (H48.new w (.float .f64 a) (.float .f64 b) (.float .f64 c) (.float .f64 d) 25 25) (Kp.trans (Kp.drew (Kp.refl _)) gy); obtain ⟨⟨p0, p1, p2, p3⟩, ⟨p4, p5, p6, p7⟩⟩ := id sy)))
      all_goals (
        go_wp2_with fail
        go_meet
        first | (exact ⟨H48.put (id sy : H48 wy w.heap.size (.float .f64 a) (.float .f64 b) (.float .f64 c) (.float .f64 d)) (.float .f64 L1) (.float .f64 H1) (.float .f64 L2) (.float .f64 H2), (((ky.setCell (Nat.le_refl _) _).setCell (Nat.le_refl _) _).setCell (Nat.le_succ _) _).setCell (Nat.le_succ _) _⟩) | (exact ⟨H48.put (id sx : H48 wx w.heap.size (.float .f64 a) (.float .f64 b) (.float .f64 c) (.float .f64 d)) (.float .f64 L1) (.float .f64 H1) (.float .f64 L2) (.float .f64 H2), (((kx.setCell (Nat.le_refl _) _).setCell (Nat.le_refl _) _).setCell (Nat.le_succ _) _).setCell (Nat.le_succ _) _⟩))
    case rest =>
    obtain ⟨sw, kw⟩ := hcut
    obtain ⟨⟨p0, p1, p2, p3⟩, ⟨p4, p5, p6, p7⟩⟩ := id sw
    go_wp2_with (first | (go_at_call_of 40 (Value.agg #[.float .f64 L1, .float .f64 H1]); refine (hv1 _).mono ?_; rintro e wv ⟨rfl, gv⟩; replace kw := Kp.trans kw gv; replace sw := H48.keep sw gv; clear p0 p1 p2 p3 p4 p5 p6 p7; obtain ⟨⟨p0, p1, p2, p3⟩, ⟨p4, p5, p6, p7⟩⟩ := id sw) | (go_at_call_of 40 (Value.agg #[.float .f64 L2, .float .f64 H2]); refine (hv2 _).mono ?_; rintro e wv ⟨rfl, gv⟩; replace kw := Kp.trans kw gv; replace sw := H48.keep sw gv; clear p0 p1 p2 p3 p4 p5 p6 p7; obtain ⟨⟨p0, p1, p2, p3⟩, ⟨p4, p5, p6, p7⟩⟩ := id sw) | (go_at_call 43; refine (hu2 _).mono ?_; rintro e wu ⟨rfl, gu⟩; replace kw := Kp.trans kw gu))
    exact bodyPost_ret (v := .int .i64 (18 - U)) (by simp [results, Try.results23, go_sem]) rfl ⟨rfl, kw⟩
set_option maxRecDepth 20000 in
set_option maxHeartbeats 4000000 in
theorem ovD_ (a b c d L1 H1 L2 H2 : Nat) (hx : ∀ w : World, Calls Try.prog 37 #[.agg #[.float .f64 a, .float .f64 b]] w fun e w' => e = .returned (.agg #[.float .f64 L1, .float .f64 H1]) ∧ Kp w w') (hy : ∀ w : World, Calls Try.prog 37 #[.agg #[.float .f64 c, .float .f64 d]] w fun e w' => e = .returned (.agg #[.float .f64 L2, .float .f64 H2]) ∧ Kp w w') (hv1 : ∀ w : World, Calls Try.prog 40 #[.agg #[.float .f64 L1, .float .f64 H1]] w fun e w' => e = .returned (.bool false) ∧ Kp w w') (hv2 : ∀ w : World, Calls Try.prog 40 #[.agg #[.float .f64 L2, .float .f64 H2]] w fun e w' => e = .returned (.bool false) ∧ Kp w w') (t1 : (FloatKind.f64.format.order H1 H2 == some Ordering.lt) = false) (t2 : (FloatKind.f64.format.order H1 H2 == some Ordering.eq) = false) (U : Int) (b1 : 3 ≤ U) (b2 : U ≤ 9) (hu2 : ∀ w : World, Calls Try.prog 43 #[.agg #[.float .f64 L2, .float .f64 H2], .agg #[.float .f64 L1, .float .f64 H1]] w fun e w' => e = .returned (.int .i64 U) ∧ Kp w w') (w : World) : Calls Try.prog 23 #[.agg #[.float .f64 a, .float .f64 b], .agg #[.float .f64 c, .float .f64 d]] w fun e w' => e = .returned (.int .i64 (18 - U)) ∧ Kp w w' := by
    go_enter Try.func23, Try.ntmps23
    go_upto_region 1 with fail
    go_cut [] (fun wx => H48 wx w.heap.size (.float .f64 L1) (.float .f64 H1) (.float .f64 L2) (.float .f64 H2) ∧ Kp w wx)
    case first =>
      go_region_with (first | (go_at_call_of 37 (Value.agg #[.float .f64 a, .float .f64 b]); refine (hx _).mono ?_; rintro e wx ⟨rfl, gx⟩; first | (have kx := Kp.trans ky gx; have sx := H48.keep sy gx; obtain ⟨⟨p0, p1, p2, p3⟩, ⟨p4, p5, p6, p7⟩⟩ := id sx) | (have kx : Kp w wx := Kp.trans (((Kp.refl w).alloc _).alloc _).drew gx; have sx := H48.keep (H48.new w (.float .f64 a) (.float .f64 b) (.float .f64 c) (.float .f64 d) 25 25) (Kp.trans (Kp.drew (Kp.refl _)) gx); obtain ⟨⟨p0, p1, p2, p3⟩, ⟨p4, p5, p6, p7⟩⟩ := id sx)) | (go_at_call_of 37 (Value.agg #[.float .f64 c, .float .f64 d]); refine (hy _).mono ?_; rintro e wy ⟨rfl, gy⟩; first | (have ky := Kp.trans kx gy; have sy := H48.keep sx gy; obtain ⟨⟨p0, p1, p2, p3⟩, ⟨p4, p5, p6, p7⟩⟩ := id sy) | (have ky : Kp w wy := Kp.trans (((Kp.refl w).alloc _).alloc _).drew gy; have sy := H48.keep (H48.new w (.float .f64 a) (.float .f64 b) (.float .f64 c) (.float .f64 d) 25 25) (Kp.trans (Kp.drew (Kp.refl _)) gy); obtain ⟨⟨p0, p1, p2, p3⟩, ⟨p4, p5, p6, p7⟩⟩ := id sy)))
      all_goals (
        go_wp2_with fail
        go_meet
        first | (exact ⟨H48.put (id sy : H48 wy w.heap.size (.float .f64 a) (.float .f64 b) (.float .f64 c) (.float .f64 d)) (.float .f64 L1) (.float .f64 H1) (.float .f64 L2) (.float .f64 H2), (((ky.setCell (Nat.le_refl _) _).setCell (Nat.le_refl _) _).setCell (Nat.le_succ _) _).setCell (Nat.le_succ _) _⟩) | (exact ⟨H48.put (id sx : H48 wx w.heap.size (.float .f64 a) (.float .f64 b) (.float .f64 c) (.float .f64 d)) (.float .f64 L1) (.float .f64 H1) (.float .f64 L2) (.float .f64 H2), (((kx.setCell (Nat.le_refl _) _).setCell (Nat.le_refl _) _).setCell (Nat.le_succ _) _).setCell (Nat.le_succ _) _⟩))
    case rest =>
    obtain ⟨sw, kw⟩ := hcut
    obtain ⟨⟨p0, p1, p2, p3⟩, ⟨p4, p5, p6, p7⟩⟩ := id sw
    go_wp2_with (first | (go_at_call_of 40 (Value.agg #[.float .f64 L1, .float .f64 H1]); refine (hv1 _).mono ?_; rintro e wv ⟨rfl, gv⟩; replace kw := Kp.trans kw gv; replace sw := H48.keep sw gv; clear p0 p1 p2 p3 p4 p5 p6 p7; obtain ⟨⟨p0, p1, p2, p3⟩, ⟨p4, p5, p6, p7⟩⟩ := id sw) | (go_at_call_of 40 (Value.agg #[.float .f64 L2, .float .f64 H2]); refine (hv2 _).mono ?_; rintro e wv ⟨rfl, gv⟩; replace kw := Kp.trans kw gv; replace sw := H48.keep sw gv; clear p0 p1 p2 p3 p4 p5 p6 p7; obtain ⟨⟨p0, p1, p2, p3⟩, ⟨p4, p5, p6, p7⟩⟩ := id sw) | (go_at_call 43; refine (hu2 _).mono ?_; rintro e wu ⟨rfl, gu⟩; replace kw := Kp.trans kw gu))
    exact bodyPost_ret (v := .int .i64 (18 - U)) (by simp [results, Try.results23, go_sem]) rfl ⟨rfl, kw⟩
theorem ov9_ (a b c d : Nat) (L1 H1 L2 H2 : Int) (hx : Rd a b L1 H1) (hy : Rd c d L2 H2) (w : World) : Calls Try.prog 23 #[.agg #[.float .f64 a, .float .f64 b], .agg #[.float .f64 c, .float .f64 d]] w fun e w' => e = .returned (.int .i64 (ovN L1 H1 L2 H2)) ∧ Kp w w' := by
  have v1 := void9_ L1 H1 hx.vd
  have v2 := void9_ L2 H2 hy.vd
  unfold ovN
  by_cases c1 : L1 = 9218868437227405312
  · rw [decide_eq_true c1] at v1
    rw [if_pos c1]
    by_cases c2 : L2 = 9218868437227405312
    · rw [decide_eq_true c2] at v2
      rw [if_pos c2]
      exact ov00_ a b c d _ _ _ _ hx.call hy.call v1 v2 w
    · rw [decide_eq_false c2] at v2
      rw [if_neg c2]
      exact ov01_ a b c d _ _ _ _ hx.call hy.call v1 v2 w
  rw [decide_eq_false c1] at v1
  rw [if_neg c1]
  by_cases c2 : L2 = 9218868437227405312
  · rw [decide_eq_true c2] at v2
    rw [if_pos c2]
    exact ov10_ a b c d _ _ _ _ hx.call hy.call v1 v2 w
  rw [decide_eq_false c2] at v2
  rw [if_neg c2]
  have e1 := plt9 H1 H2 hx.vd.hi hy.vd.hi
  have e2 := peq9 H1 H2 hx.vd.hi hy.vd.hi
  have e3 := pge9 L1 L2 hx.vd.lo hy.vd.lo
  have u1 := up9_ L1 H1 L2 H2 hx.vd hy.vd
  have u2 := up9_ L2 H2 L1 H1 hy.vd hx.vd
  have ub := upN_bd L2 H2 L1 H1
  by_cases c3 : H1 < H2
  · rw [decide_eq_true c3] at e1
    rw [if_pos (Or.inl c3)]
    exact ovA_ a b c d _ _ _ _ hx.call hy.call v1 v2 e1 _ u1 w
  rw [decide_eq_false c3] at e1
  by_cases c4 : H1 = H2
  · rw [decide_eq_true c4] at e2
    by_cases c5 : L2 ≤ L1
    · rw [decide_eq_true c5] at e3
      rw [if_pos (Or.inr ⟨c4, c5⟩)]
      exact ovB_ a b c d _ _ _ _ hx.call hy.call v1 v2 e1 e2 e3 _ u1 w
    · rw [decide_eq_false c5] at e3
      rw [if_neg (by omega)]
      exact ovC_ a b c d _ _ _ _ hx.call hy.call v1 v2 e1 e2 e3 _ ub.1 ub.2 u2 w
  · rw [decide_eq_false c4] at e2
    rw [if_neg (by omega)]
    exact ovD_ a b c d _ _ _ _ hx.call hy.call v1 v2 e1 e2 _ ub.1 ub.2 u2 w
end Go.Proofs.Ytnjbheammpdjfaa
