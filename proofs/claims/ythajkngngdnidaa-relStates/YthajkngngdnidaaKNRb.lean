import Derived.Test.YthajkngngdnidaaProg
import Derived.Test.YthajkngngdnidaaKXA0
import Derived.Test.YthajkngngdnidaaKQM
import Derived.Test.YthajkngngdnidaaKQA
import Derived.Test.YthajkngngdnidaaKXQU
import Derived.Test.YthajkngngdnidaaKEM
import Derived.Test.YthajkngngdnidaaKEN
import Derived.Test.YthajkngngdnidaaKEA
import Derived.Test.YthajkngngdnidaaKEB
import Derived.Test.YthajkngngdnidaaKEH
import Derived.Test.YthajkngngdnidaaKEK
import Derived.Test.YthajkngngdnidaaKEO
import Derived.Test.YthajkngngdnidaaKER
import Derived.Test.YthajkngngdnidaaKES
import Derived.Test.YthajkngngdnidaaKNRv
import Derived.Test.YthajkngngdnidaaKNRm
import Derived.Test.YthajkngngdnidaaKNRa
import Derived.WalkKit
import Derived.ProofKit
import Derived.RowKit3
import Derived.WalkSpells
import Derived.StillTactics
import Derived.Deep.QuietTactic
import Derived.BigQuiet
import Derived.Below
import Derived.Deep.OwnRows
import Derived.OwnWalk
import Derived.Laws.BitsAllLaws
import Derived.Laws.Slices
import Derived.Laws.Bits64b
import Derived.Laws.FloatArith
import Derived.Deep.RegionHeld3
import Derived.Deep.CutRange
import Derived.Deep.DeepCutAuto
namespace Go.Proofs.Ythajkngngdnidaa
open Go.RowKit

/-- two blocks of two cells, one behind the other -/
def H48 (w : World) (B : Nat) (a b c d : Value) : Prop := Fq.H2 w B a b ∧ Fq.H2 w (B + 1) c d
theorem H48.keep {W w : World} {B : Nat} {a b c d : Value} (h : H48 W B a b c d) (g : Kp W w) : H48 w B a b c d := ⟨Fq.H2.keep h.1 g, Fq.H2.keep h.2 g⟩
theorem H48.new (w : World) (a b c d : Value) (s t : TypeId) : H48 ((w.alloc (.cells #[a, b] s)).alloc (.cells #[c, d] t)) w.heap.size a b c d := by
  refine ⟨?_, ?_⟩ <;> (unfold Fq.H2; simp [go_sem])
theorem H48.put {w : World} {B : Nat} {a b c d : Value} (h : H48 w B a b c d) (a' b' c' d' : Value) : H48 ((((w.setCell ⟨B, 0, none⟩ a').setCell ⟨B, 1, none⟩ b').setCell ⟨B + 1, 0, none⟩ c').setCell ⟨B + 1, 1, none⟩ d') B a' b' c' d' := by
  refine ⟨?_, ?_⟩
  · exact Fq.H2.far (Fq.H2.put h.1 a' b') (by omega) c' d'
  · exact Fq.H2.put (Fq.H2.far h.2 (by omega) a' b') c' d'
set_option maxRecDepth 20000 in
set_option maxHeartbeats 2000000 in
theorem subsetA_ (a b c d L1 H1 L2 H2 : Nat) (hx : ∀ w : World, Calls Try.prog 45 #[.agg #[.float .f64 a, .float .f64 b]] w fun e w' => e = .returned (.agg #[.float .f64 L1, .float .f64 H1]) ∧ Kp w w') (hy : ∀ w : World, Calls Try.prog 45 #[.agg #[.float .f64 c, .float .f64 d]] w fun e w' => e = .returned (.agg #[.float .f64 L2, .float .f64 H2]) ∧ Kp w w') (B1 B2 : Bool) (t1 : (FloatKind.f64.format.order L2 L1 == some Ordering.lt || FloatKind.f64.format.order L2 L1 == some Ordering.eq) = B1) (t2 : (FloatKind.f64.format.order H1 H2 == some Ordering.lt || FloatKind.f64.format.order H1 H2 == some Ordering.eq) = B2) (w : World) : Calls Try.prog 24 #[.agg #[.float .f64 a, .float .f64 b], .agg #[.float .f64 c, .float .f64 d]] w fun e w' => e = .returned (.bool (B1 && B2)) ∧ Kp w w' := by
    go_enter Try.func24, Try.ntmps24
    go_upto_region 1 with fail
    go_cut [] (fun wx => H48 wx w.heap.size (.float .f64 L1) (.float .f64 H1) (.float .f64 L2) (.float .f64 H2) ∧ Kp w wx)
    case first =>
      go_region_with (first | (go_at_call_of 45 (Value.agg #[.float .f64 a, .float .f64 b]); refine (hx _).mono ?_; rintro e wx ⟨rfl, gx⟩; first | (have kx := Kp.trans ky gx; have sx := H48.keep sy gx; obtain ⟨⟨p0, p1, p2, p3⟩, ⟨p4, p5, p6, p7⟩⟩ := id sx) | (have kx : Kp w wx := Kp.trans (((Kp.refl w).alloc _).alloc _).drew gx; have sx := H48.keep (H48.new w (.float .f64 a) (.float .f64 b) (.float .f64 c) (.float .f64 d) 30 30) (Kp.trans (Kp.drew (Kp.refl _)) gx); obtain ⟨⟨p0, p1, p2, p3⟩, ⟨p4, p5, p6, p7⟩⟩ := id sx)) | (go_at_call_of 45 (Value.agg #[.float .f64 c, .float .f64 d]); refine (hy _).mono ?_; rintro e wy ⟨rfl, gy⟩; first | (have ky := Kp.trans kx gy; have sy := H48.keep sx gy; obtain ⟨⟨p0, p1, p2, p3⟩, ⟨p4, p5, p6, p7⟩⟩ := id sy) | (have ky : Kp w wy := Kp.trans (((Kp.refl w).alloc _).alloc _).drew gy; have sy := H48.keep (H48.new w (.float .f64 a) (.float .f64 b) (.float .f64 c) (.float .f64 d) 30 30) (Kp.trans (Kp.drew (Kp.refl _)) gy); obtain ⟨⟨p0, p1, p2, p3⟩, ⟨p4, p5, p6, p7⟩⟩ := id sy)))
      all_goals (
        go_wp2_with fail
        go_meet
        first | (exact ⟨H48.put (id sy : H48 wy w.heap.size (.float .f64 a) (.float .f64 b) (.float .f64 c) (.float .f64 d)) (.float .f64 L1) (.float .f64 H1) (.float .f64 L2) (.float .f64 H2), (((ky.setCell (Nat.le_refl _) _).setCell (Nat.le_refl _) _).setCell (Nat.le_succ _) _).setCell (Nat.le_succ _) _⟩) | (exact ⟨H48.put (id sx : H48 wx w.heap.size (.float .f64 a) (.float .f64 b) (.float .f64 c) (.float .f64 d)) (.float .f64 L1) (.float .f64 H1) (.float .f64 L2) (.float .f64 H2), (((kx.setCell (Nat.le_refl _) _).setCell (Nat.le_refl _) _).setCell (Nat.le_succ _) _).setCell (Nat.le_succ _) _⟩))
    case rest =>
    obtain ⟨sw, kw⟩ := hcut
    obtain ⟨⟨p0, p1, p2, p3⟩, ⟨p4, p5, p6, p7⟩⟩ := id sw
    cases B1 <;> cases B2
    all_goals (
      go_wp2
      exact bodyPost_ret (v := .bool _) (by simp [results, Try.results24, go_sem]) rfl ⟨rfl, (by repeat (with_reducible (first | assumption | exact Kp.refl _ | apply Kp.drew | apply Kp.alloc | apply Kp.drewN | (refine Kp.setCell ?_ (by first | omega | (simp <;> omega)) _) | (refine Kp.trans ?_ (by assumption)))))⟩)
theorem subset9_ (a b c d : Nat) (L1 H1 L2 H2 : Int) (hx : Rd a b L1 H1) (hy : Rd c d L2 H2) (w : World) : Calls Try.prog 24 #[.agg #[.float .f64 a, .float .f64 b], .agg #[.float .f64 c, .float .f64 d]] w fun e w' => e = .returned (.bool (decide (L2 ≤ L1 ∧ H1 ≤ H2))) ∧ Kp w w' := by
  have h := subsetA_ a b c d _ _ _ _ hx.call hy.call _ _ rfl rfl w
  rw [ple9 L2 L1 hy.vd.lo hx.vd.lo, ple9 H1 H2 hx.vd.hi hy.vd.hi] at h
  rw [show decide (L2 ≤ L1 ∧ H1 ≤ H2) = (decide (L2 ≤ L1) && decide (H1 ≤ H2)) from by simp]
  exact h
set_option maxRecDepth 20000 in
set_option maxHeartbeats 2000000 in
theorem lessA_ (a b c d L1 H1 L2 H2 : Nat) (hx : ∀ w : World, Calls Try.prog 45 #[.agg #[.float .f64 a, .float .f64 b]] w fun e w' => e = .returned (.agg #[.float .f64 L1, .float .f64 H1]) ∧ Kp w w') (hy : ∀ w : World, Calls Try.prog 45 #[.agg #[.float .f64 c, .float .f64 d]] w fun e w' => e = .returned (.agg #[.float .f64 L2, .float .f64 H2]) ∧ Kp w w') (B1 B2 : Bool) (t1 : (FloatKind.f64.format.order L1 L2 == some Ordering.lt || FloatKind.f64.format.order L1 L2 == some Ordering.eq) = B1) (t2 : (FloatKind.f64.format.order H1 H2 == some Ordering.lt || FloatKind.f64.format.order H1 H2 == some Ordering.eq) = B2) (w : World) : Calls Try.prog 30 #[.agg #[.float .f64 a, .float .f64 b], .agg #[.float .f64 c, .float .f64 d]] w fun e w' => e = .returned (.bool (B1 && B2)) ∧ Kp w w' := by
    go_enter Try.func30, Try.ntmps30
    go_upto_region 1 with fail
    go_cut [] (fun wx => H48 wx w.heap.size (.float .f64 L1) (.float .f64 H1) (.float .f64 L2) (.float .f64 H2) ∧ Kp w wx)
    case first =>
      go_region_with (first | (go_at_call_of 45 (Value.agg #[.float .f64 a, .float .f64 b]); refine (hx _).mono ?_; rintro e wx ⟨rfl, gx⟩; first | (have kx := Kp.trans ky gx; have sx := H48.keep sy gx; obtain ⟨⟨p0, p1, p2, p3⟩, ⟨p4, p5, p6, p7⟩⟩ := id sx) | (have kx : Kp w wx := Kp.trans (((Kp.refl w).alloc _).alloc _).drew gx; have sx := H48.keep (H48.new w (.float .f64 a) (.float .f64 b) (.float .f64 c) (.float .f64 d) 30 30) (Kp.trans (Kp.drew (Kp.refl _)) gx); obtain ⟨⟨p0, p1, p2, p3⟩, ⟨p4, p5, p6, p7⟩⟩ := id sx)) | (go_at_call_of 45 (Value.agg #[.float .f64 c, .float .f64 d]); refine (hy _).mono ?_; rintro e wy ⟨rfl, gy⟩; first | (have ky := Kp.trans kx gy; have sy := H48.keep sx gy; obtain ⟨⟨p0, p1, p2, p3⟩, ⟨p4, p5, p6, p7⟩⟩ := id sy) | (have ky : Kp w wy := Kp.trans (((Kp.refl w).alloc _).alloc _).drew gy; have sy := H48.keep (H48.new w (.float .f64 a) (.float .f64 b) (.float .f64 c) (.float .f64 d) 30 30) (Kp.trans (Kp.drew (Kp.refl _)) gy); obtain ⟨⟨p0, p1, p2, p3⟩, ⟨p4, p5, p6, p7⟩⟩ := id sy)))
      all_goals (
        go_wp2_with fail
        go_meet
        first | (exact ⟨H48.put (id sy : H48 wy w.heap.size (.float .f64 a) (.float .f64 b) (.float .f64 c) (.float .f64 d)) (.float .f64 L1) (.float .f64 H1) (.float .f64 L2) (.float .f64 H2), (((ky.setCell (Nat.le_refl _) _).setCell (Nat.le_refl _) _).setCell (Nat.le_succ _) _).setCell (Nat.le_succ _) _⟩) | (exact ⟨H48.put (id sx : H48 wx w.heap.size (.float .f64 a) (.float .f64 b) (.float .f64 c) (.float .f64 d)) (.float .f64 L1) (.float .f64 H1) (.float .f64 L2) (.float .f64 H2), (((kx.setCell (Nat.le_refl _) _).setCell (Nat.le_refl _) _).setCell (Nat.le_succ _) _).setCell (Nat.le_succ _) _⟩))
    case rest =>
    obtain ⟨sw, kw⟩ := hcut
    obtain ⟨⟨p0, p1, p2, p3⟩, ⟨p4, p5, p6, p7⟩⟩ := id sw
    cases B1 <;> cases B2
    all_goals (
      go_wp2
      exact bodyPost_ret (v := .bool _) (by simp [results, Try.results30, go_sem]) rfl ⟨rfl, (by repeat (with_reducible (first | assumption | exact Kp.refl _ | apply Kp.drew | apply Kp.alloc | apply Kp.drewN | (refine Kp.setCell ?_ (by first | omega | (simp <;> omega)) _) | (refine Kp.trans ?_ (by assumption)))))⟩)
theorem less9_ (a b c d : Nat) (L1 H1 L2 H2 : Int) (hx : Rd a b L1 H1) (hy : Rd c d L2 H2) (w : World) : Calls Try.prog 30 #[.agg #[.float .f64 a, .float .f64 b], .agg #[.float .f64 c, .float .f64 d]] w fun e w' => e = .returned (.bool (decide (L1 ≤ L2 ∧ H1 ≤ H2))) ∧ Kp w w' := by
  have h := lessA_ a b c d _ _ _ _ hx.call hy.call _ _ rfl rfl w
  rw [ple9 L1 L2 hx.vd.lo hy.vd.lo, ple9 H1 H2 hx.vd.hi hy.vd.hi] at h
  rw [show decide (L1 ≤ L2 ∧ H1 ≤ H2) = (decide (L1 ≤ L2) && decide (H1 ≤ H2)) from by simp]
  exact h
end Go.Proofs.Ythajkngngdnidaa
