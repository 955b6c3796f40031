import Derived.Test.YthajkngngdnidaaProg
import Derived.Test.YthajkngngdnidaaKXA0
import Derived.Test.YthajkngngdnidaaKQM
import Derived.Test.YthajkngngdnidaaKQA
import Derived.Test.YthajkngngdnidaaKXQU
import Derived.Test.YthajkngngdnidaaKEM
import Derived.Test.YthajkngngdnidaaKEN
import Derived.Test.YthajkngngdnidaaKEA
import Derived.Test.YthajkngngdnidaaKEB
import Derived.Test.YthajkngngdnidaaKEH
import Derived.Test.YthajkngngdnidaaKEK
import Derived.Test.YthajkngngdnidaaKEO
import Derived.Test.YthajkngngdnidaaKER
import Derived.Test.YthajkngngdnidaaKES
import Derived.Test.YthajkngngdnidaaKNRv
import Derived.Test.YthajkngngdnidaaKNRm
import Derived.Test.YthajkngngdnidaaKNRa
import Derived.Test.YthajkngngdnidaaKNRb
import Derived.Test.YthajkngngdnidaaKNRo
import Derived.WalkKit
import Derived.ProofKit
import Derived.RowKit3
import Derived.WalkSpells
import Derived.StillTactics
import Derived.Deep.QuietTactic
import Derived.BigQuiet
import Derived.Below
import Derived.Deep.OwnRows
import Derived.OwnWalk
import Derived.Laws.BitsAllLaws
import Derived.Laws.Slices
import Derived.Laws.Bits64b
import Derived.Laws.FloatArith
import Derived.Deep.RegionHeld3
import Derived.Deep.CutRange
import Derived.Deep.DeepCutAuto
namespace Go.Proofs.Ythajkngngdnidaa
open Go.RowKit
set_option maxRecDepth 20000 in
set_option maxHeartbeats 4000000 in
theorem ovA_ (a b c d L1 H1 L2 H2 : Nat) (hx : ∀ w : World, Calls Try.prog 45 #[.agg #[.float .f64 a, .float .f64 b]] w fun e w' => e = .returned (.agg #[.float .f64 L1, .float .f64 H1]) ∧ Kp w w') (hy : ∀ w : World, Calls Try.prog 45 #[.agg #[.float .f64 c, .float .f64 d]] w fun e w' => e = .returned (.agg #[.float .f64 L2, .float .f64 H2]) ∧ Kp w w') (hv1 : ∀ w : World, Calls Try.prog 44 #[.agg #[.float .f64 L1, .float .f64 H1]] w fun e w' => e = .returned (.bool false) ∧ Kp w w') (hv2 : ∀ w : World, Calls Try.prog 44 #[.agg #[.float .f64 L2, .float .f64 H2]] w fun e w' => e = .returned (.bool false) ∧ Kp w w') (t1 : (FloatKind.f64.format.order H1 H2 == some Ordering.lt) = true) (U : Int) (hu1 : ∀ w : World, Calls Try.prog 54 #[.agg #[.float .f64 L1, .float .f64 H1], .agg #[.float .f64 L2, .float .f64 H2]] w fun e w' => e = .returned (.int .i64 U) ∧ Kp w w') (w : World) : Calls Try.prog 38 #[.agg #[.float .f64 a, .float .f64 b], .agg #[.float .f64 c, .float .f64 d]] w fun e w' => e = .returned (.int .i64 (U)) ∧ Kp w w' := by
    go_enter Try.func38, Try.ntmps38
    go_upto_region 1 with fail
    go_cut [] (fun wx => H48 wx w.heap.size (.float .f64 L1) (.float .f64 H1) (.float .f64 L2) (.float .f64 H2) ∧ Kp w wx)
    case first =>
      go_region_with (first | (go_at_call_of 45 (Value.agg #[.float .f64 a, .float .f64 b]); refine (hx _).mono ?_; rintro e wx ⟨rfl, gx⟩; first | (have kx := Kp.trans ky gx; have sx := H48.keep sy gx; obtain ⟨⟨p0, p1, p2, p3⟩, ⟨p4, p5, p6, p7⟩⟩ := id sx) | (have kx : Kp w wx := Kp.trans (((Kp.refl w).alloc _).alloc _).drew gx; have sx := H48.keep (H48.new w (.float .f64 a) (.float .f64 b) (.float .f64 c) (.float .f64 d) 30 30) (Kp.trans (Kp.drew (Kp.refl _)) gx); obtain ⟨⟨p0, p1, p2, p3⟩, ⟨p4, p5, p6, p7⟩⟩ := id sx)) | (go_at_call_of 45 (Value.agg #[.float .f64 c, .float .f64 d]); refine (hy _).mono ?_; rintro e wy ⟨rfl, gy⟩; first | (have ky := Kp.trans kx gy; have sy := H48.keep sx gy; obtain ⟨⟨p0, p1, p2, p3⟩, ⟨p4, p5, p6, p7⟩⟩ := id sy) | (have ky : Kp w wy := Kp.trans (((Kp.refl w).alloc _).alloc _).drew gy; have sy := H48.keep (H48.new w (.float .f64 a) (.float .f64 b) (.float .f64 c) (.float .f64 d) 30 30) (Kp.trans (Kp.drew (Kp.refl _)) gy); obtain ⟨⟨p0, p1, p2, p3⟩, ⟨p4, p5, p6, p7⟩⟩ := id sy)))
      all_goals (
        go_wp2_with fail
        go_meet
        first | (exact ⟨H48.put (id sy : H48 wy w.heap.size (.float .f64 a) (.float .f64 b) (.float .f64 c) (.float .f64 d)) (.float .f64 L1) (.float .f64 H1) (.float .f64 L2) (.float .f64 H2), (((ky.setCell (Nat.le_refl _) _).setCell (Nat.le_refl _) _).setCell (Nat.le_succ _) _).setCell (Nat.le_succ _) _⟩) | (exact ⟨H48.put (id sx : H48 wx w.heap.size (.float .f64 a) (.float .f64 b) (.float .f64 c) (.float .f64 d)) (.float .f64 L1) (.float .f64 H1) (.float .f64 L2) (.float .f64 H2), (((kx.setCell (Nat.le_refl _) _).setCell (Nat.le_refl _) _).setCell (Nat.le_succ _) _).setCell (Nat.le_succ _) _⟩))
    case rest =>
    obtain ⟨sw, kw⟩ := hcut
    obtain ⟨⟨p0, p1, p2, p3⟩, ⟨p4, p5, p6, p7⟩⟩ := id sw
    go_wp2_with (first | (go_at_call_of 44 (Value.agg #[.float .f64 L1, .float .f64 H1]); refine (hv1 _).mono ?_; rintro e wv ⟨rfl, gv⟩; replace kw := Kp.trans kw gv; replace sw := H48.keep sw gv; clear p0 p1 p2 p3 p4 p5 p6 p7; obtain ⟨⟨p0, p1, p2, p3⟩, ⟨p4, p5, p6, p7⟩⟩ := id sw) | (go_at_call_of 44 (Value.agg #[.float .f64 L2, .float .f64 H2]); refine (hv2 _).mono ?_; rintro e wv ⟨rfl, gv⟩; replace kw := Kp.trans kw gv; replace sw := H48.keep sw gv; clear p0 p1 p2 p3 p4 p5 p6 p7; obtain ⟨⟨p0, p1, p2, p3⟩, ⟨p4, p5, p6, p7⟩⟩ := id sw) | (go_at_call 54; refine (hu1 _).mono ?_; rintro e wu ⟨rfl, gu⟩; replace kw := Kp.trans kw gu))
    exact bodyPost_ret (v := .int .i64 (U)) (by simp [results, Try.results38, go_sem]) rfl ⟨rfl, kw⟩
set_option maxRecDepth 20000 in
set_option maxHeartbeats 4000000 in
theorem ovB_ (a b c d L1 H1 L2 H2 : Nat) (hx : ∀ w : World, Calls Try.prog 45 #[.agg #[.float .f64 a, .float .f64 b]] w fun e w' => e = .returned (.agg #[.float .f64 L1, .float .f64 H1]) ∧ Kp w w') (hy : ∀ w : World, Calls Try.prog 45 #[.agg #[.float .f64 c, .float .f64 d]] w fun e w' => e = .returned (.agg #[.float .f64 L2, .float .f64 H2]) ∧ Kp w w') (hv1 : ∀ w : World, Calls Try.prog 44 #[.agg #[.float .f64 L1, .float .f64 H1]] w fun e w' => e = .returned (.bool false) ∧ Kp w w') (hv2 : ∀ w : World, Calls Try.prog 44 #[.agg #[.float .f64 L2, .float .f64 H2]] w fun e w' => e = .returned (.bool false) ∧ Kp w w') (t1 : (FloatKind.f64.format.order H1 H2 == some Ordering.lt) = false) (t2 : (FloatKind.f64.format.order H1 H2 == some Ordering.eq) = true) (t3 : (FloatKind.f64.format.order L1 L2 == some Ordering.gt || FloatKind.f64.format.order L1 L2 == some Ordering.eq) = true) (U : Int) (hu1 : ∀ w : World, Calls Try.prog 54 #[.agg #[.float .f64 L1, .float .f64 H1], .agg #[.float .f64 L2, .float .f64 H2]] w fun e w' => e = .returned (.int .i64 U) ∧ Kp w w') (w : World) : Calls Try.prog 38 #[.agg #[.float .f64 a, .float .f64 b], .agg #[.float .f64 c, .float .f64 d]] w fun e w' => e = .returned (.int .i64 (U)) ∧ Kp w w' := by
    go_enter Try.func38, Try.ntmps38
    go_upto_region 1 with fail
    go_cut [] (fun wx => H48 wx w.heap.size (.float .f64 L1) (.float .f64 H1) (.float .f64 L2) (.float .f64 H2) ∧ Kp w wx)
    case first =>
      go_region_with (first | (go_at_call_of 45 (Value.agg #[.float .f64 a, .float .f64 b]); refine (hx _).mono ?_; rintro e wx ⟨rfl, gx⟩; first | (have kx := Kp.trans ky gx; have sx := H48.keep sy gx; obtain ⟨⟨p0, p1, p2, p3⟩, ⟨p4, p5, p6, p7⟩⟩ := id sx) | (have kx : Kp w wx := Kp.trans (((Kp.refl w).alloc _).alloc _).drew gx; have sx := H48.keep (H48.new w (.float .f64 a) (.float .f64 b) (.float .f64 c) (.float .f64 d) 30 30) (Kp.trans (Kp.drew (Kp.refl _)) gx); obtain ⟨⟨p0, p1, p2, p3⟩, ⟨p4, p5, p6, p7⟩⟩ := id sx)) | (go_at_call_of 45 (Value.agg #[.float .f64 c, .float .f64 d]); refine (hy _).mono ?_; rintro e wy ⟨rfl, gy⟩; first | (have ky := Kp.trans kx gy; have sy := H48.keep sx gy; obtain ⟨⟨p0, p1, p2, p3⟩, ⟨p4, p5, p6, p7⟩⟩ := id sy) | (have ky : Kp w wy := Kp.trans (((Kp.refl w).alloc _).alloc _).drew gy; have sy := H48.keep (H48.new w (.float .f64 a) (.float .f64 b) (.float .f64 c) (.float .f64 d) 30 30) (Kp.trans (Kp.drew (Kp.refl _)) gy); obtain ⟨⟨p0, p1, p2, p3⟩, ⟨p4, p5, p6, p7⟩⟩ := id sy)))
      all_goals (
        go_wp2_with fail
        go_meet
        first | (exact ⟨H48.put (id sy : H48 wy w.heap.size (.float .f64 a) (.float .f64 b) (.float .f64 c) (.float .f64 d)) (.float .f64 L1) (.float .f64 H1) (.float .f64 L2) (.float .f64 H2), (((ky.setCell (Nat.le_refl _) _).setCell (Nat.le_refl _) _).setCell (Nat.le_succ _) _).setCell (Nat.le_succ _) _⟩) | (exact ⟨H48.put (id sx : H48 wx w.heap.size (.float .f64 a) (.float .f64 b) (.float .f64 c) (.float .f64 d)) (.float .f64 L1) (.float .f64 H1) (.float .f64 L2) (.float .f64 H2), (((kx.setCell (Nat.le_refl _) _).setCell (Nat.le_refl _) _).setCell (Nat.le_succ _) _).setCell (Nat.le_succ _) _⟩))
    case rest =>
    obtain ⟨sw, kw⟩ := hcut
    obtain ⟨⟨p0, p1, p2, p3⟩, ⟨p4, p5, p6, p7⟩⟩ := id sw
    go_wp2_with (first | (go_at_call_of 44 (Value.agg #[.float .f64 L1, .float .f64 H1]); refine (hv1 _).mono ?_; rintro e wv ⟨rfl, gv⟩; replace kw := Kp.trans kw gv; replace sw := H48.keep sw gv; clear p0 p1 p2 p3 p4 p5 p6 p7; obtain ⟨⟨p0, p1, p2, p3⟩, ⟨p4, p5, p6, p7⟩⟩ := id sw) | (go_at_call_of 44 (Value.agg #[.float .f64 L2, .float .f64 H2]); refine (hv2 _).mono ?_; rintro e wv ⟨rfl, gv⟩; replace kw := Kp.trans kw gv; replace sw := H48.keep sw gv; clear p0 p1 p2 p3 p4 p5 p6 p7; obtain ⟨⟨p0, p1, p2, p3⟩, ⟨p4, p5, p6, p7⟩⟩ := id sw) | (go_at_call 54; refine (hu1 _).mono ?_; rintro e wu ⟨rfl, gu⟩; replace kw := Kp.trans kw gu))
    exact bodyPost_ret (v := .int .i64 (U)) (by simp [results, Try.results38, go_sem]) rfl ⟨rfl, kw⟩
end Go.Proofs.Ythajkngngdnidaa
