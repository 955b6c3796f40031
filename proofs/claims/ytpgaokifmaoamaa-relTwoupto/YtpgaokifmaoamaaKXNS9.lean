import Derived.Test.YtpgaokifmaoamaaProg
import Derived.Test.YtpgaokifmaoamaaKXA0
import Derived.Test.YtpgaokifmaoamaaKXQF
import Derived.Test.YtpgaokifmaoamaaKQA
import Derived.Test.YtpgaokifmaoamaaKXQU
import Derived.Test.YtpgaokifmaoamaaKXEA
import Derived.Test.YtpgaokifmaoamaaKXNR
import Derived.WalkKit
import Derived.ProofKit
import Derived.RowKit3
import Derived.WalkSpells
import Derived.StillTactics
import Derived.Deep.QuietTactic
import Derived.BigQuiet
import Derived.Below
import Derived.Deep.OwnRows
import Derived.OwnWalk
import Derived.Laws.BitsAllLaws
import Derived.Laws.Slices
import Derived.Laws.Bits64b
import Derived.Laws.FloatArith
import Derived.Deep.RegionHeld3
import Derived.Deep.CutRange
import Derived.Deep.DeepCutAuto
namespace Go.Proofs.Ytpgaokifmaoamaa
open Go.RowKit

/-- two blocks of two cells, one behind the other -/
def H48 (w : World) (B : Nat) (a b c d : Value) : Prop := Fq.H2 w B a b ∧ Fq.H2 w (B + 1) c d
theorem H48.keep {W w : World} {B : Nat} {a b c d : Value} (h : H48 W B a b c d) (g : Kp W w) : H48 w B a b c d := ⟨Fq.H2.keep h.1 g, Fq.H2.keep h.2 g⟩
theorem H48.new (w : World) (a b c d : Value) (s t : TypeId) : H48 ((w.alloc (.cells #[a, b] s)).alloc (.cells #[c, d] t)) w.heap.size a b c d := by
  refine ⟨?_, ?_⟩ <;> (unfold Fq.H2; simp [go_sem])
theorem H48.put {w : World} {B : Nat} {a b c d : Value} (h : H48 w B a b c d) (a' b' c' d' : Value) : H48 ((((w.setCell ⟨B, 0, none⟩ a').setCell ⟨B, 1, none⟩ b').setCell ⟨B + 1, 0, none⟩ c').setCell ⟨B + 1, 1, none⟩ d') B a' b' c' d' := by
  refine ⟨?_, ?_⟩
  · exact Fq.H2.far (Fq.H2.put h.1 a' b') (by omega) c' d'
  · exact Fq.H2.put (Fq.H2.far h.2 (by omega) a' b') c' d'
set_option maxRecDepth 20000 in
set_option maxHeartbeats 2000000 in
theorem subsetA_ (a b c d L1 H1 L2 H2 : Nat) (hx : ∀ w : World, Calls Try.prog 23 #[.agg #[.float .f64 a, .float .f64 b]] w fun e w' => e = .returned (.agg #[.float .f64 L1, .float .f64 H1]) ∧ Kp w w') (hy : ∀ w : World, Calls Try.prog 23 #[.agg #[.float .f64 c, .float .f64 d]] w fun e w' => e = .returned (.agg #[.float .f64 L2, .float .f64 H2]) ∧ Kp w w') (B1 B2 : Bool) (t1 : (FloatKind.f64.format.order L2 L1 == some Ordering.lt || FloatKind.f64.format.order L2 L1 == some Ordering.eq) = B1) (t2 : (FloatKind.f64.format.order H1 H2 == some Ordering.lt || FloatKind.f64.format.order H1 H2 == some Ordering.eq) = B2) (w : World) : Calls Try.prog 12 #[.agg #[.float .f64 a, .float .f64 b], .agg #[.float .f64 c, .float .f64 d]] w fun e w' => e = .returned (.bool (B1 && B2)) ∧ Kp w w' := by
    go_enter Try.func12, Try.ntmps12
    go_upto_region 1 with fail
    go_cut [] (fun wx => H48 wx w.heap.size (.float .f64 L1) (.float .f64 H1) (.float .f64 L2) (.float .f64 H2) ∧ Kp w wx)
    case first =>
      go_region_with (first | (go_at_call_of 23 (Value.agg #[.float .f64 a, .float .f64 b]); refine (hx _).mono ?_; rintro e wx ⟨rfl, gx⟩; first | (have kx := Kp.trans ky gx; have sx := H48.keep sy gx; obtain ⟨⟨p0, p1, p2, p3⟩, ⟨p4, p5, p6, p7⟩⟩ := id sx) | (have kx : Kp w wx := Kp.trans (((Kp.refl w).alloc _).alloc _).drew gx; have sx := H48.keep (H48.new w (.float .f64 a) (.float .f64 b) (.float .f64 c) (.float .f64 d) 34 34) (Kp.trans (Kp.drew (Kp.refl _)) gx); obtain ⟨⟨p0, p1, p2, p3⟩, ⟨p4, p5, p6, p7⟩⟩ := id sx)) | (go_at_call_of 23 (Value.agg #[.float .f64 c, .float .f64 d]); refine (hy _).mono ?_; rintro e wy ⟨rfl, gy⟩; first | (have ky := Kp.trans kx gy; have sy := H48.keep sx gy; obtain ⟨⟨p0, p1, p2, p3⟩, ⟨p4, p5, p6, p7⟩⟩ := id sy) | (have ky : Kp w wy := Kp.trans (((Kp.refl w).alloc _).alloc _).drew gy; have sy := H48.keep (H48.new w (.float .f64 a) (.float .f64 b) (.float .f64 c) (.float .f64 d) 34 34) (Kp.trans (Kp.drew (Kp.refl _)) gy); obtain ⟨⟨p0, p1, p2, p3⟩, ⟨p4, p5, p6, p7⟩⟩ := id sy)))
      all_goals (
        go_wp2_with fail
        go_meet
        first | (exact ⟨H48.put (id sy : H48 wy w.heap.size (.float .f64 a) (.float .f64 b) (.float .f64 c) (.float .f64 d)) (.float .f64 L1) (.float .f64 H1) (.float .f64 L2) (.float .f64 H2), (((ky.setCell (Nat.le_refl _) _).setCell (Nat.le_refl _) _).setCell (Nat.le_succ _) _).setCell (Nat.le_succ _) _⟩) | (exact ⟨H48.put (id sx : H48 wx w.heap.size (.float .f64 a) (.float .f64 b) (.float .f64 c) (.float .f64 d)) (.float .f64 L1) (.float .f64 H1) (.float .f64 L2) (.float .f64 H2), (((kx.setCell (Nat.le_refl _) _).setCell (Nat.le_refl _) _).setCell (Nat.le_succ _) _).setCell (Nat.le_succ _) _⟩))
    case rest =>
    obtain ⟨sw, kw⟩ := hcut
    obtain ⟨⟨p0, p1, p2, p3⟩, ⟨p4, p5, p6, p7⟩⟩ := id sw
    cases B1 <;> cases B2
    all_goals (
      go_wp2
      exact bodyPost_ret (v := .bool _) (by simp [results, Try.results12, go_sem]) rfl ⟨rfl, (by repeat (with_reducible (first | assumption | exact Kp.refl _ | apply Kp.drew | apply Kp.alloc | apply Kp.drewN | (refine Kp.setCell ?_ (by first | omega | (simp <;> omega)) _) | (refine Kp.trans ?_ (by assumption)))))⟩)
theorem subset9_ (a b c d : Nat) (L1 H1 L2 H2 : Int) (hx : Rd a b L1 H1) (hy : Rd c d L2 H2) (w : World) : Calls Try.prog 12 #[.agg #[.float .f64 a, .float .f64 b], .agg #[.float .f64 c, .float .f64 d]] w fun e w' => e = .returned (.bool (decide (L2 ≤ L1 ∧ H1 ≤ H2))) ∧ Kp w w' := by
  have h := subsetA_ a b c d _ _ _ _ hx.call hy.call _ _ rfl rfl w
  rw [ple9 L2 L1 hy.vd.lo hx.vd.lo, ple9 H1 H2 hx.vd.hi hy.vd.hi] at h
  rw [show decide (L2 ≤ L1 ∧ H1 ≤ H2) = (decide (L2 ≤ L1) && decide (H1 ≤ H2)) from by simp]
  exact h

/-- three blocks of two cells, one behind the other -/
def H6 (w : World) (B : Nat) (a b c d e f : Value) : Prop := Fq.H2 w B a b ∧ Fq.H2 w (B + 1) c d ∧ Fq.H2 w (B + 2) e f
theorem H6.keep {W w : World} {B : Nat} {a b c d e f : Value} (h : H6 W B a b c d e f) (g : Kp W w) : H6 w B a b c d e f := ⟨Fq.H2.keep h.1 g, Fq.H2.keep h.2.1 g, Fq.H2.keep h.2.2 g⟩
theorem H6.new (w : World) (a b c d e f : Value) (s t u : TypeId) : H6 (((w.alloc (.cells #[a, b] s)).alloc (.cells #[c, d] t)).alloc (.cells #[e, f] u)) w.heap.size a b c d e f := by
  refine ⟨?_, ?_, ?_⟩ <;> (unfold Fq.H2; simp [go_sem])
theorem H6.put {w : World} {B : Nat} {a b c d e f : Value} (h : H6 w B a b c d e f) (a' b' c' d' : Value) : H6 ((((w.setCell ⟨B, 0, none⟩ a').setCell ⟨B, 1, none⟩ b').setCell ⟨B + 1, 0, none⟩ c').setCell ⟨B + 1, 1, none⟩ d') B a' b' c' d' e f := by
  refine ⟨?_, ?_, ?_⟩
  · exact Fq.H2.far (Fq.H2.put h.1 a' b') (by omega) c' d'
  · exact Fq.H2.put (Fq.H2.far h.2.1 (by omega) a' b') c' d'
  · exact Fq.H2.far (Fq.H2.far h.2.2 (by omega) a' b') (by omega) c' d'
set_option maxRecDepth 20000 in
set_option maxHeartbeats 4000000 in
theorem meetA_ (a b c d L1 H1 L2 H2 NL NH : Nat) (hx : ∀ w : World, Calls Try.prog 23 #[.agg #[.float .f64 a, .float .f64 b]] w fun e w' => e = .returned (.agg #[.float .f64 L1, .float .f64 H1]) ∧ Kp w w') (hy : ∀ w : World, Calls Try.prog 23 #[.agg #[.float .f64 c, .float .f64 d]] w fun e w' => e = .returned (.agg #[.float .f64 L2, .float .f64 H2]) ∧ Kp w w') (ZL ZH : Nat) (hm1 : ∀ (ts : Array TypeId) (t : TypeId) (w : World), (Builtin.max_ ts t #[.float .f64 L1, .float .f64 L2]).run Try.prog w = .ok (.float .f64 NL) w) (hm2 : ∀ (ts : Array TypeId) (t : TypeId) (w : World), (Builtin.min_ ts t #[.float .f64 H1, .float .f64 H2]).run Try.prog w = .ok (.float .f64 NH) w) (hz : ∀ w : World, Calls Try.prog 23 #[.agg #[.float .f64 NL, .float .f64 NH]] w fun e w' => e = .returned (.agg #[.float .f64 ZL, .float .f64 ZH]) ∧ Kp w w') (w : World) : Calls Try.prog 15 #[.agg #[.float .f64 a, .float .f64 b], .agg #[.float .f64 c, .float .f64 d]] w fun e w' => e = .returned (.agg #[.float .f64 ZL, .float .f64 ZH]) ∧ Kp w w' := by
    go_enter Try.func15, Try.ntmps15
    go_upto_region 1 with fail
    go_cut [] (fun wx => H6 wx w.heap.size (.float .f64 L1) (.float .f64 H1) (.float .f64 L2) (.float .f64 H2) (.float .f64 0) (.float .f64 0) ∧ Kp w wx)
    case first =>
      go_region_with (first | (go_at_call_of 23 (Value.agg #[.float .f64 a, .float .f64 b]); refine (hx _).mono ?_; rintro e wx ⟨rfl, gx⟩; first | (have kx := Kp.trans ky gx; have sx := H6.keep sy gx; obtain ⟨⟨p0, p1, p2, p3⟩, ⟨p4, p5, p6, p7⟩, ⟨p8, p9, pa, pb⟩⟩ := id sx) | (have kx : Kp w wx := Kp.trans ((((Kp.refl w).alloc _).alloc _).alloc _).drew gx; have sx := H6.keep (H6.new w (.float .f64 a) (.float .f64 b) (.float .f64 c) (.float .f64 d) (.float .f64 0) (.float .f64 0) 34 34 34) (Kp.trans (Kp.drew (Kp.refl _)) gx); obtain ⟨⟨p0, p1, p2, p3⟩, ⟨p4, p5, p6, p7⟩, ⟨p8, p9, pa, pb⟩⟩ := id sx)) | (go_at_call_of 23 (Value.agg #[.float .f64 c, .float .f64 d]); refine (hy _).mono ?_; rintro e wy ⟨rfl, gy⟩; first | (have ky := Kp.trans kx gy; have sy := H6.keep sx gy; obtain ⟨⟨p0, p1, p2, p3⟩, ⟨p4, p5, p6, p7⟩, ⟨p8, p9, pa, pb⟩⟩ := id sy) | (have ky : Kp w wy := Kp.trans ((((Kp.refl w).alloc _).alloc _).alloc _).drew gy; have sy := H6.keep (H6.new w (.float .f64 a) (.float .f64 b) (.float .f64 c) (.float .f64 d) (.float .f64 0) (.float .f64 0) 34 34 34) (Kp.trans (Kp.drew (Kp.refl _)) gy); obtain ⟨⟨p0, p1, p2, p3⟩, ⟨p4, p5, p6, p7⟩, ⟨p8, p9, pa, pb⟩⟩ := id sy)))
      all_goals (
        go_wp2_with fail
        go_meet
        first | (exact ⟨H6.put (id sy : H6 wy w.heap.size (.float .f64 a) (.float .f64 b) (.float .f64 c) (.float .f64 d) (.float .f64 0) (.float .f64 0)) (.float .f64 L1) (.float .f64 H1) (.float .f64 L2) (.float .f64 H2), (((ky.setCell (Nat.le_refl _) _).setCell (Nat.le_refl _) _).setCell (Nat.le_succ _) _).setCell (Nat.le_succ _) _⟩) | (exact ⟨H6.put (id sx : H6 wx w.heap.size (.float .f64 a) (.float .f64 b) (.float .f64 c) (.float .f64 d) (.float .f64 0) (.float .f64 0)) (.float .f64 L1) (.float .f64 H1) (.float .f64 L2) (.float .f64 H2), (((kx.setCell (Nat.le_refl _) _).setCell (Nat.le_refl _) _).setCell (Nat.le_succ _) _).setCell (Nat.le_succ _) _⟩))
    case rest =>
    obtain ⟨sw, kw⟩ := hcut
    obtain ⟨⟨p0, p1, p2, p3⟩, ⟨p4, p5, p6, p7⟩, ⟨p8, p9, pa, pb⟩⟩ := id sw
    go_wp2_with (first | (go_at_call_of 23 (Value.agg #[.float .f64 NL, .float .f64 NH]); refine (hz _).mono ?_; rintro e wv ⟨rfl, gv⟩; have kv := Kp.trans kw gv; have sv := H6.keep sw gv; obtain ⟨⟨u0, u1, u2, u3⟩, ⟨u4, u5, u6, u7⟩, ⟨u8, u9, ua, ub⟩⟩ := id sv))
    exact bodyPost_ret (v := .agg #[.float .f64 ZL, .float .f64 ZH]) (by simp [results, Try.results15, go_sem, u8, u9]) rfl ⟨rfl, (kv.setCell (by simp <;> omega) _).setCell (by simp <;> omega) _⟩
theorem meet9_ (a b c d : Nat) (L1 H1 L2 H2 : Int) (hx : Rd a b L1 H1) (hy : Rd c d L2 H2) (w : World) : Calls Try.prog 15 #[.agg #[.float .f64 a, .float .f64 b], .agg #[.float .f64 c, .float .f64 d]] w fun e w' => e = .returned (.agg #[.float .f64 (pw (iL L1 H1 L2 H2)), .float .f64 (pw (iH L1 H1 L2 H2))]) ∧ Kp w w' := by
  have e := read_meet L1 H1 L2 H2 hx.vd hy.vd
  have hz : ∀ w : World, Calls Try.prog 23 #[.agg #[.float .f64 (pw (max L1 L2)), .float .f64 (pw (min H1 H2))]] w fun e w' => e = .returned (.agg #[.float .f64 (pw (iL L1 H1 L2 H2)), .float .f64 (pw (iH L1 H1 L2 H2))]) ∧ Kp w w' := by
    intro w
    have g := Fq.read_ (pw (max L1 L2)) (pw (min H1 H2)) (pw_lt _ (bd_max _ _ hx.vd.lo hy.vd.lo)) (pw_lt _ (bd_min _ _ hx.vd.hi hy.vd.hi)) w
    rw [e.1, e.2] at g
    exact g
  exact meetA_ a b c d _ _ _ _ _ _ hx.call hy.call _ _ (max9_ L1 L2 hx.vd.lo hy.vd.lo) (min9_ H1 H2 hx.vd.hi hy.vd.hi) hz w
set_option maxRecDepth 20000 in
set_option maxHeartbeats 2000000 in
theorem disjA_ (a b c d ZL ZH : Nat) (V : Bool) (hi : ∀ w : World, Calls Try.prog 15 #[.agg #[.float .f64 a, .float .f64 b], .agg #[.float .f64 c, .float .f64 d]] w fun e w' => e = .returned (.agg #[.float .f64 ZL, .float .f64 ZH]) ∧ Kp w w') (hv : ∀ w : World, Calls Try.prog 24 #[.agg #[.float .f64 ZL, .float .f64 ZH]] w fun e w' => e = .returned (.bool V) ∧ Kp w w') (w : World) : Calls Try.prog 11 #[.agg #[.float .f64 a, .float .f64 b], .agg #[.float .f64 c, .float .f64 d]] w fun e w' => e = .returned (.bool V) ∧ Kp w w' := by
  go_enter Try.func11, Try.ntmps11
  go_wp2_with (first | (go_at_call 15; refine (hi _).mono ?_; rintro e w1 ⟨rfl, g1⟩; have k1 : Kp w w1 := Kp.trans (((Kp.refl w).alloc _).alloc _) g1) | (go_at_call 24; refine (hv _).mono ?_; rintro e w2 ⟨rfl, g2⟩; have k2 : Kp w w2 := Kp.trans k1 g2))
  exact bodyPost_ret (v := .bool V) (by simp [results, Try.results11, go_sem]) rfl ⟨rfl, k2⟩
theorem disj9_ (a b c d : Nat) (L1 H1 L2 H2 : Int) (hx : Rd a b L1 H1) (hy : Rd c d L2 H2) (w : World) : Calls Try.prog 11 #[.agg #[.float .f64 a, .float .f64 b], .agg #[.float .f64 c, .float .f64 d]] w fun e w' => e = .returned (.bool (decide (¬ max L1 L2 ≤ min H1 H2))) ∧ Kp w w' := by
  have h := disjA_ a b c d _ _ _ (meet9_ a b c d L1 H1 L2 H2 hx hy) (void9_ _ _ (vd_meet L1 H1 L2 H2 hx.vd hy.vd)) w
  rw [show decide (iL L1 H1 L2 H2 = 9218868437227405312) = decide (¬ max L1 L2 ≤ min H1 H2) from by
    congr 1; apply propext
    have h1 := hx.vd
    have h2 := hy.vd
    unfold VdZ at h1 h2
    unfold iL
    split <;> omega] at h
  exact h
set_option maxRecDepth 20000 in
set_option maxHeartbeats 4000000 in
theorem equalA_ (a b c d L1 H1 L2 H2 : Nat) (hx : ∀ w : World, Calls Try.prog 23 #[.agg #[.float .f64 a, .float .f64 b]] w fun e w' => e = .returned (.agg #[.float .f64 L1, .float .f64 H1]) ∧ Kp w w') (hy : ∀ w : World, Calls Try.prog 23 #[.agg #[.float .f64 c, .float .f64 d]] w fun e w' => e = .returned (.agg #[.float .f64 L2, .float .f64 H2]) ∧ Kp w w') (B1 B2 : Bool) (t1 : (FloatKind.f64.format.order L1 L2 == some Ordering.eq) = B1) (t2 : (FloatKind.f64.format.order H1 H2 == some Ordering.eq) = B2) (w : World) : Calls Try.prog 13 #[.agg #[.float .f64 a, .float .f64 b], .agg #[.float .f64 c, .float .f64 d]] w fun e w' => e = .returned (.bool (B1 && B2)) ∧ Kp w w' := by
  have q1 := Fq.eqInR L1 L2
  have q2 := Fq.eqInR H1 H2
  rw [t1] at q1
  rw [t2] at q2
  cases B1 <;> cases B2
  all_goals (
    go_enter Try.func13, Try.ntmps13
    go_wp2
    refine Fq.wp_region_grow (by kernel_rfl) (by kernel_rfl) (fun ι _ G hG hall => ?_)
    have cc0 : ∀ n, (G n).cell? ⟨w.heap.size, 0, none⟩ = some (.float .f64 a) := fun n => Fq.gkeep (hG n) (by simp [go_sem])
    have cc1 : ∀ n, (G n).cell? ⟨w.heap.size, 1, none⟩ = some (.float .f64 b) := fun n => Fq.gkeep (hG n) (by simp [go_sem])
    have cc2 : ∀ n, (G n).cell? ⟨w.heap.size + 1, 0, none⟩ = some (.float .f64 c) := fun n => Fq.gkeep (hG n) (by simp [go_sem])
    have cc3 : ∀ n, (G n).cell? ⟨w.heap.size + 1, 1, none⟩ = some (.float .f64 d) := fun n => Fq.gkeep (hG n) (by simp [go_sem])
    have kG : ∀ n, Kp w (G n) := fun n => Kp.trans (((Kp.refl w).alloc _).alloc _) (hG n)
    repeat (go_big_quiet_step (first | (go_at_call_of 23 (Value.agg #[.float .f64 a, .float .f64 b]); exact (hx _).mono (fun e w' h => ⟨h.1, hall _ (Fq.gtrans (hG _) h.2)⟩)) | (go_at_call_of 23 (Value.agg #[.float .f64 c, .float .f64 d]); exact (hy _).mono (fun e w' h => ⟨h.1, hall _ (Fq.gtrans (hG _) h.2)⟩))))
    refine wpQuiet_nil ?_
    rintro _ ⟨nq, rfl⟩
    have gq := kG nq
    clear cc0 cc1 cc2 cc3 hall hG kG
    go_wp2
    exact bodyPost_ret (v := .bool _) (by simp [results, Try.results13, go_sem]) rfl ⟨rfl, gq⟩)
theorem equal9_ (a b c d : Nat) (L1 H1 L2 H2 : Int) (hx : Rd a b L1 H1) (hy : Rd c d L2 H2) (w : World) : Calls Try.prog 13 #[.agg #[.float .f64 a, .float .f64 b], .agg #[.float .f64 c, .float .f64 d]] w fun e w' => e = .returned (.bool (decide (L1 = L2 ∧ H1 = H2))) ∧ Kp w w' := by
  have h := equalA_ a b c d _ _ _ _ hx.call hy.call _ _ rfl rfl w
  rw [peq9 L1 L2 hx.vd.lo hy.vd.lo, peq9 H1 H2 hx.vd.hi hy.vd.hi] at h
  rw [show decide (L1 = L2 ∧ H1 = H2) = (decide (L1 = L2) && decide (H1 = H2)) from by simp]
  exact h
set_option maxRecDepth 20000 in
set_option maxHeartbeats 1000000 in
theorem in9_ (a b : Nat) (w : World) : Calls Try.prog 8 #[.agg #[.int .u64 ((a : Nat) : Int), .int .u64 ((b : Nat) : Int)]] w fun e w' => e = .returned (.agg #[.float .f64 a, .float .f64 b]) ∧ Kp w w' := by
  have h1 := Fq.ff64 a
  have h2 := Fq.ff64 b
  generalize (a : Int) = X at h1 ⊢
  generalize (b : Int) = Y at h2 ⊢
  go_enter Try.func8, Try.ntmps8
  go_wp2
  go_region_held3 (fun w' => w'.cell? ⟨w.heap.size, 0, none⟩ = some (.int .u64 X) ∧ w'.cell? ⟨w.heap.size, 1, none⟩ = some (.int .u64 Y)) (simp [go_sem]) (fail)
  go_wp2
  exact bodyPost_ret (v := .agg #[.float .f64 a, .float .f64 b]) (by simp [results, Try.results8, go_sem]) rfl ⟨rfl, (by repeat (with_reducible (first | assumption | exact Kp.refl _ | apply Kp.drew | apply Kp.alloc | apply Kp.drewN | (refine Kp.setCell ?_ (by first | omega | (simp <;> omega)) _) | (refine Kp.trans ?_ (by assumption)))))⟩
set_option maxRecDepth 20000 in
set_option maxHeartbeats 1000000 in
theorem of9_ (a b : Nat) (w : World) : Calls Try.prog 16 #[.float .f64 a, .float .f64 b] w fun e w' => e = .returned (.agg #[.float .f64 a, .float .f64 b]) ∧ Kp w w' := by
  go_enter Try.func16, Try.ntmps16
  go_wp2
  exact bodyPost_ret (v := .agg #[.float .f64 a, .float .f64 b]) (by simp [results, Try.results16, go_sem]) rfl ⟨rfl, (by repeat (with_reducible (first | assumption | exact Kp.refl _ | apply Kp.drew | apply Kp.alloc | apply Kp.drewN | (refine Kp.setCell ?_ (by first | omega | (simp <;> omega)) _) | (refine Kp.trans ?_ (by assumption)))))⟩
theorem pw_of (x : Nat) (h : x ≤ 9218868437227405312) : pw (x : Int) = x := by
  unfold pw
  rw [show decide ((x : Int) < 0) = false from decide_eq_false (by omega), show ((x : Int)).natAbs = x from by omega]; rfl
theorem Rd.num (x y : Nat) (hx : x < 9218868437227405312) (hy : y ≤ 9218868437227405312) (h : x ≤ y) : Rd x y x y := by
  have g : VdZ (x : Int) (y : Int) := Or.inr (by omega)
  have r := Rd.of g
  rw [pw_of x (by omega), pw_of y hy] at r
  exact r
set_option maxRecDepth 20000 in
set_option maxHeartbeats 4000000 in
theorem awake9_ (w : World) : Calls Try.prog 4 #[] w fun e w' => e = .returned (.bool true) ∧ Kp w w' := by
  have r1 := Rd.num 4607182418800017408 4613937818241073152 (by decide) (by decide) (by decide)
  have r2 := Rd.num 4611686018427387904 4616189618054758400 (by decide) (by decide) (by decide)
  have r3 := Rd.num 4607182418800017408 4611686018427387904 (by decide) (by decide) (by decide)
  have hi := meet9_ _ _ _ _ _ _ _ _ r1 r2
  rw [show pw (iL ((4607182418800017408 : Nat) : Int) ((4613937818241073152 : Nat) : Int) ((4611686018427387904 : Nat) : Int) ((4616189618054758400 : Nat) : Int)) = 4611686018427387904 from by decide, show pw (iH ((4607182418800017408 : Nat) : Int) ((4613937818241073152 : Nat) : Int) ((4611686018427387904 : Nat) : Int) ((4616189618054758400 : Nat) : Int)) = 4613937818241073152 from by decide] at hi
  have s1 := subset9_ _ _ _ _ _ _ _ _ r3 r1
  have s2 := subset9_ _ _ _ _ _ _ _ _ r1 r3
  rw [show decide (((4607182418800017408 : Nat) : Int) ≤ ((4607182418800017408 : Nat) : Int) ∧ ((4611686018427387904 : Nat) : Int) ≤ ((4613937818241073152 : Nat) : Int)) = true from by decide] at s1
  rw [show decide (((4607182418800017408 : Nat) : Int) ≤ ((4607182418800017408 : Nat) : Int) ∧ ((4613937818241073152 : Nat) : Int) ≤ ((4611686018427387904 : Nat) : Int)) = false from by decide] at s2
  have q1 := Fq.eqInR 4611686018427387904 4611686018427387904
  have q2 := Fq.eqInR 4613937818241073152 4613937818241073152
  rw [show (FloatKind.f64.format.order 4611686018427387904 4611686018427387904 == some Ordering.eq) = true from by decide +kernel] at q1
  rw [show (FloatKind.f64.format.order 4613937818241073152 4613937818241073152 == some Ordering.eq) = true from by decide +kernel] at q2
  obtain ⟨PS, hPS⟩ : ∃ PS : Nat → Nat → Nat → Nat → Bool → Prop, PS = fun x1 x2 y1 y2 V => ∀ w : World, Calls Try.prog 12 #[.agg #[.float .f64 x1, .float .f64 x2], .agg #[.float .f64 y1, .float .f64 y2]] w fun e w' => e = .returned (.bool V) ∧ Kp w w' := ⟨_, rfl⟩
  have hs : ∀ x1 x2 y1 y2 V, PS x1 x2 y1 y2 V → ∀ w : World, Calls Try.prog 12 #[.agg #[.float .f64 x1, .float .f64 x2], .agg #[.float .f64 y1, .float .f64 y2]] w fun e w' => e = .returned (.bool V) ∧ Kp w w' := by
    intro x1 x2 y1 y2 V h
    rw [hPS] at h
    exact h
  have f1 : PS 4607182418800017408 4611686018427387904 4607182418800017408 4613937818241073152 true := by rw [hPS]; exact s1
  have f2 : PS 4607182418800017408 4613937818241073152 4607182418800017408 4611686018427387904 false := by rw [hPS]; exact s2
  clear hPS s1 s2 r1 r2 r3
  go_enter Try.func4, Try.ntmps4
  have kw : Kp w w := Kp.refl w
  go_wp2_with (first | (go_at_call 16; refine (of9_ _ _ _).mono ?_; rintro e wo ⟨rfl, go⟩; replace kw := Kp.trans kw go; clear go) | (go_at_call 15; refine (hi _).mono ?_; rintro e wi ⟨rfl, gi⟩; replace kw := Kp.trans kw gi; clear gi) | (go_at_call 12; refine (hs _ _ _ _ _ (by with_reducible first | exact f1 | exact f2) _).mono ?_; rintro e ws ⟨rfl, gs⟩; replace kw := Kp.trans kw gs; clear gs))
  exact bodyPost_ret (v := .bool true) (by simp [results, Try.results4, go_sem]) rfl ⟨rfl, kw⟩
end Go.Proofs.Ytpgaokifmaoamaa
