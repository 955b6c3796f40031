import Derived.Test.YthajkngngdnidaaProg
import Derived.Test.YthajkngngdnidaaKXA0
import Derived.Test.YthajkngngdnidaaKQM
import Derived.Test.YthajkngngdnidaaKQA
import Derived.Test.YthajkngngdnidaaKXQU
import Derived.Test.YthajkngngdnidaaKEM
import Derived.Test.YthajkngngdnidaaKEN
import Derived.Test.YthajkngngdnidaaKEA
import Derived.Test.YthajkngngdnidaaKEB
import Derived.Test.YthajkngngdnidaaKEH
import Derived.Test.YthajkngngdnidaaKEK
import Derived.Test.YthajkngngdnidaaKEO
import Derived.Test.YthajkngngdnidaaKER
import Derived.Test.YthajkngngdnidaaKES
import Derived.Test.YthajkngngdnidaaKNRv
import Derived.Test.YthajkngngdnidaaKNRm
import Derived.Test.YthajkngngdnidaaKNRa
import Derived.WalkKit
import Derived.ProofKit
import Derived.RowKit3
import Derived.WalkSpells
import Derived.StillTactics
import Derived.Deep.QuietTactic
import Derived.BigQuiet
import Derived.Below
import Derived.Deep.OwnRows
import Derived.OwnWalk
import Derived.Laws.BitsAllLaws
import Derived.Laws.Slices
import Derived.Laws.Bits64b
import Derived.Laws.FloatArith
import Derived.Deep.RegionHeld3
import Derived.Deep.CutRange
import Derived.Deep.DeepCutAuto
namespace Go.Proofs.Ythajkngngdnidaa
open Go.RowKit

/-- three blocks of two cells, one behind the other -/
def H6 (w : World) (B : Nat) (a b c d e f : Value) : Prop := Fq.H2 w B a b ∧ Fq.H2 w (B + 1) c d ∧ Fq.H2 w (B + 2) e f
theorem H6.keep {W w : World} {B : Nat} {a b c d e f : Value} (h : H6 W B a b c d e f) (g : Kp W w) : H6 w B a b c d e f := ⟨Fq.H2.keep h.1 g, Fq.H2.keep h.2.1 g, Fq.H2.keep h.2.2 g⟩
theorem H6.new (w : World) (a b c d e f : Value) (s t u : TypeId) : H6 (((w.alloc (.cells #[a, b] s)).alloc (.cells #[c, d] t)).alloc (.cells #[e, f] u)) w.heap.size a b c d e f := by
  refine ⟨?_, ?_, ?_⟩ <;> (unfold Fq.H2; simp [go_sem])
theorem H6.put {w : World} {B : Nat} {a b c d e f : Value} (h : H6 w B a b c d e f) (a' b' c' d' : Value) : H6 ((((w.setCell ⟨B, 0, none⟩ a').setCell ⟨B, 1, none⟩ b').setCell ⟨B + 1, 0, none⟩ c').setCell ⟨B + 1, 1, none⟩ d') B a' b' c' d' e f := by
  refine ⟨?_, ?_, ?_⟩
  · exact Fq.H2.far (Fq.H2.put h.1 a' b') (by omega) c' d'
  · exact Fq.H2.put (Fq.H2.far h.2.1 (by omega) a' b') c' d'
  · exact Fq.H2.far (Fq.H2.far h.2.2 (by omega) a' b') (by omega) c' d'
set_option maxRecDepth 20000 in
set_option maxHeartbeats 4000000 in
theorem meetA_ (a b c d L1 H1 L2 H2 NL NH : Nat) (hx : ∀ w : World, Calls Try.prog 45 #[.agg #[.float .f64 a, .float .f64 b]] w fun e w' => e = .returned (.agg #[.float .f64 L1, .float .f64 H1]) ∧ Kp w w') (hy : ∀ w : World, Calls Try.prog 45 #[.agg #[.float .f64 c, .float .f64 d]] w fun e w' => e = .returned (.agg #[.float .f64 L2, .float .f64 H2]) ∧ Kp w w') (ZL ZH : Nat) (hm1 : ∀ (ts : Array TypeId) (t : TypeId) (w : World), (Builtin.max_ ts t #[.float .f64 L1, .float .f64 L2]).run Try.prog w = .ok (.float .f64 NL) w) (hm2 : ∀ (ts : Array TypeId) (t : TypeId) (w : World), (Builtin.min_ ts t #[.float .f64 H1, .float .f64 H2]).run Try.prog w = .ok (.float .f64 NH) w) (hz : ∀ w : World, Calls Try.prog 45 #[.agg #[.float .f64 NL, .float .f64 NH]] w fun e w' => e = .returned (.agg #[.float .f64 ZL, .float .f64 ZH]) ∧ Kp w w') (w : World) : Calls Try.prog 40 #[.agg #[.float .f64 a, .float .f64 b], .agg #[.float .f64 c, .float .f64 d]] w fun e w' => e = .returned (.agg #[.float .f64 ZL, .float .f64 ZH]) ∧ Kp w w' := by
    go_enter Try.func40, Try.ntmps40
    go_upto_region 1 with fail
    go_cut [] (fun wx => H6 wx w.heap.size (.float .f64 L1) (.float .f64 H1) (.float .f64 L2) (.float .f64 H2) (.float .f64 0) (.float .f64 0) ∧ Kp w wx)
    case first =>
      go_region_with (first | (go_at_call_of 45 (Value.agg #[.float .f64 a, .float .f64 b]); refine (hx _).mono ?_; rintro e wx ⟨rfl, gx⟩; first | (have kx := Kp.trans ky gx; have sx := H6.keep sy gx; obtain ⟨⟨p0, p1, p2, p3⟩, ⟨p4, p5, p6, p7⟩, ⟨p8, p9, pa, pb⟩⟩ := id sx) | (have kx : Kp w wx := Kp.trans ((((Kp.refl w).alloc _).alloc _).alloc _).drew gx; have sx := H6.keep (H6.new w (.float .f64 a) (.float .f64 b) (.float .f64 c) (.float .f64 d) (.float .f64 0) (.float .f64 0) 30 30 30) (Kp.trans (Kp.drew (Kp.refl _)) gx); obtain ⟨⟨p0, p1, p2, p3⟩, ⟨p4, p5, p6, p7⟩, ⟨p8, p9, pa, pb⟩⟩ := id sx)) | (go_at_call_of 45 (Value.agg #[.float .f64 c, .float .f64 d]); refine (hy _).mono ?_; rintro e wy ⟨rfl, gy⟩; first | (have ky := Kp.trans kx gy; have sy := H6.keep sx gy; obtain ⟨⟨p0, p1, p2, p3⟩, ⟨p4, p5, p6, p7⟩, ⟨p8, p9, pa, pb⟩⟩ := id sy) | (have ky : Kp w wy := Kp.trans ((((Kp.refl w).alloc _).alloc _).alloc _).drew gy; have sy := H6.keep (H6.new w (.float .f64 a) (.float .f64 b) (.float .f64 c) (.float .f64 d) (.float .f64 0) (.float .f64 0) 30 30 30) (Kp.trans (Kp.drew (Kp.refl _)) gy); obtain ⟨⟨p0, p1, p2, p3⟩, ⟨p4, p5, p6, p7⟩, ⟨p8, p9, pa, pb⟩⟩ := id sy)))
      all_goals (
        go_wp2_with fail
        go_meet
        first | (exact ⟨H6.put (id sy : H6 wy w.heap.size (.float .f64 a) (.float .f64 b) (.float .f64 c) (.float .f64 d) (.float .f64 0) (.float .f64 0)) (.float .f64 L1) (.float .f64 H1) (.float .f64 L2) (.float .f64 H2), (((ky.setCell (Nat.le_refl _) _).setCell (Nat.le_refl _) _).setCell (Nat.le_succ _) _).setCell (Nat.le_succ _) _⟩) | (exact ⟨H6.put (id sx : H6 wx w.heap.size (.float .f64 a) (.float .f64 b) (.float .f64 c) (.float .f64 d) (.float .f64 0) (.float .f64 0)) (.float .f64 L1) (.float .f64 H1) (.float .f64 L2) (.float .f64 H2), (((kx.setCell (Nat.le_refl _) _).setCell (Nat.le_refl _) _).setCell (Nat.le_succ _) _).setCell (Nat.le_succ _) _⟩))
    case rest =>
    obtain ⟨sw, kw⟩ := hcut
    obtain ⟨⟨p0, p1, p2, p3⟩, ⟨p4, p5, p6, p7⟩, ⟨p8, p9, pa, pb⟩⟩ := id sw
    go_wp2_with (first | (go_at_call_of 45 (Value.agg #[.float .f64 NL, .float .f64 NH]); refine (hz _).mono ?_; rintro e wv ⟨rfl, gv⟩; have kv := Kp.trans kw gv; have sv := H6.keep sw gv; obtain ⟨⟨u0, u1, u2, u3⟩, ⟨u4, u5, u6, u7⟩, ⟨u8, u9, ua, ub⟩⟩ := id sv))
    exact bodyPost_ret (v := .agg #[.float .f64 ZL, .float .f64 ZH]) (by simp [results, Try.results40, go_sem, u8, u9]) rfl ⟨rfl, (kv.setCell (by simp <;> omega) _).setCell (by simp <;> omega) _⟩
theorem meet9_ (a b c d : Nat) (L1 H1 L2 H2 : Int) (hx : Rd a b L1 H1) (hy : Rd c d L2 H2) (w : World) : Calls Try.prog 40 #[.agg #[.float .f64 a, .float .f64 b], .agg #[.float .f64 c, .float .f64 d]] w fun e w' => e = .returned (.agg #[.float .f64 (pw (iL L1 H1 L2 H2)), .float .f64 (pw (iH L1 H1 L2 H2))]) ∧ Kp w w' := by
  have e := read_meet L1 H1 L2 H2 hx.vd hy.vd
  have hz : ∀ w : World, Calls Try.prog 45 #[.agg #[.float .f64 (pw (max L1 L2)), .float .f64 (pw (min H1 H2))]] w fun e w' => e = .returned (.agg #[.float .f64 (pw (iL L1 H1 L2 H2)), .float .f64 (pw (iH L1 H1 L2 H2))]) ∧ Kp w w' := by
    intro w
    have g := Fq.read_ (pw (max L1 L2)) (pw (min H1 H2)) (pw_lt _ (bd_max _ _ hx.vd.lo hy.vd.lo)) (pw_lt _ (bd_min _ _ hx.vd.hi hy.vd.hi)) w
    rw [e.1, e.2] at g
    exact g
  exact meetA_ a b c d _ _ _ _ _ _ hx.call hy.call _ _ (max9_ L1 L2 hx.vd.lo hy.vd.lo) (min9_ H1 H2 hx.vd.hi hy.vd.hi) hz w
set_option maxRecDepth 20000 in
set_option maxHeartbeats 2000000 in
theorem disjA_ (a b c d ZL ZH : Nat) (V : Bool) (hi : ∀ w : World, Calls Try.prog 40 #[.agg #[.float .f64 a, .float .f64 b], .agg #[.float .f64 c, .float .f64 d]] w fun e w' => e = .returned (.agg #[.float .f64 ZL, .float .f64 ZH]) ∧ Kp w w') (hv : ∀ w : World, Calls Try.prog 44 #[.agg #[.float .f64 ZL, .float .f64 ZH]] w fun e w' => e = .returned (.bool V) ∧ Kp w w') (w : World) : Calls Try.prog 28 #[.agg #[.float .f64 a, .float .f64 b], .agg #[.float .f64 c, .float .f64 d]] w fun e w' => e = .returned (.bool V) ∧ Kp w w' := by
  go_enter Try.func28, Try.ntmps28
  go_wp2_with (first | (go_at_call 40; refine (hi _).mono ?_; rintro e w1 ⟨rfl, g1⟩; have k1 : Kp w w1 := Kp.trans (((Kp.refl w).alloc _).alloc _) g1) | (go_at_call 44; refine (hv _).mono ?_; rintro e w2 ⟨rfl, g2⟩; have k2 : Kp w w2 := Kp.trans k1 g2))
  exact bodyPost_ret (v := .bool V) (by simp [results, Try.results28, go_sem]) rfl ⟨rfl, k2⟩
theorem disj9_ (a b c d : Nat) (L1 H1 L2 H2 : Int) (hx : Rd a b L1 H1) (hy : Rd c d L2 H2) (w : World) : Calls Try.prog 28 #[.agg #[.float .f64 a, .float .f64 b], .agg #[.float .f64 c, .float .f64 d]] w fun e w' => e = .returned (.bool (decide (¬ max L1 L2 ≤ min H1 H2))) ∧ Kp w w' := by
  have h := disjA_ a b c d _ _ _ (meet9_ a b c d L1 H1 L2 H2 hx hy) (void9_ _ _ (vd_meet L1 H1 L2 H2 hx.vd hy.vd)) w
  rw [show decide (iL L1 H1 L2 H2 = 9218868437227405312) = decide (¬ max L1 L2 ≤ min H1 H2) from by
    congr 1; apply propext
    have h1 := hx.vd
    have h2 := hy.vd
    unfold VdZ at h1 h2
    unfold iL
    split <;> omega] at h
  exact h
set_option maxRecDepth 20000 in
set_option maxHeartbeats 2000000 in
theorem isempA_ (a b ZL ZH : Nat) (V : Bool) (hx : ∀ w : World, Calls Try.prog 45 #[.agg #[.float .f64 a, .float .f64 b]] w fun e w' => e = .returned (.agg #[.float .f64 ZL, .float .f64 ZH]) ∧ Kp w w') (hv : ∀ w : World, Calls Try.prog 44 #[.agg #[.float .f64 ZL, .float .f64 ZH]] w fun e w' => e = .returned (.bool V) ∧ Kp w w') (w : World) : Calls Try.prog 13 #[.agg #[.float .f64 a, .float .f64 b]] w fun e w' => e = .returned (.bool V) ∧ Kp w w' := by
  go_enter Try.func13, Try.ntmps13
  go_wp2_with (first | (go_at_call 45; refine (hx _).mono ?_; rintro e w1 ⟨rfl, g1⟩; have k1 : Kp w w1 := Kp.trans ((Kp.refl w).alloc _) g1) | (go_at_call 44; refine (hv _).mono ?_; rintro e w2 ⟨rfl, g2⟩; have k2 : Kp w w2 := Kp.trans k1 g2))
  exact bodyPost_ret (v := .bool V) (by simp [results, Try.results13, go_sem]) rfl ⟨rfl, k2⟩
theorem isemp9_ (a b : Nat) (L H : Int) (hx : Rd a b L H) (w : World) : Calls Try.prog 13 #[.agg #[.float .f64 a, .float .f64 b]] w fun e w' => e = .returned (.bool (decide (L = 9218868437227405312))) ∧ Kp w w' :=
  isempA_ a b _ _ _ hx.call (void9_ L H hx.vd) w
set_option maxRecDepth 20000 in
set_option maxHeartbeats 4000000 in
theorem equalA_ (a b c d L1 H1 L2 H2 : Nat) (hx : ∀ w : World, Calls Try.prog 45 #[.agg #[.float .f64 a, .float .f64 b]] w fun e w' => e = .returned (.agg #[.float .f64 L1, .float .f64 H1]) ∧ Kp w w') (hy : ∀ w : World, Calls Try.prog 45 #[.agg #[.float .f64 c, .float .f64 d]] w fun e w' => e = .returned (.agg #[.float .f64 L2, .float .f64 H2]) ∧ Kp w w') (B1 B2 : Bool) (t1 : (FloatKind.f64.format.order L1 L2 == some Ordering.eq) = B1) (t2 : (FloatKind.f64.format.order H1 H2 == some Ordering.eq) = B2) (w : World) : Calls Try.prog 22 #[.agg #[.float .f64 a, .float .f64 b], .agg #[.float .f64 c, .float .f64 d]] w fun e w' => e = .returned (.bool (B1 && B2)) ∧ Kp w w' := by
  have q1 := Fq.eqInR L1 L2
  have q2 := Fq.eqInR H1 H2
  rw [t1] at q1
  rw [t2] at q2
  cases B1 <;> cases B2
  all_goals (
    go_enter Try.func22, Try.ntmps22
    go_wp2
    refine Fq.wp_region_grow (by kernel_rfl) (by kernel_rfl) (fun ι _ G hG hall => ?_)
    have cc0 : ∀ n, (G n).cell? ⟨w.heap.size, 0, none⟩ = some (.float .f64 a) := fun n => Fq.gkeep (hG n) (by simp [go_sem])
    have cc1 : ∀ n, (G n).cell? ⟨w.heap.size, 1, none⟩ = some (.float .f64 b) := fun n => Fq.gkeep (hG n) (by simp [go_sem])
    have cc2 : ∀ n, (G n).cell? ⟨w.heap.size + 1, 0, none⟩ = some (.float .f64 c) := fun n => Fq.gkeep (hG n) (by simp [go_sem])
    have cc3 : ∀ n, (G n).cell? ⟨w.heap.size + 1, 1, none⟩ = some (.float .f64 d) := fun n => Fq.gkeep (hG n) (by simp [go_sem])
    have kG : ∀ n, Kp w (G n) := fun n => Kp.trans (((Kp.refl w).alloc _).alloc _) (hG n)
    repeat (go_big_quiet_step (first | (go_at_call_of 45 (Value.agg #[.float .f64 a, .float .f64 b]); exact (hx _).mono (fun e w' h => ⟨h.1, hall _ (Fq.gtrans (hG _) h.2)⟩)) | (go_at_call_of 45 (Value.agg #[.float .f64 c, .float .f64 d]); exact (hy _).mono (fun e w' h => ⟨h.1, hall _ (Fq.gtrans (hG _) h.2)⟩))))
    refine wpQuiet_nil ?_
    rintro _ ⟨nq, rfl⟩
    have gq := kG nq
    clear cc0 cc1 cc2 cc3 hall hG kG
    go_wp2
    exact bodyPost_ret (v := .bool _) (by simp [results, Try.results22, go_sem]) rfl ⟨rfl, gq⟩)
theorem equal9_ (a b c d : Nat) (L1 H1 L2 H2 : Int) (hx : Rd a b L1 H1) (hy : Rd c d L2 H2) (w : World) : Calls Try.prog 22 #[.agg #[.float .f64 a, .float .f64 b], .agg #[.float .f64 c, .float .f64 d]] w fun e w' => e = .returned (.bool (decide (L1 = L2 ∧ H1 = H2))) ∧ Kp w w' := by
  have h := equalA_ a b c d _ _ _ _ hx.call hy.call _ _ rfl rfl w
  rw [peq9 L1 L2 hx.vd.lo hy.vd.lo, peq9 H1 H2 hx.vd.hi hy.vd.hi] at h
  rw [show decide (L1 = L2 ∧ H1 = H2) = (decide (L1 = L2) && decide (H1 = H2)) from by simp]
  exact h
end Go.Proofs.Ythajkngngdnidaa
