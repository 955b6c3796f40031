import Derived.Test.YtnjbheammpdjfaaProg
import Derived.Test.YtnjbheammpdjfaaKXA0
import Derived.Test.YtnjbheammpdjfaaKXQF
import Derived.Test.YtnjbheammpdjfaaKQA
import Derived.Test.YtnjbheammpdjfaaKXQU
import Derived.Test.YtnjbheammpdjfaaKXEA
import Derived.Test.YtnjbheammpdjfaaKXNR
import Derived.Test.YtnjbheammpdjfaaKXNS9
import Derived.Test.YtnjbheammpdjfaaKQP
import Derived.WalkKit
import Derived.ProofKit
import Derived.RowKit3
import Derived.WalkSpells
import Derived.StillTactics
import Derived.Deep.QuietTactic
import Derived.BigQuiet
import Derived.Below
import Derived.Deep.OwnRows
import Derived.OwnWalk
import Derived.Laws.BitsAllLaws
import Derived.Laws.Slices
import Derived.Laws.Bits64b
import Derived.Laws.FloatArith
import Derived.Deep.RegionHeld3
import Derived.Deep.CutRange
import Derived.Deep.DeepCutAuto
namespace Go.Proofs.Ytnjbheammpdjfaa
open Go.RowKit
set_option maxRecDepth 20000 in
set_option maxHeartbeats 2000000 in
theorem cutM_ (L H C : Nat) (hc : ∀ w : World, Calls Try.prog 22 #[.agg #[.float .f64 L, .float .f64 H]] w fun e w' => e = .returned (.bool true) ∧ Kp w w') (hm : ∀ w : World, Calls Try.prog 67 #[.agg #[.float .f64 L, .float .f64 H]] w fun e w' => e = .returned (.float .f64 C) ∧ Kp w w') (w : World) : Calls Try.prog 45 #[.agg #[.float .f64 L, .float .f64 H]] w fun e w' => e = .returned (.float .f64 C) ∧ Kp w w' := by
  go_enter Try.func45, Try.ntmps45
  go_wp2_with (first | (go_at_call 22; refine (hc _).mono ?_; rintro e w1 ⟨rfl, g1⟩; have k1 : Kp w w1 := Kp.trans ((Kp.refl w).alloc _) g1; have q0 := Fq.H2.keep (Fq.H2.new w (.float .f64 L) (.float .f64 H) 25) g1; obtain ⟨x0, x1, x2, x3⟩ := id q0) | (go_at_call 67; refine (hm _).mono ?_; rintro e w2 ⟨rfl, g2⟩))
  exact bodyPost_ret (v := .float .f64 C) (by simp [results, Try.results45, go_sem]) rfl ⟨rfl, (Kp.trans k1 g2)⟩
set_option maxRecDepth 20000 in
set_option maxHeartbeats 2000000 in
theorem cutP_ (L H C : Nat) (p q : Int) (bp : -9218868437227405312 ≤ p ∧ p ≤ 9218868437227405312) (bq : -9218868437227405312 ≤ q ∧ q ≤ 9218868437227405312) (hc : ∀ w : World, Calls Try.prog 22 #[.agg #[.float .f64 L, .float .f64 H]] w fun e w' => e = .returned (.bool false) ∧ Kp w w') (h1 : ∀ w : World, Calls Try.prog 63 #[.float .f64 L] w fun e w' => e = .returned (.tuple #[.int .i64 p, .bool true]) ∧ Kp w w') (h2 : ∀ w : World, Calls Try.prog 63 #[.float .f64 H] w fun e w' => e = .returned (.tuple #[.int .i64 q, .bool true]) ∧ Kp w w') (h3 : ∀ w : World, Calls Try.prog 66 #[.int .i64 (p / 2 + q / 2)] w fun e w' => e = .returned (.tuple #[.float .f64 C, .bool true]) ∧ Kp w w') (w : World) : Calls Try.prog 45 #[.agg #[.float .f64 L, .float .f64 H]] w fun e w' => e = .returned (.float .f64 C) ∧ Kp w w' := by
  obtain ⟨R, hR⟩ : ∃ R, R = p / 2 + q / 2 := ⟨_, rfl⟩
  have s1 : Int.shiftRight p 1 = p / 2 := by rw [show Int.shiftRight p 1 = p >>> 1 from rfl, Int.shiftRight_eq_div_pow]; rfl
  have s2 : Int.shiftRight q 1 = q / 2 := by rw [show Int.shiftRight q 1 = q >>> 1 from rfl, Int.shiftRight_eq_div_pow]; rfl
  have s3 : wrap64 (p / 2 + q / 2) = R := by rw [hR]; unfold wrap64; omega
  rw [← hR] at h3
  clear hR bp bq
  go_enter Try.func45, Try.ntmps45
  go_wp2_with (first | (go_at_call 22; refine (hc _).mono ?_; rintro e w1 ⟨rfl, g1⟩; have k1 : Kp w w1 := Kp.trans ((Kp.refl w).alloc _) g1; have q0 := Fq.H2.keep (Fq.H2.new w (.float .f64 L) (.float .f64 H) 25) g1; obtain ⟨x0, x1, x2, x3⟩ := id q0) | (go_at_call_of 63 (Value.float .f64 L); refine (h1 _).mono ?_; rintro e w2 ⟨rfl, g2⟩; have k2 := Kp.trans k1 g2; obtain ⟨y0, y1, y2, y3⟩ := Fq.H2.keep q0 g2) | (go_at_call_of 63 (Value.float .f64 H); refine (h2 _).mono ?_; rintro e w3 ⟨rfl, g3⟩; have k3 := Kp.trans k2 g3) | (go_at_call 66; refine (h3 _).mono ?_; rintro e w4 ⟨rfl, g4⟩; have k4 := Kp.trans k3 g4))
  exact bodyPost_ret (v := .float .f64 C) (by simp [results, Try.results45, go_sem]) rfl ⟨rfl, k4⟩
set_option maxRecDepth 20000 in
set_option maxHeartbeats 4000000 in
theorem bisN_ (a b L H U : Nat) (hx : ∀ w : World, Calls Try.prog 37 #[.agg #[.float .f64 a, .float .f64 b]] w fun e w' => e = .returned (.agg #[.float .f64 L, .float .f64 H]) ∧ Kp w w') (hu : ∀ w : World, Calls Try.prog 44 #[.float .f64 L] w fun e w' => e = .returned (.float .f64 U) ∧ Kp w w') (t1 : (FloatKind.f64.format.order U H == some Ordering.gt || FloatKind.f64.format.order U H == some Ordering.eq) = true) (w : World) : Calls Try.prog 24 #[.agg #[.float .f64 a, .float .f64 b]] w fun e w' => e = .returned (.tuple #[.agg #[.float .f64 0, .float .f64 0], .agg #[.float .f64 0, .float .f64 0], .bool false]) ∧ Kp w w' := by
  go_enter Try.func24, Try.ntmps24
  go_upto_region 2 with (first | (go_at_call 37; refine (hx _).mono ?_; rintro e w1 ⟨rfl, g1⟩; have k1 : Kp w w1 := Kp.trans ((((Kp.refl w).alloc _).alloc _).alloc _) g1; have s1 := H6.keep (H6.new w (.float .f64 a) (.float .f64 b) (.float .f64 0) (.float .f64 0) (.float .f64 0) (.float .f64 0) 25 25 25) g1; obtain ⟨⟨p0, p1, p2, p3⟩, ⟨p4, p5, p6, p7⟩, ⟨p8, p9, pa, pb⟩⟩ := id s1))
  have s2 : H6 ((w1.setCell ⟨w.heap.size, 0, none⟩ (.float .f64 L)).setCell ⟨w.heap.size, 1, none⟩ (.float .f64 H)) w.heap.size (.float .f64 L) (.float .f64 H) (.float .f64 0) (.float .f64 0) (.float .f64 0) (.float .f64 0) := ⟨Fq.H2.put s1.1 _ _, Fq.H2.far s1.2.1 (by omega) _ _, Fq.H2.far s1.2.2 (by omega) _ _⟩
  have kW : Kp w ((w1.setCell ⟨w.heap.size, 0, none⟩ (.float .f64 L)).setCell ⟨w.heap.size, 1, none⟩ (.float .f64 H)) := (k1.setCell (Nat.le_refl _) _).setCell (Nat.le_refl _) _
  generalize hW : (w1.setCell ⟨w.heap.size, 0, none⟩ (.float .f64 L)).setCell ⟨w.heap.size, 1, none⟩ (.float .f64 H) = W at s2 kW ⊢
  clear hW s1 p0 p1 p2 p3 p4 p5 p6 p7 p8 p9 pa pb g1 k1
  refine Fq.wp_region_grow (by kernel_rfl) (by kernel_rfl) (fun ι _ G hG hall => ?_)
  have cc0 : ∀ n, (G n).cell? ⟨w.heap.size, 0, none⟩ = some (.float .f64 L) := fun n => Fq.gkeep (hG n) s2.1.1
  have cc1 : ∀ n, (G n).cell? ⟨w.heap.size, 1, none⟩ = some (.float .f64 H) := fun n => Fq.gkeep (hG n) s2.1.2.1
  repeat (go_big_quiet_step (first | (go_at_call 44; exact (hu _).mono (fun e w' h => ⟨h.1, hall _ (Fq.gtrans (hG _) h.2)⟩))))
  refine wpQuiet_nil ?_
  rintro _ ⟨nq, rfl⟩
  have gq : Kp W (G nq) := hG nq
  replace s2 := H6.keep s2 gq
  replace kW := Kp.trans kW gq
  generalize G nq = W at s2 kW ⊢
  clear cc0 cc1 hall hG gq
  obtain ⟨⟨p0, p1, p2, p3⟩, ⟨p4, p5, p6, p7⟩, ⟨p8, p9, pa, pb⟩⟩ := id s2
  go_wp2
  exact bodyPost_ret (v := .tuple #[.agg #[.float .f64 0, .float .f64 0], .agg #[.float .f64 0, .float .f64 0], .bool false]) (by simp [results, Try.results24, go_sem, p4, p5, p8, p9]) rfl ⟨rfl, (by repeat (with_reducible (first | assumption | exact Kp.refl _ | apply Kp.drew | apply Kp.alloc | apply Kp.drewN | (refine Kp.setCell ?_ (by first | omega | (simp <;> omega)) _) | (refine Kp.trans ?_ (by assumption)))))⟩
set_option maxRecDepth 20000 in
set_option maxHeartbeats 4000000 in
theorem bisC_ (a b L H U : Nat) (hx : ∀ w : World, Calls Try.prog 37 #[.agg #[.float .f64 a, .float .f64 b]] w fun e w' => e = .returned (.agg #[.float .f64 L, .float .f64 H]) ∧ Kp w w') (hu : ∀ w : World, Calls Try.prog 44 #[.float .f64 L] w fun e w' => e = .returned (.float .f64 U) ∧ Kp w w') (t1 : (FloatKind.f64.format.order U H == some Ordering.gt || FloatKind.f64.format.order U H == some Ordering.eq) = false) (C : Nat) (hc : ∀ w : World, Calls Try.prog 45 #[.agg #[.float .f64 L, .float .f64 H]] w fun e w' => e = .returned (.float .f64 C) ∧ Kp w w') (w : World) : Calls Try.prog 24 #[.agg #[.float .f64 a, .float .f64 b]] w fun e w' => e = .returned (.tuple #[.agg #[.float .f64 L, .float .f64 C], .agg #[.float .f64 C, .float .f64 H], .bool true]) ∧ Kp w w' := by
  go_enter Try.func24, Try.ntmps24
  go_upto_region 2 with (first | (go_at_call 37; refine (hx _).mono ?_; rintro e w1 ⟨rfl, g1⟩; have k1 : Kp w w1 := Kp.trans ((((Kp.refl w).alloc _).alloc _).alloc _) g1; have s1 := H6.keep (H6.new w (.float .f64 a) (.float .f64 b) (.float .f64 0) (.float .f64 0) (.float .f64 0) (.float .f64 0) 25 25 25) g1; obtain ⟨⟨p0, p1, p2, p3⟩, ⟨p4, p5, p6, p7⟩, ⟨p8, p9, pa, pb⟩⟩ := id s1))
  have s2 : H6 ((w1.setCell ⟨w.heap.size, 0, none⟩ (.float .f64 L)).setCell ⟨w.heap.size, 1, none⟩ (.float .f64 H)) w.heap.size (.float .f64 L) (.float .f64 H) (.float .f64 0) (.float .f64 0) (.float .f64 0) (.float .f64 0) := ⟨Fq.H2.put s1.1 _ _, Fq.H2.far s1.2.1 (by omega) _ _, Fq.H2.far s1.2.2 (by omega) _ _⟩
  have kW : Kp w ((w1.setCell ⟨w.heap.size, 0, none⟩ (.float .f64 L)).setCell ⟨w.heap.size, 1, none⟩ (.float .f64 H)) := (k1.setCell (Nat.le_refl _) _).setCell (Nat.le_refl _) _
  generalize hW : (w1.setCell ⟨w.heap.size, 0, none⟩ (.float .f64 L)).setCell ⟨w.heap.size, 1, none⟩ (.float .f64 H) = W at s2 kW ⊢
  clear hW s1 p0 p1 p2 p3 p4 p5 p6 p7 p8 p9 pa pb g1 k1
  refine Fq.wp_region_grow (by kernel_rfl) (by kernel_rfl) (fun ι _ G hG hall => ?_)
  have cc0 : ∀ n, (G n).cell? ⟨w.heap.size, 0, none⟩ = some (.float .f64 L) := fun n => Fq.gkeep (hG n) s2.1.1
  have cc1 : ∀ n, (G n).cell? ⟨w.heap.size, 1, none⟩ = some (.float .f64 H) := fun n => Fq.gkeep (hG n) s2.1.2.1
  repeat (go_big_quiet_step (first | (go_at_call 44; exact (hu _).mono (fun e w' h => ⟨h.1, hall _ (Fq.gtrans (hG _) h.2)⟩))))
  refine wpQuiet_nil ?_
  rintro _ ⟨nq, rfl⟩
  have gq : Kp W (G nq) := hG nq
  replace s2 := H6.keep s2 gq
  replace kW := Kp.trans kW gq
  generalize G nq = W at s2 kW ⊢
  clear cc0 cc1 hall hG gq
  obtain ⟨⟨p0, p1, p2, p3⟩, ⟨p4, p5, p6, p7⟩, ⟨p8, p9, pa, pb⟩⟩ := id s2
  go_upto_region 5 with (first | (go_at_call 45; refine (hc _).mono ?_; rintro e w4 ⟨rfl, g4⟩; have k4 := Kp.trans kW g4; obtain ⟨⟨u0, u1, u2, u3⟩, ⟨u4, u5, u6, u7⟩, ⟨u8, u9, ua, ub⟩⟩ := H6.keep s2 g4))
  go_region
  all_goals (
    go_wp2
    exact bodyPost_ret (v := .tuple #[.agg #[.float .f64 L, .float .f64 C], .agg #[.float .f64 C, .float .f64 H], .bool true]) (by simp [results, Try.results24, go_sem, u4, u5, u8, u9]) rfl ⟨rfl, (by repeat (with_reducible (first | assumption | exact Kp.refl _ | apply Kp.drew | apply Kp.alloc | apply Kp.drewN | (refine Kp.setCell ?_ (by first | omega | (simp <;> omega)) _) | (refine Kp.trans ?_ (by assumption)))))⟩)
theorem up9z_ (L : Int) (h : BdZ L) (h2 : L ≠ 9218868437227405312) (w : World) : Calls Try.prog 44 #[.float .f64 (pw L)] w fun e w' => e = .returned (.float .f64 (pw (L + 1))) ∧ Kp w w' := by
  have g := Fq.up_d (decide (L < 0)) L.natAbs (abs_pw L h) (by rw [plz_pw]; exact h2) w
  rw [plz_pw] at g
  exact g
theorem up9e_ (w : World) : Calls Try.prog 44 #[.float .f64 (pw 9218868437227405312)] w fun e w' => e = .returned (.float .f64 (pw 9218868437227405312)) ∧ Kp w w' := Fq.upe_d w
theorem pl9_ (L : Int) (h : BdZ L) (w : World) : Calls Try.prog 63 #[.float .f64 (pw L)] w fun e w' => e = .returned (.tuple #[.int .i64 L, .bool true]) ∧ Kp w w' := by
  have g := Fq.place_d (decide (L < 0)) L.natAbs (abs_pw L h) w
  rw [plz_pw] at g
  exact g
theorem at9_ (p : Int) (h : BdZ p) (w : World) : Calls Try.prog 66 #[.int .i64 p] w fun e w' => e = .returned (.tuple #[.float .f64 (pw p), .bool true]) ∧ Kp w w' := Fq.at_d p h.1 h.2 w
/-- what is not cut -/
theorem bisN9_ (a b : Nat) (L H : Int) (r : Rd a b L H) (h : H ≤ L + 1) (w : World) : Calls Try.prog 24 #[.agg #[.float .f64 a, .float .f64 b]] w fun e w' => e = .returned (.tuple #[.agg #[.float .f64 0, .float .f64 0], .agg #[.float .f64 0, .float .f64 0], .bool false]) ∧ Kp w w' := by
  have d := r.vd
  have dd := d
  unfold VdZ at dd
  by_cases c : L = 9218868437227405312
  · subst c
    have t := pge9 9218868437227405312 H d.lo d.hi
    rw [decide_eq_true (by omega)] at t
    exact bisN_ a b _ _ _ r.call up9e_ t w
  · have b1 : BdZ (L + 1) := by unfold BdZ; omega
    have t := pge9 (L + 1) H b1 d.hi
    rw [decide_eq_true h] at t
    exact bisN_ a b _ _ _ r.call (up9z_ L d.lo c) t w
/-- what is cut at C -/
theorem bisC9_ (a b : Nat) (L H : Int) (r : Rd a b L H) (h : L + 1 < H) (C : Nat) (hc : ∀ w : World, Calls Try.prog 45 #[.agg #[.float .f64 (pw L), .float .f64 (pw H)]] w fun e w' => e = .returned (.float .f64 C) ∧ Kp w w') (w : World) : Calls Try.prog 24 #[.agg #[.float .f64 a, .float .f64 b]] w fun e w' => e = .returned (.tuple #[.agg #[.float .f64 (pw L), .float .f64 C], .agg #[.float .f64 C, .float .f64 (pw H)], .bool true]) ∧ Kp w w' := by
  have d := r.vd
  have dd := d
  unfold VdZ at dd
  have b1 : BdZ (L + 1) := by unfold BdZ; omega
  have t := pge9 (L + 1) H b1 d.hi
  rw [decide_eq_false (by omega)] at t
  exact bisC_ a b _ _ _ r.call (up9z_ L d.lo (by omega)) t C hc w
theorem cutP9_ (L H : Int) (d : VdZ L H) (h : (L = 9218868437227405312 ∨ L = -9218868437227405312) ∨ (H = 9218868437227405312 ∨ H = -9218868437227405312)) (w : World) : Calls Try.prog 45 #[.agg #[.float .f64 (pw L), .float .f64 (pw H)]] w fun e w' => e = .returned (.float .f64 (pw (L / 2 + H / 2))) ∧ Kp w w' := by
  have c := common9_ _ _ L H (Rd.of d)
  have b1 := d.lo
  have b2 := d.hi
  unfold BdZ at b1 b2
  rw [show (!decide (L = 9218868437227405312 ∨ L = -9218868437227405312) && !decide (H = 9218868437227405312 ∨ H = -9218868437227405312)) = false from by
    rcases h with h | h
    · rw [decide_eq_true h]; rfl
    · rw [decide_eq_true h]; simp] at c
  exact cutP_ _ _ _ L H b1 b2 c (pl9_ L d.lo) (pl9_ H d.hi) (at9_ _ (by unfold BdZ; omega)) w
theorem cutM9_ (L H : Int) (d : VdZ L H) (h : ¬ ((L = 9218868437227405312 ∨ L = -9218868437227405312) ∨ (H = 9218868437227405312 ∨ H = -9218868437227405312))) (C : Nat) (hm : ∀ w : World, Calls Try.prog 67 #[.agg #[.float .f64 (pw L), .float .f64 (pw H)]] w fun e w' => e = .returned (.float .f64 C) ∧ Kp w w') (w : World) : Calls Try.prog 45 #[.agg #[.float .f64 (pw L), .float .f64 (pw H)]] w fun e w' => e = .returned (.float .f64 C) ∧ Kp w w' := by
  have c := common9_ _ _ L H (Rd.of d)
  rw [decide_eq_false (fun x => h (Or.inl x)), decide_eq_false (fun x => h (Or.inr x))] at c
  exact cutM_ _ _ _ c hm w
end Go.Proofs.Ytnjbheammpdjfaa
