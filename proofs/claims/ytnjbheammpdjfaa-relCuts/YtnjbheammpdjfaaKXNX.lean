import Derived.Test.YtnjbheammpdjfaaProg
import Derived.Test.YtnjbheammpdjfaaKXA0
import Derived.Test.YtnjbheammpdjfaaKXQF
import Derived.Test.YtnjbheammpdjfaaKQA
import Derived.Test.YtnjbheammpdjfaaKXQU
import Derived.Test.YtnjbheammpdjfaaKXEA
import Derived.Test.YtnjbheammpdjfaaKXNR
import Derived.Test.YtnjbheammpdjfaaKXNS9
import Derived.Test.YtnjbheammpdjfaaKXNB
import Derived.Test.YtnjbheammpdjfaaKXMI
import Derived.Test.YtnjbheammpdjfaaKXME
import Derived.Test.YtnjbheammpdjfaaKXM32
import Derived.Test.YtnjbheammpdjfaaKXEE
import Derived.WalkKit
import Derived.ProofKit
import Derived.RowKit3
import Derived.WalkSpells
import Derived.StillTactics
import Derived.Deep.QuietTactic
import Derived.BigQuiet
import Derived.Below
import Derived.Deep.OwnRows
import Derived.OwnWalk
import Derived.Laws.BitsAllLaws
import Derived.Laws.Slices
import Derived.Laws.Bits64b
import Derived.Laws.FloatArith
import Derived.Deep.RegionHeld3
import Derived.Deep.CutRange
import Derived.Deep.DeepCutAuto
namespace Go.Proofs.Ytnjbheammpdjfaa
open Go.RowKit

theorem mid9_ (L H : Int) (d : VdZ L H) (h : L + 1 < H) (hf : ¬ ((L = 9218868437227405312 ∨ L = -9218868437227405312) ∨ (H = 9218868437227405312 ∨ H = -9218868437227405312))) : ∃ c : Int, L < c ∧ c < H ∧ ∀ w : World, Calls Try.prog 67 #[.agg #[.float .f64 (pw L), .float .f64 (pw H)]] w fun e w' => e = .returned (.float .f64 (pw c)) ∧ Kp w w' := by
  have bl := d.lo
  have bh := d.hi
  have al := abs_pw L bl
  have ah := abs_pw H bh
  unfold BdZ at bl bh
  have iv : ∀ x y : Int, Iv (decide (x < 0)) x.natAbs < Iv (decide (y < 0)) y.natAbs ↔ x < y := fun x y => by
    rw [iv_lt8, plz_pw, plz_pw]
  have fc : FL (((Iv (decide (L + 1 < 0)) (L + 1).natAbs).natAbs : Nat) : Int) := by
    have h1 := iv_fl false (L + 1).natAbs
    have h2 := iv_abs (decide (L + 1 < 0)) (L + 1).natAbs
    rw [h2]
    exact h1
  obtain ⟨s, x, hx, e1, e2, h1, h2⟩ := mid_in2 (decide (L < 0)) (decide (H < 0)) L.natAbs H.natAbs (by omega) (by omega) _ fc ((iv L (L + 1)).2 (by omega)) ((iv (L + 1) H).2 h)
  rw [iv_lt8, plz_pw] at h1
  rw [iv_lt8, plz_pw] at h2
  have hne : Fq.wD s x ≠ 9223372036854775808 := by
    intro hT
    unfold Fq.wD at hT
    cases s
    · simp at hT; omega
    · simp at hT; have := e2 hT; cases this
  have hp := pw_plz s x hne (by omega)
  refine ⟨Fq.plz s x, h1, h2, fun w => ?_⟩
  have rr := reread9 L H d
  have sn := snd_pw L H d.lo d.hi
  rw [decide_eq_true (by omega)] at sn
  have g := midS8_ (pw L) (pw H) (pw_lt L d.lo) (pw_lt H d.hi) sn (decide (L < 0)) (decide (H < 0)) L.natAbs H.natAbs al ah rr.1 rr.2 w
  rw [show mdP (decide (L < 0)) L.natAbs (decide (H < 0)) H.natAbs = Fq.wD s x from by unfold mdP; rw [if_neg (by omega), if_neg (by omega), e1], ← hp.1] at g
  exact g
theorem cut9_ (L H : Int) (d : VdZ L H) (h : L + 1 < H) : ∃ c : Int, L < c ∧ c < H ∧ ∀ w : World, Calls Try.prog 45 #[.agg #[.float .f64 (pw L), .float .f64 (pw H)]] w fun e w' => e = .returned (.float .f64 (pw c)) ∧ Kp w w' := by
  have bl := d.lo
  have bh := d.hi
  unfold BdZ at bl bh
  by_cases c4 : (L = 9218868437227405312 ∨ L = -9218868437227405312) ∨ (H = 9218868437227405312 ∨ H = -9218868437227405312)
  · have dd := d
    unfold VdZ at dd
    exact ⟨L / 2 + H / 2, by omega, by omega, cutP9_ L H d c4⟩
  · obtain ⟨c, h1, h2, hm⟩ := mid9_ L H d h c4
    exact ⟨c, h1, h2, cutM9_ L H d c4 _ hm⟩
set_option linter.unusedVariables false
set_option maxRecDepth 20000 in
set_option maxHeartbeats 1000000 in
theorem negT_ (Y : Int) (V : Bool) (t : decide (9223372036854775808 < Y) = V) (w : World) : Calls Try.prog 57 #[.int .u64 Y] w fun e w' => e = .returned (.bool V) ∧ w' = w := by
  go_enter Try.func57, Try.ntmps57
  go_wp2
  exact bodyPost_ret (v := .bool V) (by simp [results, Try.results57, go_sem] <;> simpa using t) rfl ⟨rfl, rfl⟩
set_option maxRecDepth 20000 in
set_option maxHeartbeats 1000000 in
theorem nb1_ (Y1 Y2 : Int) (t1 : (Y1 == 18442240474082181120) = true) (t2 : (Y2 == 18442240474082181119) = true) (w : World) : Calls Try.prog 31 #[.agg #[.int .u64 Y1, .int .u64 Y2]] w fun e w' => e = .returned (.bool true) ∧ Kp w w' := by
  go_enter Try.func31, Try.ntmps31
  go_wp2
  exact bodyPost_ret (v := .bool true) (by simp [results, Try.results31, go_sem]) rfl ⟨rfl, (by repeat (with_reducible (first | assumption | exact Kp.refl _ | apply Kp.drew | apply Kp.alloc | apply Kp.drewN | (refine Kp.setCell ?_ (by first | omega | (simp <;> omega)) _) | (refine Kp.trans ?_ (by assumption)))))⟩
set_option maxRecDepth 20000 in
set_option maxHeartbeats 1000000 in
theorem nb2_ (Y1 Y2 : Int) (t1 : (Y1 == 18442240474082181120) = false) (t2 : (Y1 == 0) = true) (t3 : (Y2 == 1) = true) (w : World) : Calls Try.prog 31 #[.agg #[.int .u64 Y1, .int .u64 Y2]] w fun e w' => e = .returned (.bool true) ∧ Kp w w' := by
  go_enter Try.func31, Try.ntmps31
  go_wp2
  exact bodyPost_ret (v := .bool true) (by simp [results, Try.results31, go_sem]) rfl ⟨rfl, (by repeat (with_reducible (first | assumption | exact Kp.refl _ | apply Kp.drew | apply Kp.alloc | apply Kp.drewN | (refine Kp.setCell ?_ (by first | omega | (simp <;> omega)) _) | (refine Kp.trans ?_ (by assumption)))))⟩
set_option maxRecDepth 20000 in
set_option maxHeartbeats 1000000 in
theorem nb3_ (Y1 Y2 Y3 : Int) (b1 : 1 ≤ Y1) (b2 : Y1 < 18446744073709551616) (hY : Y3 = Y1 - 1) (t1 : (Y1 == 18442240474082181120) = false) (t2 : (Y1 == 0) = false) (hn : ∀ w : World, Calls Try.prog 57 #[.int .u64 Y1] w fun e w' => e = .returned (.bool true) ∧ w' = w) (hp : ∀ w : World, Calls Try.prog 56 #[.int .u64 Y3] w fun e w' => e = .returned (.int .u64 Y2) ∧ w' = w) (w : World) : Calls Try.prog 31 #[.agg #[.int .u64 Y1, .int .u64 Y2]] w fun e w' => e = .returned (.bool true) ∧ Kp w w' := by
  have w1 : IntKind.u64.wrap (Y1 - 1) = Y3 := by rw [hY]; unfold IntKind.wrap; simp [IntKind.bits, IntKind.signed]; omega
  clear b1 b2 hY
  go_enter Try.func31, Try.ntmps31
  go_upto_region 7 with (first | (go_at_call 57; refine (hn _).mono ?_; rintro e wq ⟨rfl, hwq⟩; obtain rfl := hwq.symm; clear hwq))
  refine Fq.wp_region_grow (by kernel_rfl) (by kernel_rfl) (fun ι _ G hG hall => ?_)
  have cc1 : ∀ n, (G n).cell? ⟨w.heap.size, 1, none⟩ = some (.int .u64 Y2) := fun n => Fq.gkeep (hG n) (by simp [go_sem])
  repeat (go_big_quiet_step (first | (go_at_call 56; exact (hp _).mono (fun e w' h => ⟨h.1, hall _ (by rw [h.2]; exact hG _)⟩))))
  refine wpQuiet_nil ?_
  rintro _ ⟨nq, rfl⟩
  have gq : Kp w (G nq) := Kp.trans ((Kp.refl w).alloc _) (hG nq)
  clear cc1 hall hG
  go_wp2
  exact bodyPost_ret (v := .bool true) (by simp [results, Try.results31, go_sem]) rfl ⟨rfl, gq⟩
set_option maxRecDepth 20000 in
set_option maxHeartbeats 1000000 in
theorem nb4_ (Y1 Y2 : Int) (b1 : 0 ≤ Y1) (b2 : Y1 + 1 < 18446744073709551616) (hY : Y1 + 1 = Y2) (t1 : (Y1 == 18442240474082181120) = false) (t2 : (Y1 == 0) = false) (hn : ∀ w : World, Calls Try.prog 57 #[.int .u64 Y1] w fun e w' => e = .returned (.bool false) ∧ w' = w) (w : World) : Calls Try.prog 31 #[.agg #[.int .u64 Y1, .int .u64 Y2]] w fun e w' => e = .returned (.bool true) ∧ Kp w w' := by
  have w1 : IntKind.u64.wrap (Y1 + 1) = Y2 := by rw [← hY]; unfold IntKind.wrap; simp [IntKind.bits, IntKind.signed]; omega
  clear b1 b2 hY
  go_enter Try.func31, Try.ntmps31
  go_wp2_with (first | (go_at_call 57; refine (hn _).mono ?_; rintro e wq ⟨rfl, hwq⟩; obtain rfl := hwq.symm; clear hwq))
  exact bodyPost_ret (v := .bool true) (by simp [results, Try.results31, go_sem]) rfl ⟨rfl, (by repeat (with_reducible (first | assumption | exact Kp.refl _ | apply Kp.drew | apply Kp.alloc | apply Kp.drewN | (refine Kp.setCell ?_ (by first | omega | (simp <;> omega)) _) | (refine Kp.trans ?_ (by assumption)))))⟩
theorem pI_neg (x : Int) (h : x < 0) : pI x = 9223372036854775808 - x := by
  unfold pI pw Fq.wD
  rw [decide_eq_true h]
  simp
  omega
theorem pI_pos (x : Int) (h : 0 ≤ x) : pI x = x := by
  unfold pI pw Fq.wD
  rw [decide_eq_false (by omega)]
  simp
  omega
theorem nb9_ (L : Int) (h1 : -9218868437227405312 ≤ L) (h2 : L < 9218868437227405312) (w : World) : Calls Try.prog 31 #[.agg #[.int .u64 (pI L), .int .u64 (pI (L + 1))]] w fun e w' => e = .returned (.bool true) ∧ Kp w w' := by
  by_cases c1 : L = -9218868437227405312
  · subst c1
    exact nb1_ _ _ (by decide) (by decide) w
  by_cases c2 : L < 0
  · have e1 := pI_neg L c2
    have hpl : ∀ w : World, Calls Try.prog 56 #[.int .u64 (pI L - 1)] w fun e w' => e = .returned (.int .u64 (pI (L + 1))) ∧ w' = w := by
      by_cases c3 : L = -1
      · subst c3
        exact Fq.rplain6_ true 0 (by decide)
      · have hb : BdZ (L + 1) := by unfold BdZ; omega
        have g := Fq.rplain6_ (decide (L + 1 < 0)) (L + 1).natAbs (abs_pw _ hb)
        have e2 := pI_neg (L + 1) (by omega)
        have e3 : ((Fq.wD (decide (L + 1 < 0)) (L + 1).natAbs : Nat) : Int) = pI L - 1 := by
          have : ((Fq.wD (decide (L + 1 < 0)) (L + 1).natAbs : Nat) : Int) = pI (L + 1) := rfl
          rw [this, e2, e1]; omega
        have e4 : ((Fq.pla (Fq.wD (decide (L + 1 < 0)) (L + 1).natAbs) : Nat) : Int) = pI (L + 1) := by
          have h9 := pla_pw (L + 1) hb
          unfold pI
          rw [← h9]
          rfl
        rw [e3, e4] at g
        exact g
    exact nb3_ (pI L) (pI (L + 1)) (pI L - 1) (by omega) (by omega) rfl (by rw [e1]; simp; omega) (by rw [e1]; simp; omega) (negT_ _ true (by rw [e1]; exact decide_eq_true (by omega))) hpl w
  · have e1 := pI_pos L (by omega)
    have e2 := pI_pos (L + 1) (by omega)
    by_cases c3 : L = 0
    · subst c3
      exact nb2_ _ _ (by decide) (by decide) (by decide) w
    · exact nb4_ (pI L) (pI (L + 1)) (by omega) (by omega) (by omega) (by rw [e1]; simp; omega) (by rw [e1]; simp; omega) (negT_ _ false (by rw [e1]; exact decide_eq_false (by omega))) w
end Go.Proofs.Ytnjbheammpdjfaa
