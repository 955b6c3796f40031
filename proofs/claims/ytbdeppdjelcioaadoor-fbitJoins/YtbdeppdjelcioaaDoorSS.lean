import Derived.Test.YtbdeppdjelcioaaDoorProg
import Derived.Test.YtbdeppdjelcioaaDoorM
import Derived.Test.YtbdeppdjelcioaaDoorA
import Derived.Test.YtbdeppdjelcioaaDoorRS
import Derived.WalkKit
import Derived.ProofKit
import Derived.RowKit3
import Derived.Deep.RegionHeld3
import Derived.WalkSpells
import Derived.StillTactics
import Derived.Laws.FloatArith
import Derived.Deep.QuietTactic
import Derived.BigQuiet
namespace Go.Proofs.YtbdeppdjelcioaaDoor
open Go.RowKit
theorem fldS (k : Int) (n : Bool) (s e : Int) (w : World) : (Instr.field 84 (.agg #[.int .i64 k, .bool n, .int .u64 s, .int .i64 e]) 0).run Tryd.prog w = .ok (.int .i64 k) w := by kernel_rfl

set_option maxRecDepth 20000 in
set_option maxHeartbeats 400000 in
theorem risnan_S (n : Bool) (m : Nat) (hm : m < 2147483648) (w : World) : Calls Tryd.prog 46 #[.bool false, .int .u64 ((wS n m : Nat) : Int)] w fun e w' => e = .returned (.bool (decide (2139095040 < m))) ∧ Grown w w' := by
  have hof := rof_S n m hm
  obtain ⟨x, hx⟩ : ∃ x : Int, x = ((wS n m : Nat) : Int) := ⟨_, rfl⟩
  rw [← hx] at hof ⊢
  clear hx
  by_cases c : 2139095040 < m
  · have e1 : kdS m = 2 := by unfold kdS kdG; (repeat' split) <;> omega
    have e2 : decide (2139095040 < m) = true := by simp [c]
    rw [e1] at hof
    rw [e2]
    clear e1 e2 c hm
    go_enter Tryd.func46, Tryd.ntmps46
    go_wp2_with (first | (go_at_call 71; refine (hof _).mono ?_; rintro e w' ⟨rfl, g1⟩) | (simp only [fldS]))
    exact bodyPost_ret (v := .bool true) (by simp [results, Tryd.results46, go_sem] <;> simp only [*]) rfl ⟨rfl, (by repeat (with_reducible (first | assumption | exact Grown.refl _ | apply Grown.drew | apply Grown.alloc | apply gdrewN | (refine gtrans ?_ (by assumption)))))⟩
  · obtain ⟨kd, hk⟩ : ∃ kd : Int, kd = kdS m := ⟨_, rfl⟩
    have e1 : (kd == 2) = false := by rw [hk]; unfold kdS kdG; simp; (repeat' split) <;> omega
    have e2 : decide (2139095040 < m) = false := by simp; omega
    rw [← hk] at hof
    rw [e2]
    clear e2 c hm hk
    go_enter Tryd.func46, Tryd.ntmps46
    go_wp2_with (first | (go_at_call 71; refine (hof _).mono ?_; rintro e w' ⟨rfl, g1⟩) | (simp only [fldS]))
    exact bodyPost_ret (v := .bool false) (by simp [results, Tryd.results46, go_sem] <;> simp only [*]) rfl ⟨rfl, (by repeat (with_reducible (first | assumption | exact Grown.refl _ | apply Grown.drew | apply Grown.alloc | apply gdrewN | (refine gtrans ?_ (by assumption)))))⟩

set_option maxRecDepth 20000 in
set_option maxHeartbeats 400000 in
theorem isn_S (n n' : Bool) (m m' : Nat) (hm : 2139095040 < m) (h2 : m < 2147483648) (hm' : 2139095040 < m') (h2' : m' < 2147483648) (w : World) : Calls Tryd.prog 27 #[.float .f32 (wS n m), .int .u64 ((wS n' m' : Nat) : Int)] w fun e w' => e = .returned (.bool true) ∧ Grown w w' := by
  have hn := risnan_S n' m' h2'
  have e1 : decide (2139095040 < m') = true := by simp [hm']
  rw [e1] at hn
  have ho : FloatKind.f32.format.order (wS n m) (wS n m) = none := ordS_nanl n m _ hm h2
  obtain ⟨x, hx⟩ : ∃ x : Nat, x = wS n m := ⟨_, rfl⟩
  obtain ⟨y, hy⟩ : ∃ y : Int, y = ((wS n' m' : Nat) : Int) := ⟨_, rfl⟩
  rw [← hx] at ho ⊢
  rw [← hy] at hn ⊢
  clear hx hy e1 hm hm' h2 h2'
  go_enter Tryd.func27, Tryd.ntmps27
  go_wp2_with (first | (go_at_call 46; refine (hn _).mono ?_; rintro e w' ⟨rfl, g1⟩))
  exact bodyPost_ret (v := .bool true) (by simp [results, Tryd.results27, go_sem] <;> simp only [*]) rfl ⟨rfl, (by repeat (with_reducible (first | assumption | exact Grown.refl _ | apply Grown.drew | apply Grown.alloc | apply gdrewN | (refine gtrans ?_ (by assumption)))))⟩

set_option maxRecDepth 20000 in
set_option maxHeartbeats 400000 in
theorem ise_S (n : Bool) (m : Nat) (hm : m ≤ 2139095040) (w : World) : Calls Tryd.prog 27 #[.float .f32 (wS n m), .int .u64 ((wS n m : Nat) : Int)] w fun e w' => e = .returned (.bool true) ∧ Grown w w' := by
  have hn := risnan_S n m (by omega)
  have e1 : decide (2139095040 < m) = false := by simp; omega
  rw [e1] at hn
  have ho : FloatKind.f32.format.order (wS n m) (wS n m) = some .eq := by rw [ordS n n m m hm hm, cmp_eq rfl]
  have hx2 : wS n m < 4294967296 := by unfold wS; split <;> omega
  obtain ⟨x, hx⟩ : ∃ x : Nat, x = wS n m := ⟨_, rfl⟩
  rw [← hx] at ho hn hx2 ⊢
  have d1 : ((x : Int) == (x : Int)) = true := by simp
  have hc : wrap64 (x : Int) = (x : Int) ∨ True := Or.inr trivial
  clear hx e1 hm hc
  go_enter Tryd.func27, Tryd.ntmps27
  go_wp2_with (first | (go_at_call 46; refine (hn _).mono ?_; rintro e w' ⟨rfl, g1⟩) | (simp only [fb32]))
  exact bodyPost_ret (v := .bool true) (by simp [results, Tryd.results27, go_sem] <;> simp only [*]) rfl ⟨rfl, (by repeat (with_reducible (first | assumption | exact Grown.refl _ | apply Grown.drew | apply Grown.alloc | apply gdrewN | (refine gtrans ?_ (by assumption)))))⟩

set_option maxRecDepth 20000 in
set_option maxHeartbeats 1000000 in
theorem rbits_S (n : Bool) (m : Nat) (hm : m ≤ 2139095040) (w : World) : Calls Tryd.prog 59 #[.bool false, .agg #[.int .i64 (kdS m), .bool n, .int .u64 ((sgS m : Nat) : Int), .int .i64 (epS m)]] w fun e w' => e = .returned (.int .u64 ((wS n m : Nat) : Int)) ∧ Grown w w' := by
  obtain ⟨B, hB⟩ : ∃ B : Int, B = 8388608 := ⟨_, rfl⟩
  have hful : ∀ w : World, Calls Tryd.prog 56 #[.bool false] w fun e w' => e = .returned (.int .u64 B) ∧ w' = w := by rw [hB]; exact rfull_S
  obtain ⟨H, hH⟩ : ∃ H : Int, H = 2147483648 := ⟨_, rfl⟩
  obtain ⟨J, hJ⟩ : ∃ J : Int, J = 2139095040 := ⟨_, rfl⟩
  obtain ⟨R, hR⟩ : ∃ R : Int, R = (m : Int) := ⟨_, rfl⟩
  have f1 : IntKind.u64.wrap (B * 256) = H := by rw [hB, hH]; decide +kernel
  have f2 : IntKind.u64.wrap (255 * B) = J := by rw [hB, hJ]; decide +kernel
  have f3 : IntKind.u64.wrap (R + H) = R + H := by rw [hR, hH, wrapU (by omega) (by omega)]
  have e5 : ((wS true m : Nat) : Int) = R + H := by rw [hR, hH]; unfold wS; simp; omega
  have e6 : ((wS false m : Nat) : Int) = R := by rw [hR]; rfl
  obtain ⟨s, hs⟩ : ∃ s : Int, s = ((sgS m : Nat) : Int) := ⟨_, rfl⟩
  obtain ⟨e, he⟩ : ∃ e : Int, e = epS m := ⟨_, rfl⟩
  rw [← hs, ← he]
  rcases (by omega : m = 2139095040 ∨ (8388608 ≤ m ∧ m < 2139095040) ∨ (m < 8388608)) with c | c | c
  · have e1 : kdS m = 1 := by unfold kdS kdG; (repeat' split) <;> omega
    rw [e1]
    have g1 : J = R := by rw [hJ, hR]; omega
    rw [g1] at f2
    clear g1
    cases n
    · rw [e6]
      clear e1 hs he hB hm hH hJ hR e5 e6 c
      go_enter Tryd.func59, Tryd.ntmps59
      go_wp2_with (first | (go_at_call 56; refine (hful _).mono ?_; rintro e w' ⟨rfl, rfl⟩) | (go_at_call 57; refine (rleast_S _).mono ?_; rintro e w' ⟨rfl, rfl⟩) | (go_at_call 58; refine (rtop_S _).mono ?_; rintro e w' ⟨rfl, rfl⟩))
      exact bodyPost_ret (v := .int .u64 R) (by simp [results, Tryd.results59, go_sem] <;> simp only [*]) rfl ⟨rfl, (by repeat (with_reducible (first | assumption | exact Grown.refl _ | apply Grown.drew | apply Grown.alloc | apply gdrewN | (refine gtrans ?_ (by assumption)))))⟩
    · rw [e5]
      clear e1 hs he hB hm hH hJ hR e5 e6 c
      go_enter Tryd.func59, Tryd.ntmps59
      go_wp2_with (first | (go_at_call 56; refine (hful _).mono ?_; rintro e w' ⟨rfl, rfl⟩) | (go_at_call 57; refine (rleast_S _).mono ?_; rintro e w' ⟨rfl, rfl⟩) | (go_at_call 58; refine (rtop_S _).mono ?_; rintro e w' ⟨rfl, rfl⟩))
      exact bodyPost_ret (v := .int .u64 (R + H)) (by simp [results, Tryd.results59, go_sem] <;> simp only [*]) rfl ⟨rfl, (by repeat (with_reducible (first | assumption | exact Grown.refl _ | apply Grown.drew | apply Grown.alloc | apply gdrewN | (refine gtrans ?_ (by assumption)))))⟩
  · have e1 : kdS m = 0 := by unfold kdS kdG; (repeat' split) <;> omega
    rw [e1]
    have g1 : B ≤ s := by rw [hB, hs]; unfold sgS sgG; (repeat' split) <;> omega
    have q1 : wrap64 (wrap64 (e + 149) + 1) = (m : Int) / 8388608 := by rw [he]; unfold wrap64 epS epG; (repeat' split) <;> omega
    have q2 : s = 8388608 + (m : Int) % 8388608 := by rw [hs]; unfold sgS sgG; (repeat' split) <;> omega
    have g2 : IntKind.u64.wrap (IntKind.u64.wrap (IntKind.u64.wrap (IntKind.u64.wrap (wrap64 (wrap64 (e + 149) + 1)) * B) + s) - B) = R := by rw [q1, q2, hB, hR]; exact bitsR _ _ _ _ (by omega) (by omega) (by omega) (by omega) (by omega) (by omega)
    have q3 : True := by clear q1 q2; trivial
    cases n
    · rw [e6]
      clear e1 hs he hB hm hH hJ hR e5 e6 c q1 q2 q3
      go_enter Tryd.func59, Tryd.ntmps59
      go_wp2_with (first | (go_at_call 56; refine (hful _).mono ?_; rintro e w' ⟨rfl, rfl⟩) | (go_at_call 57; refine (rleast_S _).mono ?_; rintro e w' ⟨rfl, rfl⟩) | (go_at_call 58; refine (rtop_S _).mono ?_; rintro e w' ⟨rfl, rfl⟩))
      go_quiet ((go_at_call 57; exact Calls.quiet_of_same (rleast_S _)))
      go_wp2
      exact bodyPost_ret (v := .int .u64 R) (by simp [results, Tryd.results59, go_sem] <;> simp only [*]) rfl ⟨rfl, (by repeat (with_reducible (first | assumption | exact Grown.refl _ | apply Grown.drew | apply Grown.alloc | apply gdrewN | (refine gtrans ?_ (by assumption)))))⟩
    · rw [e5]
      clear e1 hs he hB hm hH hJ hR e5 e6 c q1 q2 q3
      go_enter Tryd.func59, Tryd.ntmps59
      go_wp2_with (first | (go_at_call 56; refine (hful _).mono ?_; rintro e w' ⟨rfl, rfl⟩) | (go_at_call 57; refine (rleast_S _).mono ?_; rintro e w' ⟨rfl, rfl⟩) | (go_at_call 58; refine (rtop_S _).mono ?_; rintro e w' ⟨rfl, rfl⟩))
      go_quiet ((go_at_call 57; exact Calls.quiet_of_same (rleast_S _)))
      go_wp2
      exact bodyPost_ret (v := .int .u64 (R + H)) (by simp [results, Tryd.results59, go_sem] <;> simp only [*]) rfl ⟨rfl, (by repeat (with_reducible (first | assumption | exact Grown.refl _ | apply Grown.drew | apply Grown.alloc | apply gdrewN | (refine gtrans ?_ (by assumption)))))⟩
  · have e1 : kdS m = 0 := by unfold kdS kdG; (repeat' split) <;> omega
    rw [e1]
    have g1 : ¬ (B ≤ s) := by rw [hB, hs]; unfold sgS sgG; (repeat' split) <;> omega
    have g2 : s = R := by rw [hs, hR]; unfold sgS sgG; (repeat' split) <;> omega
    rw [g2] at g1
    rw [g2]
    clear g2
    cases n
    · rw [e6]
      clear e1 hs he hB hm hH hJ hR e5 e6 c
      go_enter Tryd.func59, Tryd.ntmps59
      go_wp2_with (first | (go_at_call 56; refine (hful _).mono ?_; rintro e w' ⟨rfl, rfl⟩) | (go_at_call 57; refine (rleast_S _).mono ?_; rintro e w' ⟨rfl, rfl⟩) | (go_at_call 58; refine (rtop_S _).mono ?_; rintro e w' ⟨rfl, rfl⟩))
      exact bodyPost_ret (v := .int .u64 R) (by simp [results, Tryd.results59, go_sem] <;> simp only [*]) rfl ⟨rfl, (by repeat (with_reducible (first | assumption | exact Grown.refl _ | apply Grown.drew | apply Grown.alloc | apply gdrewN | (refine gtrans ?_ (by assumption)))))⟩
    · rw [e5]
      clear e1 hs he hB hm hH hJ hR e5 e6 c
      go_enter Tryd.func59, Tryd.ntmps59
      go_wp2_with (first | (go_at_call 56; refine (hful _).mono ?_; rintro e w' ⟨rfl, rfl⟩) | (go_at_call 57; refine (rleast_S _).mono ?_; rintro e w' ⟨rfl, rfl⟩) | (go_at_call 58; refine (rtop_S _).mono ?_; rintro e w' ⟨rfl, rfl⟩))
      exact bodyPost_ret (v := .int .u64 (R + H)) (by simp [results, Tryd.results59, go_sem] <;> simp only [*]) rfl ⟨rfl, (by repeat (with_reducible (first | assumption | exact Grown.refl _ | apply Grown.drew | apply Grown.alloc | apply gdrewN | (refine gtrans ?_ (by assumption)))))⟩

end Go.Proofs.YtbdeppdjelcioaaDoor
