import Derived.Test.YtbdeppdjelcioaaDoorProg
import Derived.Test.YtbdeppdjelcioaaDoorM
import Derived.Test.YtbdeppdjelcioaaDoorA
import Derived.Test.YtbdeppdjelcioaaDoorRD
import Derived.WalkKit
import Derived.ProofKit
import Derived.RowKit3
import Derived.Deep.RegionHeld3
import Derived.WalkSpells
import Derived.StillTactics
import Derived.Laws.FloatArith
import Derived.Deep.QuietTactic
import Derived.BigQuiet
namespace Go.Proofs.YtbdeppdjelcioaaDoor
open Go.RowKit
theorem fldD (k : Int) (n : Bool) (s e : Int) (w : World) : (Instr.field 84 (.agg #[.int .i64 k, .bool n, .int .u64 s, .int .i64 e]) 0).run Tryd.prog w = .ok (.int .i64 k) w := by kernel_rfl

set_option maxRecDepth 20000 in
set_option maxHeartbeats 400000 in
theorem risnan_D (n : Bool) (m : Nat) (hm : m < 9223372036854775808) (w : World) : Calls Tryd.prog 46 #[.bool true, .int .u64 ((wD n m : Nat) : Int)] w fun e w' => e = .returned (.bool (decide (9218868437227405312 < m))) ∧ Grown w w' := by
  have hof := rof_D n m hm
  obtain ⟨x, hx⟩ : ∃ x : Int, x = ((wD n m : Nat) : Int) := ⟨_, rfl⟩
  rw [← hx] at hof ⊢
  clear hx
  by_cases c : 9218868437227405312 < m
  · have e1 : kdD m = 2 := by unfold kdD kdG; (repeat' split) <;> omega
    have e2 : decide (9218868437227405312 < m) = true := by simp [c]
    rw [e1] at hof
    rw [e2]
    clear e1 e2 c hm
    go_enter Tryd.func46, Tryd.ntmps46
    go_wp2_with (first | (go_at_call 71; refine (hof _).mono ?_; rintro e w' ⟨rfl, g1⟩) | (simp only [fldD]))
    exact bodyPost_ret (v := .bool true) (by simp [results, Tryd.results46, go_sem] <;> simp only [*]) rfl ⟨rfl, (by repeat (with_reducible (first | assumption | exact Grown.refl _ | apply Grown.drew | apply Grown.alloc | apply gdrewN | (refine gtrans ?_ (by assumption)))))⟩
  · obtain ⟨kd, hk⟩ : ∃ kd : Int, kd = kdD m := ⟨_, rfl⟩
    have e1 : (kd == 2) = false := by rw [hk]; unfold kdD kdG; simp; (repeat' split) <;> omega
    have e2 : decide (9218868437227405312 < m) = false := by simp; omega
    rw [← hk] at hof
    rw [e2]
    clear e2 c hm hk
    go_enter Tryd.func46, Tryd.ntmps46
    go_wp2_with (first | (go_at_call 71; refine (hof _).mono ?_; rintro e w' ⟨rfl, g1⟩) | (simp only [fldD]))
    exact bodyPost_ret (v := .bool false) (by simp [results, Tryd.results46, go_sem] <;> simp only [*]) rfl ⟨rfl, (by repeat (with_reducible (first | assumption | exact Grown.refl _ | apply Grown.drew | apply Grown.alloc | apply gdrewN | (refine gtrans ?_ (by assumption)))))⟩

set_option maxRecDepth 20000 in
set_option maxHeartbeats 400000 in
theorem isn_D (n n' : Bool) (m m' : Nat) (hm : 9218868437227405312 < m) (h2 : m < 9223372036854775808) (hm' : 9218868437227405312 < m') (h2' : m' < 9223372036854775808) (w : World) : Calls Tryd.prog 12 #[.float .f64 (wD n m), .int .u64 ((wD n' m' : Nat) : Int)] w fun e w' => e = .returned (.bool true) ∧ Grown w w' := by
  have hn := risnan_D n' m' h2'
  have e1 : decide (9218868437227405312 < m') = true := by simp [hm']
  rw [e1] at hn
  have ho : FloatKind.f64.format.order (wD n m) (wD n m) = none := ordD_nanl n m _ hm h2
  obtain ⟨x, hx⟩ : ∃ x : Nat, x = wD n m := ⟨_, rfl⟩
  obtain ⟨y, hy⟩ : ∃ y : Int, y = ((wD n' m' : Nat) : Int) := ⟨_, rfl⟩
  rw [← hx] at ho ⊢
  rw [← hy] at hn ⊢
  clear hx hy e1 hm hm' h2 h2'
  go_enter Tryd.func12, Tryd.ntmps12
  go_wp2_with (first | (go_at_call 46; refine (hn _).mono ?_; rintro e w' ⟨rfl, g1⟩))
  exact bodyPost_ret (v := .bool true) (by simp [results, Tryd.results12, go_sem] <;> simp only [*]) rfl ⟨rfl, (by repeat (with_reducible (first | assumption | exact Grown.refl _ | apply Grown.drew | apply Grown.alloc | apply gdrewN | (refine gtrans ?_ (by assumption)))))⟩

set_option maxRecDepth 20000 in
set_option maxHeartbeats 400000 in
theorem ise_D (n : Bool) (m : Nat) (hm : m ≤ 9218868437227405312) (w : World) : Calls Tryd.prog 12 #[.float .f64 (wD n m), .int .u64 ((wD n m : Nat) : Int)] w fun e w' => e = .returned (.bool true) ∧ Grown w w' := by
  have hn := risnan_D n m (by omega)
  have e1 : decide (9218868437227405312 < m) = false := by simp; omega
  rw [e1] at hn
  have ho : FloatKind.f64.format.order (wD n m) (wD n m) = some .eq := by rw [ordD n n m m hm hm, cmp_eq rfl]
  have hx2 : wD n m < 18446744073709551616 := by unfold wD; split <;> omega
  obtain ⟨x, hx⟩ : ∃ x : Nat, x = wD n m := ⟨_, rfl⟩
  rw [← hx] at ho hn hx2 ⊢
  have d1 : ((x : Int) == (x : Int)) = true := by simp
  have hc : wrap64 (x : Int) = (x : Int) ∨ True := Or.inr trivial
  clear hx e1 hm hc
  go_enter Tryd.func12, Tryd.ntmps12
  go_wp2_with (first | (go_at_call 46; refine (hn _).mono ?_; rintro e w' ⟨rfl, g1⟩) | (simp only [fb64]))
  exact bodyPost_ret (v := .bool true) (by simp [results, Tryd.results12, go_sem] <;> simp only [*]) rfl ⟨rfl, (by repeat (with_reducible (first | assumption | exact Grown.refl _ | apply Grown.drew | apply Grown.alloc | apply gdrewN | (refine gtrans ?_ (by assumption)))))⟩

set_option maxRecDepth 20000 in
set_option maxHeartbeats 1000000 in
theorem rbits_D (n : Bool) (m : Nat) (hm : m ≤ 9218868437227405312) (w : World) : Calls Tryd.prog 59 #[.bool true, .agg #[.int .i64 (kdD m), .bool n, .int .u64 ((sgD m : Nat) : Int), .int .i64 (epD m)]] w fun e w' => e = .returned (.int .u64 ((wD n m : Nat) : Int)) ∧ Grown w w' := by
  obtain ⟨B, hB⟩ : ∃ B : Int, B = 4503599627370496 := ⟨_, rfl⟩
  have hful : ∀ w : World, Calls Tryd.prog 56 #[.bool true] w fun e w' => e = .returned (.int .u64 B) ∧ w' = w := by rw [hB]; exact rfull_D
  obtain ⟨H, hH⟩ : ∃ H : Int, H = 9223372036854775808 := ⟨_, rfl⟩
  obtain ⟨J, hJ⟩ : ∃ J : Int, J = 9218868437227405312 := ⟨_, rfl⟩
  obtain ⟨R, hR⟩ : ∃ R : Int, R = (m : Int) := ⟨_, rfl⟩
  have f1 : IntKind.u64.wrap (B * 2048) = H := by rw [hB, hH]; decide +kernel
  have f2 : IntKind.u64.wrap (2047 * B) = J := by rw [hB, hJ]; decide +kernel
  have f3 : IntKind.u64.wrap (R + H) = R + H := by rw [hR, hH, wrapU (by omega) (by omega)]
  have e5 : ((wD true m : Nat) : Int) = R + H := by rw [hR, hH]; unfold wD; simp; omega
  have e6 : ((wD false m : Nat) : Int) = R := by rw [hR]; rfl
  obtain ⟨s, hs⟩ : ∃ s : Int, s = ((sgD m : Nat) : Int) := ⟨_, rfl⟩
  obtain ⟨e, he⟩ : ∃ e : Int, e = epD m := ⟨_, rfl⟩
  rw [← hs, ← he]
  rcases (by omega : m = 9218868437227405312 ∨ (4503599627370496 ≤ m ∧ m < 9218868437227405312) ∨ (m < 4503599627370496)) with c | c | c
  · have e1 : kdD m = 1 := by unfold kdD kdG; (repeat' split) <;> omega
    rw [e1]
    have g1 : J = R := by rw [hJ, hR]; omega
    rw [g1] at f2
    clear g1
    cases n
    · rw [e6]
      clear e1 hs he hB hm hH hJ hR e5 e6 c
      go_enter Tryd.func59, Tryd.ntmps59
      go_wp2_with (first | (go_at_call 56; refine (hful _).mono ?_; rintro e w' ⟨rfl, rfl⟩) | (go_at_call 57; refine (rleast_D _).mono ?_; rintro e w' ⟨rfl, rfl⟩) | (go_at_call 58; refine (rtop_D _).mono ?_; rintro e w' ⟨rfl, rfl⟩))
      exact bodyPost_ret (v := .int .u64 R) (by simp [results, Tryd.results59, go_sem] <;> simp only [*]) rfl ⟨rfl, (by repeat (with_reducible (first | assumption | exact Grown.refl _ | apply Grown.drew | apply Grown.alloc | apply gdrewN | (refine gtrans ?_ (by assumption)))))⟩
    · rw [e5]
      clear e1 hs he hB hm hH hJ hR e5 e6 c
      go_enter Tryd.func59, Tryd.ntmps59
      go_wp2_with (first | (go_at_call 56; refine (hful _).mono ?_; rintro e w' ⟨rfl, rfl⟩) | (go_at_call 57; refine (rleast_D _).mono ?_; rintro e w' ⟨rfl, rfl⟩) | (go_at_call 58; refine (rtop_D _).mono ?_; rintro e w' ⟨rfl, rfl⟩))
      exact bodyPost_ret (v := .int .u64 (R + H)) (by simp [results, Tryd.results59, go_sem] <;> simp only [*]) rfl ⟨rfl, (by repeat (with_reducible (first | assumption | exact Grown.refl _ | apply Grown.drew | apply Grown.alloc | apply gdrewN | (refine gtrans ?_ (by assumption)))))⟩
  · have e1 : kdD m = 0 := by unfold kdD kdG; (repeat' split) <;> omega
    rw [e1]
    have g1 : B ≤ s := by rw [hB, hs]; unfold sgD sgG; (repeat' split) <;> omega
    have q1 : wrap64 (wrap64 (e + 1074) + 1) = (m : Int) / 4503599627370496 := by rw [he]; unfold wrap64 epD epG; (repeat' split) <;> omega
    have q2 : s = 4503599627370496 + (m : Int) % 4503599627370496 := by rw [hs]; unfold sgD sgG; (repeat' split) <;> omega
    have g2 : IntKind.u64.wrap (IntKind.u64.wrap (IntKind.u64.wrap (IntKind.u64.wrap (wrap64 (wrap64 (e + 1074) + 1)) * B) + s) - B) = R := by rw [q1, q2, hB, hR]; exact bitsR _ _ _ _ (by omega) (by omega) (by omega) (by omega) (by omega) (by omega)
    have q3 : True := by clear q1 q2; trivial
    cases n
    · rw [e6]
      clear e1 hs he hB hm hH hJ hR e5 e6 c q1 q2 q3
      go_enter Tryd.func59, Tryd.ntmps59
      go_wp2_with (first | (go_at_call 56; refine (hful _).mono ?_; rintro e w' ⟨rfl, rfl⟩) | (go_at_call 57; refine (rleast_D _).mono ?_; rintro e w' ⟨rfl, rfl⟩) | (go_at_call 58; refine (rtop_D _).mono ?_; rintro e w' ⟨rfl, rfl⟩))
      go_quiet ((go_at_call 57; exact Calls.quiet_of_same (rleast_D _)))
      go_wp2
      exact bodyPost_ret (v := .int .u64 R) (by simp [results, Tryd.results59, go_sem] <;> simp only [*]) rfl ⟨rfl, (by repeat (with_reducible (first | assumption | exact Grown.refl _ | apply Grown.drew | apply Grown.alloc | apply gdrewN | (refine gtrans ?_ (by assumption)))))⟩
    · rw [e5]
      clear e1 hs he hB hm hH hJ hR e5 e6 c q1 q2 q3
      go_enter Tryd.func59, Tryd.ntmps59
      go_wp2_with (first | (go_at_call 56; refine (hful _).mono ?_; rintro e w' ⟨rfl, rfl⟩) | (go_at_call 57; refine (rleast_D _).mono ?_; rintro e w' ⟨rfl, rfl⟩) | (go_at_call 58; refine (rtop_D _).mono ?_; rintro e w' ⟨rfl, rfl⟩))
      go_quiet ((go_at_call 57; exact Calls.quiet_of_same (rleast_D _)))
      go_wp2
      exact bodyPost_ret (v := .int .u64 (R + H)) (by simp [results, Tryd.results59, go_sem] <;> simp only [*]) rfl ⟨rfl, (by repeat (with_reducible (first | assumption | exact Grown.refl _ | apply Grown.drew | apply Grown.alloc | apply gdrewN | (refine gtrans ?_ (by assumption)))))⟩
  · have e1 : kdD m = 0 := by unfold kdD kdG; (repeat' split) <;> omega
    rw [e1]
    have g1 : ¬ (B ≤ s) := by rw [hB, hs]; unfold sgD sgG; (repeat' split) <;> omega
    have g2 : s = R := by rw [hs, hR]; unfold sgD sgG; (repeat' split) <;> omega
    rw [g2] at g1
    rw [g2]
    clear g2
    cases n
    · rw [e6]
      clear e1 hs he hB hm hH hJ hR e5 e6 c
      go_enter Tryd.func59, Tryd.ntmps59
      go_wp2_with (first | (go_at_call 56; refine (hful _).mono ?_; rintro e w' ⟨rfl, rfl⟩) | (go_at_call 57; refine (rleast_D _).mono ?_; rintro e w' ⟨rfl, rfl⟩) | (go_at_call 58; refine (rtop_D _).mono ?_; rintro e w' ⟨rfl, rfl⟩))
      exact bodyPost_ret (v := .int .u64 R) (by simp [results, Tryd.results59, go_sem] <;> simp only [*]) rfl ⟨rfl, (by repeat (with_reducible (first | assumption | exact Grown.refl _ | apply Grown.drew | apply Grown.alloc | apply gdrewN | (refine gtrans ?_ (by assumption)))))⟩
    · rw [e5]
      clear e1 hs he hB hm hH hJ hR e5 e6 c
      go_enter Tryd.func59, Tryd.ntmps59
      go_wp2_with (first | (go_at_call 56; refine (hful _).mono ?_; rintro e w' ⟨rfl, rfl⟩) | (go_at_call 57; refine (rleast_D _).mono ?_; rintro e w' ⟨rfl, rfl⟩) | (go_at_call 58; refine (rtop_D _).mono ?_; rintro e w' ⟨rfl, rfl⟩))
      exact bodyPost_ret (v := .int .u64 (R + H)) (by simp [results, Tryd.results59, go_sem] <;> simp only [*]) rfl ⟨rfl, (by repeat (with_reducible (first | assumption | exact Grown.refl _ | apply Grown.drew | apply Grown.alloc | apply gdrewN | (refine gtrans ?_ (by assumption)))))⟩

end Go.Proofs.YtbdeppdjelcioaaDoor
