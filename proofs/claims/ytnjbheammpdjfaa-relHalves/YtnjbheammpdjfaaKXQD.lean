import Derived.Test.YtnjbheammpdjfaaProg
import Derived.Test.YtnjbheammpdjfaaKXQF
import Derived.Test.YtnjbheammpdjfaaKQA
import Derived.WalkKit
import Derived.ProofKit
import Derived.RowKit3
import Derived.Deep.RegionHeld3
import Derived.WalkSpells
import Derived.StillTactics
import Derived.Laws.FloatArith
import Derived.Deep.QuietTactic
import Derived.BigQuiet
import Derived.Below
namespace Go.Proofs.Ytnjbheammpdjfaa
open Go.RowKit
namespace Fq
set_option maxRecDepth 20000 in
set_option maxHeartbeats 400000 in
theorem rfull_D (w : World) : Calls Try.prog 75 #[.bool true] w fun e w' => e = .returned (.int .u64 4503599627370496) ∧ w' = w := by
  go_enter Try.func75, Try.ntmps75
  go_wp2
  exact bodyPost_ret (v := .int .u64 4503599627370496) (by simp [results, Try.results75, go_sem]) rfl ⟨rfl, rfl⟩

set_option maxRecDepth 20000 in
set_option maxHeartbeats 400000 in
theorem rleast_D (w : World) : Calls Try.prog 77 #[.bool true] w fun e w' => e = .returned (.int .i64 (-1074)) ∧ w' = w := by
  go_enter Try.func77, Try.ntmps77
  go_wp2
  exact bodyPost_ret (v := .int .i64 (-1074)) (by simp [results, Try.results77, go_sem]) rfl ⟨rfl, rfl⟩

set_option maxRecDepth 20000 in
set_option maxHeartbeats 400000 in
theorem rtop_D (w : World) : Calls Try.prog 76 #[.bool true] w fun e w' => e = .returned (.int .i64 971) ∧ w' = w := by
  go_enter Try.func76, Try.ntmps76
  go_wp2
  exact bodyPost_ret (v := .int .i64 971) (by simp [results, Try.results76, go_sem]) rfl ⟨rfl, rfl⟩

set_option maxRecDepth 20000 in
set_option maxHeartbeats 1000000 in
theorem rof_D (n : Bool) (m : Nat) (hm : m < 9223372036854775808) (w : World) : Calls Try.prog 74 #[.bool true, .int .u64 ((wD n m : Nat) : Int)] w fun e w' => e = .returned (.agg #[.int .i64 (kdD m), .bool n, .int .u64 ((sgD m : Nat) : Int), .int .i64 (epD m)]) ∧ Grown w w' := by
  obtain ⟨X, hX⟩ : ∃ X : Int, X = ((wD n m : Nat) : Int) := ⟨_, rfl⟩
  obtain ⟨B, hB⟩ : ∃ B : Int, B = 4503599627370496 := ⟨_, rfl⟩
  obtain ⟨H, hH⟩ : ∃ H : Int, H = 9223372036854775808 := ⟨_, rfl⟩
  obtain ⟨E, hE⟩ : ∃ E : Int, E = (m : Int) / 4503599627370496 := ⟨_, rfl⟩
  obtain ⟨Q, hQ⟩ : ∃ Q : Int, Q = (m : Int) % 4503599627370496 := ⟨_, rfl⟩
  obtain ⟨R, hR⟩ : ∃ R : Int, R = (m : Int) := ⟨_, rfl⟩
  have hful : ∀ w : World, Calls Try.prog 75 #[.bool true] w fun e w' => e = .returned (.int .u64 B) ∧ w' = w := by rw [hB]; exact rfull_D
  rw [← hX]
  have f1 : IntKind.u64.wrap (B * 2048) = H := by rw [hB, hH]; decide +kernel
  have f4 : IntKind.u64.wrap (R.tdiv B) = E := by
    rw [hR, hB, hE, Int.tdiv_eq_ediv_of_nonneg (by omega), wrapU (by omega) (by omega)]
  have f5 : wrap64 E = E := by unfold wrap64; omega
  have f6 : R.tmod B = Q := by rw [hR, hB, hQ, Int.tmod_eq_emod_of_nonneg (by omega)]
  have f7 : ¬ B = 0 := by omega
  rcases (by omega : m < 4503599627370496 ∨ (4503599627370496 ≤ m ∧ m < 9218868437227405312) ∨ m = 9218868437227405312 ∨ 9218868437227405312 < m) with c | c | c | c
  · have f8 : (E == 2047) = false := by simp; omega
    have f9 : ¬ (0 < E) := by omega
    have e1 : kdD m = 0 := by unfold kdD kdG; (repeat' split) <;> omega
    have e2 : ((sgD m : Nat) : Int) = Q := by unfold sgD sgG; (repeat' split) <;> omega
    have e3 : epD m = (-1074) := by unfold epD epG; (repeat' split) <;> omega
    rw [e1, e2, e3]
    clear e1 e2 e3
    cases n
    · have f2 : ¬ (H ≤ X) := by rw [hX, hH]; unfold wD; simp; omega
      have f3 : X = R := by rw [hX, hR]; rfl
      subst f3
      clear hX hB hH hE hQ hR hm c
      go_enter Try.func74, Try.ntmps74
      go_wp2_with (first | (go_at_call 75; refine (hful _).mono ?_; rintro e w' ⟨rfl, rfl⟩) | (go_at_call 77; refine (rleast_D _).mono ?_; rintro e w' ⟨rfl, rfl⟩) | (go_at_call 76; refine (rtop_D _).mono ?_; rintro e w' ⟨rfl, rfl⟩))
      exact bodyPost_ret (v := .agg #[.int .i64 0, .bool false, .int .u64 Q, .int .i64 (-1074)]) (by simp [results, Try.results74, go_sem] <;> simp only [*]) rfl ⟨rfl, (by repeat (with_reducible (first | assumption | exact Grown.refl _ | apply Grown.drew | apply Grown.alloc | apply gdrewN | (refine gtrans ?_ (by assumption)))))⟩
    · have f2 : H ≤ X := by rw [hX, hH]; unfold wD; simp; omega
      have f3 : IntKind.u64.wrap (X - H) = R := by rw [hX, hH, hR, wrapU (by unfold wD; simp; omega) (by unfold wD; simp; omega)]; unfold wD; simp; omega
      clear hX hB hH hE hQ hR hm c
      go_enter Try.func74, Try.ntmps74
      go_wp2_with (first | (go_at_call 75; refine (hful _).mono ?_; rintro e w' ⟨rfl, rfl⟩) | (go_at_call 77; refine (rleast_D _).mono ?_; rintro e w' ⟨rfl, rfl⟩) | (go_at_call 76; refine (rtop_D _).mono ?_; rintro e w' ⟨rfl, rfl⟩))
      exact bodyPost_ret (v := .agg #[.int .i64 0, .bool true, .int .u64 Q, .int .i64 (-1074)]) (by simp [results, Try.results74, go_sem] <;> simp only [*]) rfl ⟨rfl, (by repeat (with_reducible (first | assumption | exact Grown.refl _ | apply Grown.drew | apply Grown.alloc | apply gdrewN | (refine gtrans ?_ (by assumption)))))⟩
  · have f8 : (E == 2047) = false := by simp; omega
    have f9 : 0 < E := by omega
    have f10 : IntKind.u64.wrap (Q + B) = Q + B := wrapU (by omega) (by omega)
    have f11 : wrap64 (wrap64 (-1074 + E) - 1) = -1074 + E - 1 := by unfold wrap64; omega
    have e1 : kdD m = 0 := by unfold kdD kdG; (repeat' split) <;> omega
    have e2 : ((sgD m : Nat) : Int) = (Q + B) := by unfold sgD sgG; (repeat' split) <;> omega
    have e3 : epD m = (-1074 + E - 1) := by unfold epD epG; (repeat' split) <;> omega
    rw [e1, e2, e3]
    clear e1 e2 e3
    cases n
    · have f2 : ¬ (H ≤ X) := by rw [hX, hH]; unfold wD; simp; omega
      have f3 : X = R := by rw [hX, hR]; rfl
      subst f3
      clear hX hB hH hE hQ hR hm c
      go_enter Try.func74, Try.ntmps74
      go_wp2_with (first | (go_at_call 75; refine (hful _).mono ?_; rintro e w' ⟨rfl, rfl⟩) | (go_at_call 77; refine (rleast_D _).mono ?_; rintro e w' ⟨rfl, rfl⟩) | (go_at_call 76; refine (rtop_D _).mono ?_; rintro e w' ⟨rfl, rfl⟩))
      exact bodyPost_ret (v := .agg #[.int .i64 0, .bool false, .int .u64 (Q + B), .int .i64 (-1074 + E - 1)]) (by simp [results, Try.results74, go_sem] <;> simp only [*]) rfl ⟨rfl, (by repeat (with_reducible (first | assumption | exact Grown.refl _ | apply Grown.drew | apply Grown.alloc | apply gdrewN | (refine gtrans ?_ (by assumption)))))⟩
    · have f2 : H ≤ X := by rw [hX, hH]; unfold wD; simp; omega
      have f3 : IntKind.u64.wrap (X - H) = R := by rw [hX, hH, hR, wrapU (by unfold wD; simp; omega) (by unfold wD; simp; omega)]; unfold wD; simp; omega
      clear hX hB hH hE hQ hR hm c
      go_enter Try.func74, Try.ntmps74
      go_wp2_with (first | (go_at_call 75; refine (hful _).mono ?_; rintro e w' ⟨rfl, rfl⟩) | (go_at_call 77; refine (rleast_D _).mono ?_; rintro e w' ⟨rfl, rfl⟩) | (go_at_call 76; refine (rtop_D _).mono ?_; rintro e w' ⟨rfl, rfl⟩))
      exact bodyPost_ret (v := .agg #[.int .i64 0, .bool true, .int .u64 (Q + B), .int .i64 (-1074 + E - 1)]) (by simp [results, Try.results74, go_sem] <;> simp only [*]) rfl ⟨rfl, (by repeat (with_reducible (first | assumption | exact Grown.refl _ | apply Grown.drew | apply Grown.alloc | apply gdrewN | (refine gtrans ?_ (by assumption)))))⟩
  · have f8 : (E == 2047) = true := by simp; omega
    have f9 : (Q != 0) = false := by simp; omega
    have e1 : kdD m = 1 := by unfold kdD kdG; (repeat' split) <;> omega
    have e2 : ((sgD m : Nat) : Int) = Q := by unfold sgD sgG; (repeat' split) <;> omega
    have e3 : epD m = (-1074) := by unfold epD epG; (repeat' split) <;> omega
    rw [e1, e2, e3]
    clear e1 e2 e3
    cases n
    · have f2 : ¬ (H ≤ X) := by rw [hX, hH]; unfold wD; simp; omega
      have f3 : X = R := by rw [hX, hR]; rfl
      subst f3
      clear hX hB hH hE hQ hR hm c
      go_enter Try.func74, Try.ntmps74
      go_wp2_with (first | (go_at_call 75; refine (hful _).mono ?_; rintro e w' ⟨rfl, rfl⟩) | (go_at_call 77; refine (rleast_D _).mono ?_; rintro e w' ⟨rfl, rfl⟩) | (go_at_call 76; refine (rtop_D _).mono ?_; rintro e w' ⟨rfl, rfl⟩))
      exact bodyPost_ret (v := .agg #[.int .i64 1, .bool false, .int .u64 Q, .int .i64 (-1074)]) (by simp [results, Try.results74, go_sem] <;> simp only [*]) rfl ⟨rfl, (by repeat (with_reducible (first | assumption | exact Grown.refl _ | apply Grown.drew | apply Grown.alloc | apply gdrewN | (refine gtrans ?_ (by assumption)))))⟩
    · have f2 : H ≤ X := by rw [hX, hH]; unfold wD; simp; omega
      have f3 : IntKind.u64.wrap (X - H) = R := by rw [hX, hH, hR, wrapU (by unfold wD; simp; omega) (by unfold wD; simp; omega)]; unfold wD; simp; omega
      clear hX hB hH hE hQ hR hm c
      go_enter Try.func74, Try.ntmps74
      go_wp2_with (first | (go_at_call 75; refine (hful _).mono ?_; rintro e w' ⟨rfl, rfl⟩) | (go_at_call 77; refine (rleast_D _).mono ?_; rintro e w' ⟨rfl, rfl⟩) | (go_at_call 76; refine (rtop_D _).mono ?_; rintro e w' ⟨rfl, rfl⟩))
      exact bodyPost_ret (v := .agg #[.int .i64 1, .bool true, .int .u64 Q, .int .i64 (-1074)]) (by simp [results, Try.results74, go_sem] <;> simp only [*]) rfl ⟨rfl, (by repeat (with_reducible (first | assumption | exact Grown.refl _ | apply Grown.drew | apply Grown.alloc | apply gdrewN | (refine gtrans ?_ (by assumption)))))⟩
  · have f8 : (E == 2047) = true := by simp; omega
    have f9 : (Q != 0) = true := by simp; omega
    have e1 : kdD m = 2 := by unfold kdD kdG; (repeat' split) <;> omega
    have e2 : ((sgD m : Nat) : Int) = Q := by unfold sgD sgG; (repeat' split) <;> omega
    have e3 : epD m = (-1074) := by unfold epD epG; (repeat' split) <;> omega
    rw [e1, e2, e3]
    clear e1 e2 e3
    cases n
    · have f2 : ¬ (H ≤ X) := by rw [hX, hH]; unfold wD; simp; omega
      have f3 : X = R := by rw [hX, hR]; rfl
      subst f3
      clear hX hB hH hE hQ hR hm c
      go_enter Try.func74, Try.ntmps74
      go_wp2_with (first | (go_at_call 75; refine (hful _).mono ?_; rintro e w' ⟨rfl, rfl⟩) | (go_at_call 77; refine (rleast_D _).mono ?_; rintro e w' ⟨rfl, rfl⟩) | (go_at_call 76; refine (rtop_D _).mono ?_; rintro e w' ⟨rfl, rfl⟩))
      exact bodyPost_ret (v := .agg #[.int .i64 2, .bool false, .int .u64 Q, .int .i64 (-1074)]) (by simp [results, Try.results74, go_sem] <;> simp only [*]) rfl ⟨rfl, (by repeat (with_reducible (first | assumption | exact Grown.refl _ | apply Grown.drew | apply Grown.alloc | apply gdrewN | (refine gtrans ?_ (by assumption)))))⟩
    · have f2 : H ≤ X := by rw [hX, hH]; unfold wD; simp; omega
      have f3 : IntKind.u64.wrap (X - H) = R := by rw [hX, hH, hR, wrapU (by unfold wD; simp; omega) (by unfold wD; simp; omega)]; unfold wD; simp; omega
      clear hX hB hH hE hQ hR hm c
      go_enter Try.func74, Try.ntmps74
      go_wp2_with (first | (go_at_call 75; refine (hful _).mono ?_; rintro e w' ⟨rfl, rfl⟩) | (go_at_call 77; refine (rleast_D _).mono ?_; rintro e w' ⟨rfl, rfl⟩) | (go_at_call 76; refine (rtop_D _).mono ?_; rintro e w' ⟨rfl, rfl⟩))
      exact bodyPost_ret (v := .agg #[.int .i64 2, .bool true, .int .u64 Q, .int .i64 (-1074)]) (by simp [results, Try.results74, go_sem] <;> simp only [*]) rfl ⟨rfl, (by repeat (with_reducible (first | assumption | exact Grown.refl _ | apply Grown.drew | apply Grown.alloc | apply gdrewN | (refine gtrans ?_ (by assumption)))))⟩

end Fq
namespace Fq
theorem fldD (k : Int) (n : Bool) (s e : Int) (w : World) : (Instr.field 87 (.agg #[.int .i64 k, .bool n, .int .u64 s, .int .i64 e]) 0).run Try.prog w = .ok (.int .i64 k) w := by kernel_rfl

set_option maxRecDepth 20000 in
set_option maxHeartbeats 1000000 in
theorem rbits_D (n : Bool) (m : Nat) (hm : m ≤ 9218868437227405312) (w : World) : Calls Try.prog 82 #[.bool true, .agg #[.int .i64 (kdD m), .bool n, .int .u64 ((sgD m : Nat) : Int), .int .i64 (epD m)]] w fun e w' => e = .returned (.int .u64 ((wD n m : Nat) : Int)) ∧ Grown w w' := by
  obtain ⟨B, hB⟩ : ∃ B : Int, B = 4503599627370496 := ⟨_, rfl⟩
  have hful : ∀ w : World, Calls Try.prog 75 #[.bool true] w fun e w' => e = .returned (.int .u64 B) ∧ w' = w := by rw [hB]; exact rfull_D
  obtain ⟨H, hH⟩ : ∃ H : Int, H = 9223372036854775808 := ⟨_, rfl⟩
  obtain ⟨J, hJ⟩ : ∃ J : Int, J = 9218868437227405312 := ⟨_, rfl⟩
  obtain ⟨R, hR⟩ : ∃ R : Int, R = (m : Int) := ⟨_, rfl⟩
  have f1 : IntKind.u64.wrap (B * 2048) = H := by rw [hB, hH]; decide +kernel
  have f2 : IntKind.u64.wrap (2047 * B) = J := by rw [hB, hJ]; decide +kernel
  have f3 : IntKind.u64.wrap (R + H) = R + H := by rw [hR, hH, wrapU (by omega) (by omega)]
  have e5 : ((wD true m : Nat) : Int) = R + H := by rw [hR, hH]; unfold wD; simp; omega
  have e6 : ((wD false m : Nat) : Int) = R := by rw [hR]; rfl
  obtain ⟨s, hs⟩ : ∃ s : Int, s = ((sgD m : Nat) : Int) := ⟨_, rfl⟩
  obtain ⟨e, he⟩ : ∃ e : Int, e = epD m := ⟨_, rfl⟩
  rw [← hs, ← he]
  rcases (by omega : m = 9218868437227405312 ∨ (4503599627370496 ≤ m ∧ m < 9218868437227405312) ∨ (m < 4503599627370496)) with c | c | c
  · have e1 : kdD m = 1 := by unfold kdD kdG; (repeat' split) <;> omega
    rw [e1]
    have g1 : J = R := by rw [hJ, hR]; omega
    rw [g1] at f2
    clear g1
    cases n
    · rw [e6]
      clear e1 hs he hB hm hH hJ hR e5 e6 c
      go_enter Try.func82, Try.ntmps82
      go_wp2_with (first | (go_at_call 75; refine (hful _).mono ?_; rintro e w' ⟨rfl, rfl⟩) | (go_at_call 77; refine (rleast_D _).mono ?_; rintro e w' ⟨rfl, rfl⟩) | (go_at_call 76; refine (rtop_D _).mono ?_; rintro e w' ⟨rfl, rfl⟩))
      exact bodyPost_ret (v := .int .u64 R) (by simp [results, Try.results82, go_sem] <;> simp only [*]) rfl ⟨rfl, (by repeat (with_reducible (first | assumption | exact Grown.refl _ | apply Grown.drew | apply Grown.alloc | apply gdrewN | (refine gtrans ?_ (by assumption)))))⟩
    · rw [e5]
      clear e1 hs he hB hm hH hJ hR e5 e6 c
      go_enter Try.func82, Try.ntmps82
      go_wp2_with (first | (go_at_call 75; refine (hful _).mono ?_; rintro e w' ⟨rfl, rfl⟩) | (go_at_call 77; refine (rleast_D _).mono ?_; rintro e w' ⟨rfl, rfl⟩) | (go_at_call 76; refine (rtop_D _).mono ?_; rintro e w' ⟨rfl, rfl⟩))
      exact bodyPost_ret (v := .int .u64 (R + H)) (by simp [results, Try.results82, go_sem] <;> simp only [*]) rfl ⟨rfl, (by repeat (with_reducible (first | assumption | exact Grown.refl _ | apply Grown.drew | apply Grown.alloc | apply gdrewN | (refine gtrans ?_ (by assumption)))))⟩
  · have e1 : kdD m = 0 := by unfold kdD kdG; (repeat' split) <;> omega
    rw [e1]
    have g1 : B ≤ s := by rw [hB, hs]; unfold sgD sgG; (repeat' split) <;> omega
    have q1 : wrap64 (wrap64 (e + 1074) + 1) = (m : Int) / 4503599627370496 := by rw [he]; unfold wrap64 epD epG; (repeat' split) <;> omega
    have q2 : s = 4503599627370496 + (m : Int) % 4503599627370496 := by rw [hs]; unfold sgD sgG; (repeat' split) <;> omega
    have g2 : IntKind.u64.wrap (IntKind.u64.wrap (IntKind.u64.wrap (IntKind.u64.wrap (wrap64 (wrap64 (e + 1074) + 1)) * B) + s) - B) = R := by rw [q1, q2, hB, hR]; exact bitsR _ _ _ _ (by omega) (by omega) (by omega) (by omega) (by omega) (by omega)
    have q3 : True := by clear q1 q2; trivial
    cases n
    · rw [e6]
      clear e1 hs he hB hm hH hJ hR e5 e6 c q1 q2 q3
      go_enter Try.func82, Try.ntmps82
      go_wp2_with (first | (go_at_call 75; refine (hful _).mono ?_; rintro e w' ⟨rfl, rfl⟩) | (go_at_call 77; refine (rleast_D _).mono ?_; rintro e w' ⟨rfl, rfl⟩) | (go_at_call 76; refine (rtop_D _).mono ?_; rintro e w' ⟨rfl, rfl⟩))
      go_quiet ((go_at_call 77; exact Calls.quiet_of_same (rleast_D _)))
      go_wp2
      exact bodyPost_ret (v := .int .u64 R) (by simp [results, Try.results82, go_sem] <;> simp only [*]) rfl ⟨rfl, (by repeat (with_reducible (first | assumption | exact Grown.refl _ | apply Grown.drew | apply Grown.alloc | apply gdrewN | (refine gtrans ?_ (by assumption)))))⟩
    · rw [e5]
      clear e1 hs he hB hm hH hJ hR e5 e6 c q1 q2 q3
      go_enter Try.func82, Try.ntmps82
      go_wp2_with (first | (go_at_call 75; refine (hful _).mono ?_; rintro e w' ⟨rfl, rfl⟩) | (go_at_call 77; refine (rleast_D _).mono ?_; rintro e w' ⟨rfl, rfl⟩) | (go_at_call 76; refine (rtop_D _).mono ?_; rintro e w' ⟨rfl, rfl⟩))
      go_quiet ((go_at_call 77; exact Calls.quiet_of_same (rleast_D _)))
      go_wp2
      exact bodyPost_ret (v := .int .u64 (R + H)) (by simp [results, Try.results82, go_sem] <;> simp only [*]) rfl ⟨rfl, (by repeat (with_reducible (first | assumption | exact Grown.refl _ | apply Grown.drew | apply Grown.alloc | apply gdrewN | (refine gtrans ?_ (by assumption)))))⟩
  · have e1 : kdD m = 0 := by unfold kdD kdG; (repeat' split) <;> omega
    rw [e1]
    have g1 : ¬ (B ≤ s) := by rw [hB, hs]; unfold sgD sgG; (repeat' split) <;> omega
    have g2 : s = R := by rw [hs, hR]; unfold sgD sgG; (repeat' split) <;> omega
    rw [g2] at g1
    rw [g2]
    clear g2
    cases n
    · rw [e6]
      clear e1 hs he hB hm hH hJ hR e5 e6 c
      go_enter Try.func82, Try.ntmps82
      go_wp2_with (first | (go_at_call 75; refine (hful _).mono ?_; rintro e w' ⟨rfl, rfl⟩) | (go_at_call 77; refine (rleast_D _).mono ?_; rintro e w' ⟨rfl, rfl⟩) | (go_at_call 76; refine (rtop_D _).mono ?_; rintro e w' ⟨rfl, rfl⟩))
      exact bodyPost_ret (v := .int .u64 R) (by simp [results, Try.results82, go_sem] <;> simp only [*]) rfl ⟨rfl, (by repeat (with_reducible (first | assumption | exact Grown.refl _ | apply Grown.drew | apply Grown.alloc | apply gdrewN | (refine gtrans ?_ (by assumption)))))⟩
    · rw [e5]
      clear e1 hs he hB hm hH hJ hR e5 e6 c
      go_enter Try.func82, Try.ntmps82
      go_wp2_with (first | (go_at_call 75; refine (hful _).mono ?_; rintro e w' ⟨rfl, rfl⟩) | (go_at_call 77; refine (rleast_D _).mono ?_; rintro e w' ⟨rfl, rfl⟩) | (go_at_call 76; refine (rtop_D _).mono ?_; rintro e w' ⟨rfl, rfl⟩))
      exact bodyPost_ret (v := .int .u64 (R + H)) (by simp [results, Try.results82, go_sem] <;> simp only [*]) rfl ⟨rfl, (by repeat (with_reducible (first | assumption | exact Grown.refl _ | apply Grown.drew | apply Grown.alloc | apply gdrewN | (refine gtrans ?_ (by assumption)))))⟩

end Fq
namespace Fq
set_option maxRecDepth 20000 in
set_option maxHeartbeats 1000000 in
theorem rbitsn_D (n : Bool) (s e : Int) (w : World) : Calls Try.prog 82 #[.bool true, .agg #[.int .i64 2, .bool n, .int .u64 s, .int .i64 e]] w fun e w' => e = .returned (.int .u64 ((wD false 9221120237041090560 : Nat) : Int)) ∧ Grown w w' := by
  obtain ⟨B, hB⟩ : ∃ B : Int, B = 4503599627370496 := ⟨_, rfl⟩
  have hful : ∀ w : World, Calls Try.prog 75 #[.bool true] w fun e w' => e = .returned (.int .u64 B) ∧ w' = w := by rw [hB]; exact rfull_D
  obtain ⟨H, hH⟩ : ∃ H : Int, H = 9223372036854775808 := ⟨_, rfl⟩
  obtain ⟨J, hJ⟩ : ∃ J : Int, J = 9218868437227405312 := ⟨_, rfl⟩
  obtain ⟨Z, hZ⟩ : ∃ Z : Int, Z = ((wD false 9221120237041090560 : Nat) : Int) := ⟨_, rfl⟩
  have f1 : IntKind.u64.wrap (B * 2048) = H := by rw [hB, hH]; decide +kernel
  have f2 : IntKind.u64.wrap (2047 * B) = J := by rw [hB, hJ]; decide +kernel
  have f3 : IntKind.u64.wrap (J + IntKind.u64.wrap (B.tdiv 2)) = Z := by rw [hB, hJ, hZ]; decide +kernel
  rw [← hZ]
  clear hB hH hJ hZ
  go_enter Try.func82, Try.ntmps82
  go_wp2_with (first | (go_at_call 75; refine (hful _).mono ?_; rintro e w' ⟨rfl, rfl⟩) | (go_at_call 77; refine (rleast_D _).mono ?_; rintro e w' ⟨rfl, rfl⟩) | (go_at_call 76; refine (rtop_D _).mono ?_; rintro e w' ⟨rfl, rfl⟩))
  exact bodyPost_ret (v := .int .u64 Z) (by simp [results, Try.results82, go_sem] <;> simp only [*]) rfl ⟨rfl, (by repeat (with_reducible (first | assumption | exact Grown.refl _ | apply Grown.drew | apply Grown.alloc | apply gdrewN | (refine gtrans ?_ (by assumption)))))⟩

set_option maxRecDepth 20000 in
set_option maxHeartbeats 1000000 in
theorem rplacen_D (n : Bool) (m : Nat) (c : 9218868437227405312 < m) (hm : m < 9223372036854775808) (w : World) : Calls Try.prog 51 #[.bool true, .int .u64 ((wD n m : Nat) : Int)] w fun e w' => e = .returned (.tuple #[.int .i64 0, .bool false]) ∧ Grown w w' := by
  have hof := rof_D n m hm
  obtain ⟨x, hx⟩ : ∃ x : Int, x = ((wD n m : Nat) : Int) := ⟨_, rfl⟩
  rw [← hx] at hof ⊢
  clear hx
  obtain ⟨s, hs⟩ : ∃ s : Int, s = ((sgD m : Nat) : Int) := ⟨_, rfl⟩
  obtain ⟨e, he⟩ : ∃ e : Int, e = epD m := ⟨_, rfl⟩
  rw [← hs, ← he] at hof
  have e1 : kdD m = 2 := by unfold kdD kdG; (repeat' split) <;> omega
  rw [e1] at hof
  clear e1 c hm hs he
  go_enter Try.func51, Try.ntmps51
  go_wp2_with (first | (go_at_call 74; refine (hof _).mono ?_; rintro e w' ⟨rfl, g1⟩))
  exact bodyPost_ret (v := .tuple #[.int .i64 0, .bool false]) (by simp [results, Try.results51, go_sem] <;> simp only [*]) rfl ⟨rfl, (by repeat (with_reducible (first | assumption | exact Grown.refl _ | apply Grown.drew | apply Grown.alloc | apply gdrewN | (refine gtrans ?_ (by assumption)))))⟩

set_option maxRecDepth 20000 in
set_option maxHeartbeats 2000000 in
theorem rplace_D (n : Bool) (m : Nat) (c : m ≤ 9218868437227405312) (w : World) : Calls Try.prog 51 #[.bool true, .int .u64 ((wD n m : Nat) : Int)] w fun e w' => e = .returned (.tuple #[.int .i64 (plz n m), .bool true]) ∧ Grown w w' := by
  have hof := rof_D n m (by omega)
  obtain ⟨x, hx⟩ : ∃ x : Int, x = ((wD n m : Nat) : Int) := ⟨_, rfl⟩
  rw [← hx] at hof ⊢
  clear hx
  obtain ⟨s, hs⟩ : ∃ s : Int, s = ((sgD m : Nat) : Int) := ⟨_, rfl⟩
  obtain ⟨e, he⟩ : ∃ e : Int, e = epD m := ⟨_, rfl⟩
  rw [← hs, ← he] at hof
  obtain ⟨B, hB⟩ : ∃ B : Int, B = 4503599627370496 := ⟨_, rfl⟩
  have hful : ∀ w : World, Calls Try.prog 75 #[.bool true] w fun e w' => e = .returned (.int .u64 B) ∧ w' = w := by rw [hB]; exact rfull_D
  obtain ⟨R, hR⟩ : ∃ R : Int, R = (m : Int) := ⟨_, rfl⟩
  obtain ⟨J, hJ⟩ : ∃ J : Int, J = 9218868437227405312 := ⟨_, rfl⟩
  have f0 : wrap64 B = B := by unfold wrap64; omega
  have f1 : wrap64 (wrap64 (2045 * B) + wrap64 (2 * B)) = J := by rw [hB, hJ]; decide +kernel
  have f2 : wrap64 (-R) = -R := by unfold wrap64; omega
  have ep1 : plz false m = R := by rw [hR]; rfl
  have ep2 : plz true m = -R := by rw [hR]; rfl
  rcases (by omega : m = 9218868437227405312 ∨ m < 9218868437227405312) with c1 | c1
  · have e1 : kdD m = 1 := by unfold kdD kdG; (repeat' split) <;> omega
    rw [e1] at hof
    have e2 : J = R := by rw [hJ, hR, c1]; rfl
    rw [e2] at f1
    cases n
    · rw [ep1]
      clear e1 e2 hs he hB hR hJ c c1 ep1 ep2
      go_enter Try.func51, Try.ntmps51
      go_wp2_with (first | (go_at_call 74; refine (hof _).mono ?_; rintro e w' ⟨rfl, g1⟩) | (go_at_call 75; refine (hful _).mono ?_; rintro e w' ⟨rfl, rfl⟩) | (go_at_call 77; refine (rleast_D _).mono ?_; rintro e w' ⟨rfl, rfl⟩) | (go_at_call 76; refine (rtop_D _).mono ?_; rintro e w' ⟨rfl, rfl⟩))
      exact bodyPost_ret (v := .tuple #[.int .i64 R, .bool true]) (by simp [results, Try.results51, go_sem] <;> simp only [*]) rfl ⟨rfl, (by repeat (with_reducible (first | assumption | exact Grown.refl _ | apply Grown.drew | apply Grown.alloc | apply gdrewN | (refine gtrans ?_ (by assumption)))))⟩
    · rw [ep2]
      clear e1 e2 hs he hB hR hJ c c1 ep1 ep2
      go_enter Try.func51, Try.ntmps51
      go_wp2_with (first | (go_at_call 74; refine (hof _).mono ?_; rintro e w' ⟨rfl, g1⟩) | (go_at_call 75; refine (hful _).mono ?_; rintro e w' ⟨rfl, rfl⟩) | (go_at_call 77; refine (rleast_D _).mono ?_; rintro e w' ⟨rfl, rfl⟩) | (go_at_call 76; refine (rtop_D _).mono ?_; rintro e w' ⟨rfl, rfl⟩))
      exact bodyPost_ret (v := .tuple #[.int .i64 (-R), .bool true]) (by simp [results, Try.results51, go_sem] <;> simp only [*]) rfl ⟨rfl, (by repeat (with_reducible (first | assumption | exact Grown.refl _ | apply Grown.drew | apply Grown.alloc | apply gdrewN | (refine gtrans ?_ (by assumption)))))⟩
  · have e1 : kdD m = 0 := by unfold kdD kdG; (repeat' split) <;> omega
    rw [e1] at hof
    have q1 : wrap64 s = s := by rw [hs]; unfold wrap64 sgD sgG; (repeat' split) <;> omega
    have q2 : wrap64 (e + 1074) = e + 1074 := by rw [he]; unfold wrap64 epD epG; (repeat' split) <;> omega
    have q3 : wrap64 (s + wrap64 ((e + 1074) * B)) = R := by
      rw [hs, he, hB, hR]; unfold wrap64 sgD sgG epD epG; (repeat' split) <;> omega
    cases n
    · rw [ep1]
      clear e1 hs he hB hR hJ c c1 ep1 ep2
      go_enter Try.func51, Try.ntmps51
      go_wp2_with (first | (go_at_call 74; refine (hof _).mono ?_; rintro e w' ⟨rfl, g1⟩) | (go_at_call 75; refine (hful _).mono ?_; rintro e w' ⟨rfl, rfl⟩) | (go_at_call 77; refine (rleast_D _).mono ?_; rintro e w' ⟨rfl, rfl⟩) | (go_at_call 76; refine (rtop_D _).mono ?_; rintro e w' ⟨rfl, rfl⟩))
      go_quiet ((go_at_call 77; exact Calls.quiet_of_same (rleast_D _)))
      go_wp2
      exact bodyPost_ret (v := .tuple #[.int .i64 R, .bool true]) (by simp [results, Try.results51, go_sem] <;> simp only [*]) rfl ⟨rfl, (by repeat (with_reducible (first | assumption | exact Grown.refl _ | apply Grown.drew | apply Grown.alloc | apply gdrewN | (refine gtrans ?_ (by assumption)))))⟩
    · rw [ep2]
      clear e1 hs he hB hR hJ c c1 ep1 ep2
      go_enter Try.func51, Try.ntmps51
      go_wp2_with (first | (go_at_call 74; refine (hof _).mono ?_; rintro e w' ⟨rfl, g1⟩) | (go_at_call 75; refine (hful _).mono ?_; rintro e w' ⟨rfl, rfl⟩) | (go_at_call 77; refine (rleast_D _).mono ?_; rintro e w' ⟨rfl, rfl⟩) | (go_at_call 76; refine (rtop_D _).mono ?_; rintro e w' ⟨rfl, rfl⟩))
      go_quiet ((go_at_call 77; exact Calls.quiet_of_same (rleast_D _)))
      go_wp2
      exact bodyPost_ret (v := .tuple #[.int .i64 (-R), .bool true]) (by simp [results, Try.results51, go_sem] <;> simp only [*]) rfl ⟨rfl, (by repeat (with_reducible (first | assumption | exact Grown.refl _ | apply Grown.drew | apply Grown.alloc | apply gdrewN | (refine gtrans ?_ (by assumption)))))⟩

set_option maxRecDepth 20000 in
set_option maxHeartbeats 2000000 in
theorem ratx_D (p : Int) (h : p < -9218868437227405312 ∨ 9218868437227405312 < p) (w : World) : Calls Try.prog 53 #[.bool true, .int .i64 p] w fun e w' => e = .returned (.tuple #[.int .u64 ((wD false 0 : Nat) : Int), .bool false]) ∧ Grown w w' := by
  obtain ⟨B, hB⟩ : ∃ B : Int, B = 4503599627370496 := ⟨_, rfl⟩
  have hful : ∀ w : World, Calls Try.prog 75 #[.bool true] w fun e w' => e = .returned (.int .u64 B) ∧ w' = w := by rw [hB]; exact rfull_D
  obtain ⟨J, hJ⟩ : ∃ J : Int, J = 9218868437227405312 := ⟨_, rfl⟩
  have f0 : wrap64 B = B := by unfold wrap64; omega
  have f1 : wrap64 (wrap64 (2045 * B) + wrap64 (2 * B)) = J := by rw [hB, hJ]; decide +kernel
  have f2 : wrap64 (-J) = -J := by unfold wrap64; omega
  have f3 : wrap64 (2 * B) = 2 * B := by unfold wrap64; omega
  have f4 : ¬ (B = 0) := by omega
  rw [f3] at f1
  have ew : ((wD false 0 : Nat) : Int) = 0 := rfl
  rw [ew]
  clear ew
  rcases h with h | h
  · have d1 : ¬ (J < p) := by omega
    have d2 : p < -J := by omega
    clear hB hJ h
    go_enter Try.func53, Try.ntmps53
    go_wp2_with (first | (go_at_call 75; refine (hful _).mono ?_; rintro e w' ⟨rfl, rfl⟩) | (go_at_call 77; refine (rleast_D _).mono ?_; rintro e w' ⟨rfl, rfl⟩) | (go_at_call 76; refine (rtop_D _).mono ?_; rintro e w' ⟨rfl, rfl⟩))
    exact bodyPost_ret (v := .tuple #[.int .u64 0, .bool false]) (by simp [results, Try.results53, go_sem] <;> simp only [*]) rfl ⟨rfl, (by repeat (with_reducible (first | assumption | exact Grown.refl _ | apply Grown.drew | apply Grown.alloc | apply gdrewN | (refine gtrans ?_ (by assumption)))))⟩
  · have d1 : J < p := by omega
    clear hB hJ h
    go_enter Try.func53, Try.ntmps53
    go_wp2_with (first | (go_at_call 75; refine (hful _).mono ?_; rintro e w' ⟨rfl, rfl⟩) | (go_at_call 77; refine (rleast_D _).mono ?_; rintro e w' ⟨rfl, rfl⟩) | (go_at_call 76; refine (rtop_D _).mono ?_; rintro e w' ⟨rfl, rfl⟩))
    exact bodyPost_ret (v := .tuple #[.int .u64 0, .bool false]) (by simp [results, Try.results53, go_sem] <;> simp only [*]) rfl ⟨rfl, (by repeat (with_reducible (first | assumption | exact Grown.refl _ | apply Grown.drew | apply Grown.alloc | apply gdrewN | (refine gtrans ?_ (by assumption)))))⟩

set_option maxRecDepth 20000 in
set_option maxHeartbeats 2000000 in
theorem rat_D (p : Int) (h1 : -9218868437227405312 ≤ p) (h2 : p ≤ 9218868437227405312) (w : World) : Calls Try.prog 53 #[.bool true, .int .i64 p] w fun e w' => e = .returned (.tuple #[.int .u64 ((fD p : Nat) : Int), .bool true]) ∧ Grown w w' := by
  obtain ⟨B, hB⟩ : ∃ B : Int, B = 4503599627370496 := ⟨_, rfl⟩
  have hful : ∀ w : World, Calls Try.prog 75 #[.bool true] w fun e w' => e = .returned (.int .u64 B) ∧ w' = w := by rw [hB]; exact rfull_D
  obtain ⟨J, hJ⟩ : ∃ J : Int, J = 9218868437227405312 := ⟨_, rfl⟩
  have f0 : wrap64 B = B := by unfold wrap64; omega
  have f1 : wrap64 (wrap64 (2045 * B) + wrap64 (2 * B)) = J := by rw [hB, hJ]; decide +kernel
  have f2 : wrap64 (-J) = -J := by unfold wrap64; omega
  have f3 : wrap64 (2 * B) = 2 * B := by unfold wrap64; omega
  have f4 : ¬ (B = 0) := by omega
  rw [f3] at f1
  have d1 : ¬ (J < p) := by omega
  have d2 : ¬ (p < -J) := by omega
  have hbi := rbits_D (decide (p < 0)) p.natAbs (by omega)
  obtain ⟨Z, hZ⟩ : ∃ Z : Int, Z = ((fD p : Nat) : Int) := ⟨_, rfl⟩
  have hZ2 : ((wD (decide (p < 0)) p.natAbs : Nat) : Int) = Z := by rw [hZ]; rfl
  rw [hZ2] at hbi
  rw [← hZ]
  obtain ⟨m, hm⟩ : ∃ m : Nat, m = p.natAbs := ⟨_, rfl⟩
  rw [← hm] at hbi
  obtain ⟨R, hR⟩ : ∃ R : Int, R = (m : Int) := ⟨_, rfl⟩
  have f5 : IntKind.u64.wrap R = R := by rw [hR, wrapU (by omega) (by omega)]
  rcases (by omega : m = 9218868437227405312 ∨ m < 9007199254740992 ∨ (9007199254740992 ≤ m ∧ m < 9218868437227405312)) with c | c | c
  · have e1 : kdD m = 1 := by unfold kdD kdG; (repeat' split) <;> omega
    have e2 : ((sgD m : Nat) : Int) = 0 := by (try rw [hR]); (try rw [hB]); unfold sgD sgG; (repeat' split) <;> omega
    have e3 : epD m = (-1074) := by (try rw [hR]); (try rw [hB]); unfold epD epG; (repeat' split) <;> omega
    have g1 : (R == J) = true := by rw [hR, hJ]; simp; omega
    rw [e1, e2, e3] at hbi
    by_cases c0 : p < 0
    · have e4 : wrap64 (-p) = R := by rw [hR]; unfold wrap64; omega
      have e5 : decide (p < 0) = true := by simp [c0]
      rw [e5] at hbi
      clear e1 e2 e3 e5 hB hJ hZ hZ2 hm hR c h1 h2
      go_enter Try.func53, Try.ntmps53
      go_wp2_with (first | (go_at_call 82; refine (hbi _).mono ?_; rintro e w' ⟨rfl, g2⟩) | (go_at_call 75; refine (hful _).mono ?_; rintro e w' ⟨rfl, rfl⟩) | (go_at_call 77; refine (rleast_D _).mono ?_; rintro e w' ⟨rfl, rfl⟩) | (go_at_call 76; refine (rtop_D _).mono ?_; rintro e w' ⟨rfl, rfl⟩))
      exact bodyPost_ret (v := .tuple #[.int .u64 Z, .bool true]) (by simp [results, Try.results53, go_sem] <;> simp only [*]) rfl ⟨rfl, (by repeat (with_reducible (first | assumption | exact Grown.refl _ | apply Grown.drew | apply Grown.alloc | apply gdrewN | (refine gtrans ?_ (by assumption)))))⟩
    · have e4 : p = R := by rw [hR]; omega
      have e5 : decide (p < 0) = false := by simp [c0]
      rw [e5] at hbi
      rw [e4] at d1 d2 c0 ⊢
      clear e1 e2 e3 e4 e5 hB hJ hZ hZ2 hm hR c h1 h2
      go_enter Try.func53, Try.ntmps53
      go_wp2_with (first | (go_at_call 82; refine (hbi _).mono ?_; rintro e w' ⟨rfl, g2⟩) | (go_at_call 75; refine (hful _).mono ?_; rintro e w' ⟨rfl, rfl⟩) | (go_at_call 77; refine (rleast_D _).mono ?_; rintro e w' ⟨rfl, rfl⟩) | (go_at_call 76; refine (rtop_D _).mono ?_; rintro e w' ⟨rfl, rfl⟩))
      exact bodyPost_ret (v := .tuple #[.int .u64 Z, .bool true]) (by simp [results, Try.results53, go_sem] <;> simp only [*]) rfl ⟨rfl, (by repeat (with_reducible (first | assumption | exact Grown.refl _ | apply Grown.drew | apply Grown.alloc | apply gdrewN | (refine gtrans ?_ (by assumption)))))⟩
  · have e1 : kdD m = 0 := by unfold kdD kdG; (repeat' split) <;> omega
    have e2 : ((sgD m : Nat) : Int) = R := by (try rw [hR]); (try rw [hB]); unfold sgD sgG; (repeat' split) <;> omega
    have e3 : epD m = (-1074) := by (try rw [hR]); (try rw [hB]); unfold epD epG; (repeat' split) <;> omega
    have g1 : (R == J) = false := by rw [hR, hJ]; simp; omega
    have g2 : ¬ (2 * B ≤ R) := by rw [hR, hB]; omega
    rw [e1, e2, e3] at hbi
    by_cases c0 : p < 0
    · have e4 : wrap64 (-p) = R := by rw [hR]; unfold wrap64; omega
      have e5 : decide (p < 0) = true := by simp [c0]
      rw [e5] at hbi
      clear e1 e2 e3 e5 hB hJ hZ hZ2 hm hR c h1 h2
      go_enter Try.func53, Try.ntmps53
      go_wp2_with (first | (go_at_call 82; refine (hbi _).mono ?_; rintro e w' ⟨rfl, g2⟩) | (go_at_call 75; refine (hful _).mono ?_; rintro e w' ⟨rfl, rfl⟩) | (go_at_call 77; refine (rleast_D _).mono ?_; rintro e w' ⟨rfl, rfl⟩) | (go_at_call 76; refine (rtop_D _).mono ?_; rintro e w' ⟨rfl, rfl⟩))
      exact bodyPost_ret (v := .tuple #[.int .u64 Z, .bool true]) (by simp [results, Try.results53, go_sem] <;> simp only [*]) rfl ⟨rfl, (by repeat (with_reducible (first | assumption | exact Grown.refl _ | apply Grown.drew | apply Grown.alloc | apply gdrewN | (refine gtrans ?_ (by assumption)))))⟩
    · have e4 : p = R := by rw [hR]; omega
      have e5 : decide (p < 0) = false := by simp [c0]
      rw [e5] at hbi
      rw [e4] at d1 d2 c0 ⊢
      clear e1 e2 e3 e4 e5 hB hJ hZ hZ2 hm hR c h1 h2
      go_enter Try.func53, Try.ntmps53
      go_wp2_with (first | (go_at_call 82; refine (hbi _).mono ?_; rintro e w' ⟨rfl, g2⟩) | (go_at_call 75; refine (hful _).mono ?_; rintro e w' ⟨rfl, rfl⟩) | (go_at_call 77; refine (rleast_D _).mono ?_; rintro e w' ⟨rfl, rfl⟩) | (go_at_call 76; refine (rtop_D _).mono ?_; rintro e w' ⟨rfl, rfl⟩))
      exact bodyPost_ret (v := .tuple #[.int .u64 Z, .bool true]) (by simp [results, Try.results53, go_sem] <;> simp only [*]) rfl ⟨rfl, (by repeat (with_reducible (first | assumption | exact Grown.refl _ | apply Grown.drew | apply Grown.alloc | apply gdrewN | (refine gtrans ?_ (by assumption)))))⟩
  · have e1 : kdD m = 0 := by unfold kdD kdG; (repeat' split) <;> omega
    have e2 : ((sgD m : Nat) : Int) = (R - (R / B - 1) * B) := by (try rw [hR]); (try rw [hB]); unfold sgD sgG; (repeat' split) <;> omega
    have e3 : epD m = (-1074 + (R / B - 1)) := by (try rw [hR]); (try rw [hB]); unfold epD epG; (repeat' split) <;> omega
    have g1 : (R == J) = false := by rw [hR, hJ]; simp; omega
    have g2 : 2 * B ≤ R := by rw [hR, hB]; omega
    have g3 : wrap64 (wrap64 (R.tdiv B) - 1) = R / B - 1 := by rw [hR, hB, Int.tdiv_eq_ediv_of_nonneg (by omega)]; rw [wrapI (x := (m : Int) / 4503599627370496) (by omega) (by omega), wrapI (by omega) (by omega)]
    have g4 : IntKind.u64.wrap (wrap64 (R - wrap64 ((R / B - 1) * B))) = R - (R / B - 1) * B := by rw [hR, hB, wrapI (x := ((m : Int) / 4503599627370496 - 1) * 4503599627370496) (by omega) (by omega), wrapI (by omega) (by omega), wrapU (by omega) (by omega)]
    have g5 : wrap64 (-1074 + (R / B - 1)) = -1074 + (R / B - 1) := by rw [hR, hB, wrapI (by omega) (by omega)]
    rw [e1, e2, e3] at hbi
    by_cases c0 : p < 0
    · have e4 : wrap64 (-p) = R := by rw [hR]; unfold wrap64; omega
      have e5 : decide (p < 0) = true := by simp [c0]
      rw [e5] at hbi
      clear e1 e2 e3 e5 hB hJ hZ hZ2 hm hR c h1 h2
      go_enter Try.func53, Try.ntmps53
      go_wp2_with (first | (go_at_call 82; refine (hbi _).mono ?_; rintro e w' ⟨rfl, g2⟩) | (go_at_call 75; refine (hful _).mono ?_; rintro e w' ⟨rfl, rfl⟩) | (go_at_call 77; refine (rleast_D _).mono ?_; rintro e w' ⟨rfl, rfl⟩) | (go_at_call 76; refine (rtop_D _).mono ?_; rintro e w' ⟨rfl, rfl⟩))
      exact bodyPost_ret (v := .tuple #[.int .u64 Z, .bool true]) (by simp [results, Try.results53, go_sem] <;> simp only [*]) rfl ⟨rfl, (by repeat (with_reducible (first | assumption | exact Grown.refl _ | apply Grown.drew | apply Grown.alloc | apply gdrewN | (refine gtrans ?_ (by assumption)))))⟩
    · have e4 : p = R := by rw [hR]; omega
      have e5 : decide (p < 0) = false := by simp [c0]
      rw [e5] at hbi
      rw [e4] at d1 d2 c0 ⊢
      clear e1 e2 e3 e4 e5 hB hJ hZ hZ2 hm hR c h1 h2
      go_enter Try.func53, Try.ntmps53
      go_wp2_with (first | (go_at_call 82; refine (hbi _).mono ?_; rintro e w' ⟨rfl, g2⟩) | (go_at_call 75; refine (hful _).mono ?_; rintro e w' ⟨rfl, rfl⟩) | (go_at_call 77; refine (rleast_D _).mono ?_; rintro e w' ⟨rfl, rfl⟩) | (go_at_call 76; refine (rtop_D _).mono ?_; rintro e w' ⟨rfl, rfl⟩))
      exact bodyPost_ret (v := .tuple #[.int .u64 Z, .bool true]) (by simp [results, Try.results53, go_sem] <;> simp only [*]) rfl ⟨rfl, (by repeat (with_reducible (first | assumption | exact Grown.refl _ | apply Grown.drew | apply Grown.alloc | apply gdrewN | (refine gtrans ?_ (by assumption)))))⟩

end Fq
end Go.Proofs.Ytnjbheammpdjfaa
