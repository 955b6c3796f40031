import Derived.Test.YtbdeppdjelcioaaDoorProg
import Derived.Test.YtbdeppdjelcioaaDoorM
import Derived.Test.YtbdeppdjelcioaaDoorA
import Derived.WalkKit
import Derived.ProofKit
import Derived.RowKit3
import Derived.Deep.RegionHeld3
import Derived.WalkSpells
import Derived.StillTactics
import Derived.Laws.FloatArith
import Derived.Deep.QuietTactic
import Derived.BigQuiet
namespace Go.Proofs.YtbdeppdjelcioaaDoor
open Go.RowKit
set_option maxRecDepth 20000 in
set_option maxHeartbeats 400000 in
theorem rfull_D (w : World) : Calls Tryd.prog 56 #[.bool true] w fun e w' => e = .returned (.int .u64 4503599627370496) ∧ w' = w := by
  go_enter Tryd.func56, Tryd.ntmps56
  go_wp2
  exact bodyPost_ret (v := .int .u64 4503599627370496) (by simp [results, Tryd.results56, go_sem]) rfl ⟨rfl, rfl⟩

set_option maxRecDepth 20000 in
set_option maxHeartbeats 400000 in
theorem rleast_D (w : World) : Calls Tryd.prog 57 #[.bool true] w fun e w' => e = .returned (.int .i64 (-1074)) ∧ w' = w := by
  go_enter Tryd.func57, Tryd.ntmps57
  go_wp2
  exact bodyPost_ret (v := .int .i64 (-1074)) (by simp [results, Tryd.results57, go_sem]) rfl ⟨rfl, rfl⟩

set_option maxRecDepth 20000 in
set_option maxHeartbeats 400000 in
theorem rtop_D (w : World) : Calls Tryd.prog 58 #[.bool true] w fun e w' => e = .returned (.int .i64 971) ∧ w' = w := by
  go_enter Tryd.func58, Tryd.ntmps58
  go_wp2
  exact bodyPost_ret (v := .int .i64 971) (by simp [results, Tryd.results58, go_sem]) rfl ⟨rfl, rfl⟩

set_option maxRecDepth 20000 in
set_option maxHeartbeats 1000000 in
theorem rof_D (n : Bool) (m : Nat) (hm : m < 9223372036854775808) (w : World) : Calls Tryd.prog 71 #[.bool true, .int .u64 ((wD n m : Nat) : Int)] w fun e w' => e = .returned (.agg #[.int .i64 (kdD m), .bool n, .int .u64 ((sgD m : Nat) : Int), .int .i64 (epD m)]) ∧ Grown w w' := by
  obtain ⟨X, hX⟩ : ∃ X : Int, X = ((wD n m : Nat) : Int) := ⟨_, rfl⟩
  obtain ⟨B, hB⟩ : ∃ B : Int, B = 4503599627370496 := ⟨_, rfl⟩
  obtain ⟨H, hH⟩ : ∃ H : Int, H = 9223372036854775808 := ⟨_, rfl⟩
  obtain ⟨E, hE⟩ : ∃ E : Int, E = (m : Int) / 4503599627370496 := ⟨_, rfl⟩
  obtain ⟨Q, hQ⟩ : ∃ Q : Int, Q = (m : Int) % 4503599627370496 := ⟨_, rfl⟩
  obtain ⟨R, hR⟩ : ∃ R : Int, R = (m : Int) := ⟨_, rfl⟩
  have hful : ∀ w : World, Calls Tryd.prog 56 #[.bool true] w fun e w' => e = .returned (.int .u64 B) ∧ w' = w := by rw [hB]; exact rfull_D
  rw [← hX]
  have f1 : IntKind.u64.wrap (B * 2048) = H := by rw [hB, hH]; decide +kernel
  have f4 : IntKind.u64.wrap (R.tdiv B) = E := by
    rw [hR, hB, hE, Int.tdiv_eq_ediv_of_nonneg (by omega), wrapU (by omega) (by omega)]
  have f5 : wrap64 E = E := by unfold wrap64; omega
  have f6 : R.tmod B = Q := by rw [hR, hB, hQ, Int.tmod_eq_emod_of_nonneg (by omega)]
  have f7 : ¬ B = 0 := by omega
  rcases (by omega : m < 4503599627370496 ∨ (4503599627370496 ≤ m ∧ m < 9218868437227405312) ∨ m = 9218868437227405312 ∨ 9218868437227405312 < m) with c | c | c | c
  · have f8 : (E == 2047) = false := by simp; omega
    have f9 : ¬ (0 < E) := by omega
    have e1 : kdD m = 0 := by unfold kdD kdG; (repeat' split) <;> omega
    have e2 : ((sgD m : Nat) : Int) = Q := by unfold sgD sgG; (repeat' split) <;> omega
    have e3 : epD m = (-1074) := by unfold epD epG; (repeat' split) <;> omega
    rw [e1, e2, e3]
    clear e1 e2 e3
    cases n
    · have f2 : ¬ (H ≤ X) := by rw [hX, hH]; unfold wD; simp; omega
      have f3 : X = R := by rw [hX, hR]; rfl
      subst f3
      clear hX hB hH hE hQ hR hm c
      go_enter Tryd.func71, Tryd.ntmps71
      go_wp2_with (first | (go_at_call 56; refine (hful _).mono ?_; rintro e w' ⟨rfl, rfl⟩) | (go_at_call 57; refine (rleast_D _).mono ?_; rintro e w' ⟨rfl, rfl⟩) | (go_at_call 58; refine (rtop_D _).mono ?_; rintro e w' ⟨rfl, rfl⟩))
      exact bodyPost_ret (v := .agg #[.int .i64 0, .bool false, .int .u64 Q, .int .i64 (-1074)]) (by simp [results, Tryd.results71, go_sem] <;> simp only [*]) rfl ⟨rfl, (by repeat (with_reducible (first | assumption | exact Grown.refl _ | apply Grown.drew | apply Grown.alloc | apply gdrewN | (refine gtrans ?_ (by assumption)))))⟩
    · have f2 : H ≤ X := by rw [hX, hH]; unfold wD; simp; omega
      have f3 : IntKind.u64.wrap (X - H) = R := by rw [hX, hH, hR, wrapU (by unfold wD; simp; omega) (by unfold wD; simp; omega)]; unfold wD; simp; omega
      clear hX hB hH hE hQ hR hm c
      go_enter Tryd.func71, Tryd.ntmps71
      go_wp2_with (first | (go_at_call 56; refine (hful _).mono ?_; rintro e w' ⟨rfl, rfl⟩) | (go_at_call 57; refine (rleast_D _).mono ?_; rintro e w' ⟨rfl, rfl⟩) | (go_at_call 58; refine (rtop_D _).mono ?_; rintro e w' ⟨rfl, rfl⟩))
      exact bodyPost_ret (v := .agg #[.int .i64 0, .bool true, .int .u64 Q, .int .i64 (-1074)]) (by simp [results, Tryd.results71, go_sem] <;> simp only [*]) rfl ⟨rfl, (by repeat (with_reducible (first | assumption | exact Grown.refl _ | apply Grown.drew | apply Grown.alloc | apply gdrewN | (refine gtrans ?_ (by assumption)))))⟩
  · have f8 : (E == 2047) = false := by simp; omega
    have f9 : 0 < E := by omega
    have f10 : IntKind.u64.wrap (Q + B) = Q + B := wrapU (by omega) (by omega)
    have f11 : wrap64 (wrap64 (-1074 + E) - 1) = -1074 + E - 1 := by unfold wrap64; omega
    have e1 : kdD m = 0 := by unfold kdD kdG; (repeat' split) <;> omega
    have e2 : ((sgD m : Nat) : Int) = (Q + B) := by unfold sgD sgG; (repeat' split) <;> omega
    have e3 : epD m = (-1074 + E - 1) := by unfold epD epG; (repeat' split) <;> omega
    rw [e1, e2, e3]
    clear e1 e2 e3
    cases n
    · have f2 : ¬ (H ≤ X) := by rw [hX, hH]; unfold wD; simp; omega
      have f3 : X = R := by rw [hX, hR]; rfl
      subst f3
      clear hX hB hH hE hQ hR hm c
      go_enter Tryd.func71, Tryd.ntmps71
      go_wp2_with (first | (go_at_call 56; refine (hful _).mono ?_; rintro e w' ⟨rfl, rfl⟩) | (go_at_call 57; refine (rleast_D _).mono ?_; rintro e w' ⟨rfl, rfl⟩) | (go_at_call 58; refine (rtop_D _).mono ?_; rintro e w' ⟨rfl, rfl⟩))
      exact bodyPost_ret (v := .agg #[.int .i64 0, .bool false, .int .u64 (Q + B), .int .i64 (-1074 + E - 1)]) (by simp [results, Tryd.results71, go_sem] <;> simp only [*]) rfl ⟨rfl, (by repeat (with_reducible (first | assumption | exact Grown.refl _ | apply Grown.drew | apply Grown.alloc | apply gdrewN | (refine gtrans ?_ (by assumption)))))⟩
    · have f2 : H ≤ X := by rw [hX, hH]; unfold wD; simp; omega
      have f3 : IntKind.u64.wrap (X - H) = R := by rw [hX, hH, hR, wrapU (by unfold wD; simp; omega) (by unfold wD; simp; omega)]; unfold wD; simp; omega
      clear hX hB hH hE hQ hR hm c
      go_enter Tryd.func71, Tryd.ntmps71
      go_wp2_with (first | (go_at_call 56; refine (hful _).mono ?_; rintro e w' ⟨rfl, rfl⟩) | (go_at_call 57; refine (rleast_D _).mono ?_; rintro e w' ⟨rfl, rfl⟩) | (go_at_call 58; refine (rtop_D _).mono ?_; rintro e w' ⟨rfl, rfl⟩))
      exact bodyPost_ret (v := .agg #[.int .i64 0, .bool true, .int .u64 (Q + B), .int .i64 (-1074 + E - 1)]) (by simp [results, Tryd.results71, go_sem] <;> simp only [*]) rfl ⟨rfl, (by repeat (with_reducible (first | assumption | exact Grown.refl _ | apply Grown.drew | apply Grown.alloc | apply gdrewN | (refine gtrans ?_ (by assumption)))))⟩
  · have f8 : (E == 2047) = true := by simp; omega
    have f9 : (Q != 0) = false := by simp; omega
    have e1 : kdD m = 1 := by unfold kdD kdG; (repeat' split) <;> omega
    have e2 : ((sgD m : Nat) : Int) = Q := by unfold sgD sgG; (repeat' split) <;> omega
    have e3 : epD m = (-1074) := by unfold epD epG; (repeat' split) <;> omega
    rw [e1, e2, e3]
    clear e1 e2 e3
    cases n
    · have f2 : ¬ (H ≤ X) := by rw [hX, hH]; unfold wD; simp; omega
      have f3 : X = R := by rw [hX, hR]; rfl
      subst f3
      clear hX hB hH hE hQ hR hm c
      go_enter Tryd.func71, Tryd.ntmps71
      go_wp2_with (first | (go_at_call 56; refine (hful _).mono ?_; rintro e w' ⟨rfl, rfl⟩) | (go_at_call 57; refine (rleast_D _).mono ?_; rintro e w' ⟨rfl, rfl⟩) | (go_at_call 58; refine (rtop_D _).mono ?_; rintro e w' ⟨rfl, rfl⟩))
      exact bodyPost_ret (v := .agg #[.int .i64 1, .bool false, .int .u64 Q, .int .i64 (-1074)]) (by simp [results, Tryd.results71, go_sem] <;> simp only [*]) rfl ⟨rfl, (by repeat (with_reducible (first | assumption | exact Grown.refl _ | apply Grown.drew | apply Grown.alloc | apply gdrewN | (refine gtrans ?_ (by assumption)))))⟩
    · have f2 : H ≤ X := by rw [hX, hH]; unfold wD; simp; omega
      have f3 : IntKind.u64.wrap (X - H) = R := by rw [hX, hH, hR, wrapU (by unfold wD; simp; omega) (by unfold wD; simp; omega)]; unfold wD; simp; omega
      clear hX hB hH hE hQ hR hm c
      go_enter Tryd.func71, Tryd.ntmps71
      go_wp2_with (first | (go_at_call 56; refine (hful _).mono ?_; rintro e w' ⟨rfl, rfl⟩) | (go_at_call 57; refine (rleast_D _).mono ?_; rintro e w' ⟨rfl, rfl⟩) | (go_at_call 58; refine (rtop_D _).mono ?_; rintro e w' ⟨rfl, rfl⟩))
      exact bodyPost_ret (v := .agg #[.int .i64 1, .bool true, .int .u64 Q, .int .i64 (-1074)]) (by simp [results, Tryd.results71, go_sem] <;> simp only [*]) rfl ⟨rfl, (by repeat (with_reducible (first | assumption | exact Grown.refl _ | apply Grown.drew | apply Grown.alloc | apply gdrewN | (refine gtrans ?_ (by assumption)))))⟩
  · have f8 : (E == 2047) = true := by simp; omega
    have f9 : (Q != 0) = true := by simp; omega
    have e1 : kdD m = 2 := by unfold kdD kdG; (repeat' split) <;> omega
    have e2 : ((sgD m : Nat) : Int) = Q := by unfold sgD sgG; (repeat' split) <;> omega
    have e3 : epD m = (-1074) := by unfold epD epG; (repeat' split) <;> omega
    rw [e1, e2, e3]
    clear e1 e2 e3
    cases n
    · have f2 : ¬ (H ≤ X) := by rw [hX, hH]; unfold wD; simp; omega
      have f3 : X = R := by rw [hX, hR]; rfl
      subst f3
      clear hX hB hH hE hQ hR hm c
      go_enter Tryd.func71, Tryd.ntmps71
      go_wp2_with (first | (go_at_call 56; refine (hful _).mono ?_; rintro e w' ⟨rfl, rfl⟩) | (go_at_call 57; refine (rleast_D _).mono ?_; rintro e w' ⟨rfl, rfl⟩) | (go_at_call 58; refine (rtop_D _).mono ?_; rintro e w' ⟨rfl, rfl⟩))
      exact bodyPost_ret (v := .agg #[.int .i64 2, .bool false, .int .u64 Q, .int .i64 (-1074)]) (by simp [results, Tryd.results71, go_sem] <;> simp only [*]) rfl ⟨rfl, (by repeat (with_reducible (first | assumption | exact Grown.refl _ | apply Grown.drew | apply Grown.alloc | apply gdrewN | (refine gtrans ?_ (by assumption)))))⟩
    · have f2 : H ≤ X := by rw [hX, hH]; unfold wD; simp; omega
      have f3 : IntKind.u64.wrap (X - H) = R := by rw [hX, hH, hR, wrapU (by unfold wD; simp; omega) (by unfold wD; simp; omega)]; unfold wD; simp; omega
      clear hX hB hH hE hQ hR hm c
      go_enter Tryd.func71, Tryd.ntmps71
      go_wp2_with (first | (go_at_call 56; refine (hful _).mono ?_; rintro e w' ⟨rfl, rfl⟩) | (go_at_call 57; refine (rleast_D _).mono ?_; rintro e w' ⟨rfl, rfl⟩) | (go_at_call 58; refine (rtop_D _).mono ?_; rintro e w' ⟨rfl, rfl⟩))
      exact bodyPost_ret (v := .agg #[.int .i64 2, .bool true, .int .u64 Q, .int .i64 (-1074)]) (by simp [results, Tryd.results71, go_sem] <;> simp only [*]) rfl ⟨rfl, (by repeat (with_reducible (first | assumption | exact Grown.refl _ | apply Grown.drew | apply Grown.alloc | apply gdrewN | (refine gtrans ?_ (by assumption)))))⟩

end Go.Proofs.YtbdeppdjelcioaaDoor
