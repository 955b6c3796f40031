import Derived.Test.YtbdeppdjelcioaaDoorProg
import Derived.Test.YtbdeppdjelcioaaDoorM
import Derived.Test.YtbdeppdjelcioaaDoorA
import Derived.WalkKit
import Derived.ProofKit
import Derived.RowKit3
import Derived.Deep.RegionHeld3
import Derived.WalkSpells
import Derived.StillTactics
import Derived.Laws.FloatArith
import Derived.Deep.QuietTactic
import Derived.BigQuiet
namespace Go.Proofs.YtbdeppdjelcioaaDoor
open Go.RowKit
set_option maxRecDepth 20000 in
set_option maxHeartbeats 1000000 in
theorem class_s (n : Bool) (m : Nat) (hm : m < 2147483648) (w : World) : Calls Tryd.prog 10 #[.float .f32 (wS n m)] w fun e w' => e = .returned (.int .i64 (clsS n m)) ∧ Grown w w' := by
  have hpat := patt_s n m hm
  obtain ⟨I, hI⟩ : ∃ I : Int, I = 2139095040 := ⟨_, rfl⟩
  have hinf : ∀ w : World, Calls Tryd.prog 42 #[.agg #[.int .i64 24, .int .i64 (-149), .int .i64 104]] w fun e w' => e = .returned (.int .i64 I) ∧ w' = ((w.alloc (.cells #[.int .i64 24, .int .i64 (-149), .int .i64 104] 68)).alloc (.cells #[.int .i64 24, .int .i64 (-149), .int .i64 104] 68)).drew := by rw [hI]; exact infi_S
  obtain ⟨B, hB⟩ : ∃ B : Int, B = 8388608 := ⟨_, rfl⟩
  have hful : ∀ w : World, Calls Tryd.prog 43 #[.agg #[.int .i64 24, .int .i64 (-149), .int .i64 104]] w fun e w' => e = .returned (.int .i64 B) ∧ w' = w.alloc (.cells #[.int .i64 24, .int .i64 (-149), .int .i64 104] 68) := by rw [hB]; exact full_S
  rcases (by omega : 2139095040 < m ∨ m = 2139095040 ∨ (8388608 ≤ m ∧ m < 2139095040) ∨ (0 < m ∧ m < 8388608) ∨ m = 0) with c | c | c | c | c
  · skip
    have d1 : I < (m : Int) := by first | omega | (simp; omega)
    clear hI hB hm
    cases n
    · have ec : clsS false m = 0 := by simp [clsS, clsG]; omega
      rw [ec]
      clear ec c
      go_enter Tryd.func10, Tryd.ntmps10
      go_wp2_with (first | (go_at_call 44; refine (lay_s _).mono ?_; rintro e w' ⟨rfl, rfl⟩) | (go_at_call 45; refine (hpat _).mono ?_; rintro e w' ⟨rfl, rfl⟩) | (go_at_call 42; refine (hinf _).mono ?_; rintro e w' ⟨rfl, rfl⟩) | (go_at_call 43; refine (hful _).mono ?_; rintro e w' ⟨rfl, rfl⟩))
      exact bodyPost_ret (v := .int .i64 0) (by simp [results, Tryd.results10, go_sem] <;> simp only [*]) rfl ⟨rfl, (by repeat (with_reducible (first | assumption | exact Grown.refl _ | apply Grown.drew | apply Grown.alloc | apply gdrewN | (refine gtrans ?_ (by assumption)))))⟩
    · have ec : clsS true m = 0 := by simp [clsS, clsG]; omega
      rw [ec]
      clear ec c
      go_enter Tryd.func10, Tryd.ntmps10
      go_wp2_with (first | (go_at_call 44; refine (lay_s _).mono ?_; rintro e w' ⟨rfl, rfl⟩) | (go_at_call 45; refine (hpat _).mono ?_; rintro e w' ⟨rfl, rfl⟩) | (go_at_call 42; refine (hinf _).mono ?_; rintro e w' ⟨rfl, rfl⟩) | (go_at_call 43; refine (hful _).mono ?_; rintro e w' ⟨rfl, rfl⟩))
      exact bodyPost_ret (v := .int .i64 0) (by simp [results, Tryd.results10, go_sem] <;> simp only [*]) rfl ⟨rfl, (by repeat (with_reducible (first | assumption | exact Grown.refl _ | apply Grown.drew | apply Grown.alloc | apply gdrewN | (refine gtrans ?_ (by assumption)))))⟩
  · skip
    have d1 : ¬ (I < (m : Int)) := by first | omega | (simp; omega)
    have d2 : ((m : Int) == I) = true := by first | omega | (simp; omega)
    clear hI hB hm
    cases n
    · have ec : clsS false m = 8 := by simp [clsS, clsG]; omega
      rw [ec]
      clear ec c
      go_enter Tryd.func10, Tryd.ntmps10
      go_wp2_with (first | (go_at_call 44; refine (lay_s _).mono ?_; rintro e w' ⟨rfl, rfl⟩) | (go_at_call 45; refine (hpat _).mono ?_; rintro e w' ⟨rfl, rfl⟩) | (go_at_call 42; refine (hinf _).mono ?_; rintro e w' ⟨rfl, rfl⟩) | (go_at_call 43; refine (hful _).mono ?_; rintro e w' ⟨rfl, rfl⟩))
      exact bodyPost_ret (v := .int .i64 8) (by simp [results, Tryd.results10, go_sem] <;> simp only [*]) rfl ⟨rfl, (by repeat (with_reducible (first | assumption | exact Grown.refl _ | apply Grown.drew | apply Grown.alloc | apply gdrewN | (refine gtrans ?_ (by assumption)))))⟩
    · have ec : clsS true m = 1 := by simp [clsS, clsG]; omega
      rw [ec]
      clear ec c
      go_enter Tryd.func10, Tryd.ntmps10
      go_wp2_with (first | (go_at_call 44; refine (lay_s _).mono ?_; rintro e w' ⟨rfl, rfl⟩) | (go_at_call 45; refine (hpat _).mono ?_; rintro e w' ⟨rfl, rfl⟩) | (go_at_call 42; refine (hinf _).mono ?_; rintro e w' ⟨rfl, rfl⟩) | (go_at_call 43; refine (hful _).mono ?_; rintro e w' ⟨rfl, rfl⟩))
      exact bodyPost_ret (v := .int .i64 1) (by simp [results, Tryd.results10, go_sem] <;> simp only [*]) rfl ⟨rfl, (by repeat (with_reducible (first | assumption | exact Grown.refl _ | apply Grown.drew | apply Grown.alloc | apply gdrewN | (refine gtrans ?_ (by assumption)))))⟩
  · skip
    have d1 : ¬ (I < (m : Int)) := by first | omega | (simp; omega)
    have d2 : ((m : Int) == I) = false := by first | omega | (simp; omega)
    have d3 : B ≤ (m : Int) := by first | omega | (simp; omega)
    clear hI hB hm
    cases n
    · have ec : clsS false m = 7 := by simp [clsS, clsG]; omega
      rw [ec]
      clear ec c
      go_enter Tryd.func10, Tryd.ntmps10
      go_wp2_with (first | (go_at_call 44; refine (lay_s _).mono ?_; rintro e w' ⟨rfl, rfl⟩) | (go_at_call 45; refine (hpat _).mono ?_; rintro e w' ⟨rfl, rfl⟩) | (go_at_call 42; refine (hinf _).mono ?_; rintro e w' ⟨rfl, rfl⟩) | (go_at_call 43; refine (hful _).mono ?_; rintro e w' ⟨rfl, rfl⟩))
      exact bodyPost_ret (v := .int .i64 7) (by simp [results, Tryd.results10, go_sem] <;> simp only [*]) rfl ⟨rfl, (by repeat (with_reducible (first | assumption | exact Grown.refl _ | apply Grown.drew | apply Grown.alloc | apply gdrewN | (refine gtrans ?_ (by assumption)))))⟩
    · have ec : clsS true m = 2 := by simp [clsS, clsG]; omega
      rw [ec]
      clear ec c
      go_enter Tryd.func10, Tryd.ntmps10
      go_wp2_with (first | (go_at_call 44; refine (lay_s _).mono ?_; rintro e w' ⟨rfl, rfl⟩) | (go_at_call 45; refine (hpat _).mono ?_; rintro e w' ⟨rfl, rfl⟩) | (go_at_call 42; refine (hinf _).mono ?_; rintro e w' ⟨rfl, rfl⟩) | (go_at_call 43; refine (hful _).mono ?_; rintro e w' ⟨rfl, rfl⟩))
      exact bodyPost_ret (v := .int .i64 2) (by simp [results, Tryd.results10, go_sem] <;> simp only [*]) rfl ⟨rfl, (by repeat (with_reducible (first | assumption | exact Grown.refl _ | apply Grown.drew | apply Grown.alloc | apply gdrewN | (refine gtrans ?_ (by assumption)))))⟩
  · skip
    have d1 : ¬ (I < (m : Int)) := by first | omega | (simp; omega)
    have d2 : ((m : Int) == I) = false := by first | omega | (simp; omega)
    have d3 : ¬ (B ≤ (m : Int)) := by first | omega | (simp; omega)
    have d4 : 0 < (m : Int) := by first | omega | (simp; omega)
    clear hI hB hm
    cases n
    · have ec : clsS false m = 6 := by simp [clsS, clsG]; omega
      rw [ec]
      clear ec c
      go_enter Tryd.func10, Tryd.ntmps10
      go_wp2_with (first | (go_at_call 44; refine (lay_s _).mono ?_; rintro e w' ⟨rfl, rfl⟩) | (go_at_call 45; refine (hpat _).mono ?_; rintro e w' ⟨rfl, rfl⟩) | (go_at_call 42; refine (hinf _).mono ?_; rintro e w' ⟨rfl, rfl⟩) | (go_at_call 43; refine (hful _).mono ?_; rintro e w' ⟨rfl, rfl⟩))
      exact bodyPost_ret (v := .int .i64 6) (by simp [results, Tryd.results10, go_sem] <;> simp only [*]) rfl ⟨rfl, (by repeat (with_reducible (first | assumption | exact Grown.refl _ | apply Grown.drew | apply Grown.alloc | apply gdrewN | (refine gtrans ?_ (by assumption)))))⟩
    · have ec : clsS true m = 3 := by simp [clsS, clsG]; omega
      rw [ec]
      clear ec c
      go_enter Tryd.func10, Tryd.ntmps10
      go_wp2_with (first | (go_at_call 44; refine (lay_s _).mono ?_; rintro e w' ⟨rfl, rfl⟩) | (go_at_call 45; refine (hpat _).mono ?_; rintro e w' ⟨rfl, rfl⟩) | (go_at_call 42; refine (hinf _).mono ?_; rintro e w' ⟨rfl, rfl⟩) | (go_at_call 43; refine (hful _).mono ?_; rintro e w' ⟨rfl, rfl⟩))
      exact bodyPost_ret (v := .int .i64 3) (by simp [results, Tryd.results10, go_sem] <;> simp only [*]) rfl ⟨rfl, (by repeat (with_reducible (first | assumption | exact Grown.refl _ | apply Grown.drew | apply Grown.alloc | apply gdrewN | (refine gtrans ?_ (by assumption)))))⟩
  · skip
    have d1 : ¬ (I < (m : Int)) := by first | omega | (simp; omega)
    have d2 : ((m : Int) == I) = false := by first | omega | (simp; omega)
    have d3 : ¬ (B ≤ (m : Int)) := by first | omega | (simp; omega)
    have d4 : ¬ (0 < (m : Int)) := by first | omega | (simp; omega)
    clear hI hB hm
    cases n
    · have ec : clsS false m = 5 := by simp [clsS, clsG]; omega
      rw [ec]
      clear ec c
      go_enter Tryd.func10, Tryd.ntmps10
      go_wp2_with (first | (go_at_call 44; refine (lay_s _).mono ?_; rintro e w' ⟨rfl, rfl⟩) | (go_at_call 45; refine (hpat _).mono ?_; rintro e w' ⟨rfl, rfl⟩) | (go_at_call 42; refine (hinf _).mono ?_; rintro e w' ⟨rfl, rfl⟩) | (go_at_call 43; refine (hful _).mono ?_; rintro e w' ⟨rfl, rfl⟩))
      exact bodyPost_ret (v := .int .i64 5) (by simp [results, Tryd.results10, go_sem] <;> simp only [*]) rfl ⟨rfl, (by repeat (with_reducible (first | assumption | exact Grown.refl _ | apply Grown.drew | apply Grown.alloc | apply gdrewN | (refine gtrans ?_ (by assumption)))))⟩
    · have ec : clsS true m = 4 := by simp [clsS, clsG]; omega
      rw [ec]
      clear ec c
      go_enter Tryd.func10, Tryd.ntmps10
      go_wp2_with (first | (go_at_call 44; refine (lay_s _).mono ?_; rintro e w' ⟨rfl, rfl⟩) | (go_at_call 45; refine (hpat _).mono ?_; rintro e w' ⟨rfl, rfl⟩) | (go_at_call 42; refine (hinf _).mono ?_; rintro e w' ⟨rfl, rfl⟩) | (go_at_call 43; refine (hful _).mono ?_; rintro e w' ⟨rfl, rfl⟩))
      exact bodyPost_ret (v := .int .i64 4) (by simp [results, Tryd.results10, go_sem] <;> simp only [*]) rfl ⟨rfl, (by repeat (with_reducible (first | assumption | exact Grown.refl _ | apply Grown.drew | apply Grown.alloc | apply gdrewN | (refine gtrans ?_ (by assumption)))))⟩

end Go.Proofs.YtbdeppdjelcioaaDoor
