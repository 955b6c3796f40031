import Derived.Test.YtbdeppdjelcioaaDoorProg
import Derived.Test.YtbdeppdjelcioaaDoorM
import Derived.Test.YtbdeppdjelcioaaDoorA
import Derived.WalkKit
import Derived.ProofKit
import Derived.RowKit3
import Derived.Deep.RegionHeld3
import Derived.WalkSpells
import Derived.StillTactics
import Derived.Laws.FloatArith
import Derived.Deep.QuietTactic
import Derived.BigQuiet
namespace Go.Proofs.YtbdeppdjelcioaaDoor
open Go.RowKit
set_option maxRecDepth 20000 in
set_option maxHeartbeats 400000 in
theorem isnan_int (x : Int) (w : World) : Calls Tryd.prog 72 #[.int .i64 x] w fun e w' => e = .returned (.bool false) ∧ w' = w := by
  go_enter Tryd.func72, Tryd.ntmps72
  go_wp2
  exact bodyPost_ret (v := .bool false) (by simp [results, Tryd.results72, go_sem] <;> simp only [*]) rfl ⟨rfl, rfl⟩

set_option maxRecDepth 20000 in
set_option maxHeartbeats 400000 in
theorem compare_int (x y : Int) (w : World) : Calls Tryd.prog 47 #[.int .i64 x, .int .i64 y] w fun e w' => e = .returned (.int .i64 (cmpz x y)) ∧ w' = w := by
  rcases (by omega : x < y ∨ y < x ∨ x = y) with c | c | c
  · have ec : cmpz x y = -1 := by unfold cmpz; simp [c]
    rw [ec]; clear ec
    go_enter Tryd.func47, Tryd.ntmps47
    go_wp2_with (first | (go_at_call 72; refine (isnan_int _ _).mono ?_; rintro e w' ⟨rfl, rfl⟩))
    exact bodyPost_ret (v := .int .i64 (-1)) (by simp [results, Tryd.results47, go_sem] <;> simp only [*]) rfl ⟨rfl, rfl⟩
  · have d : ¬ (x < y) := by omega
    have ec : cmpz x y = 1 := by unfold cmpz; simp [c, d]
    rw [ec]; clear ec
    go_enter Tryd.func47, Tryd.ntmps47
    go_wp2_with (first | (go_at_call 72; refine (isnan_int _ _).mono ?_; rintro e w' ⟨rfl, rfl⟩))
    exact bodyPost_ret (v := .int .i64 1) (by simp [results, Tryd.results47, go_sem] <;> simp only [*]) rfl ⟨rfl, rfl⟩
  · subst c
    have d : ¬ (x < x) := by omega
    have ec : cmpz x x = 0 := by unfold cmpz; simp
    rw [ec]; clear ec
    go_enter Tryd.func47, Tryd.ntmps47
    go_wp2_with (first | (go_at_call 72; refine (isnan_int _ _).mono ?_; rintro e w' ⟨rfl, rfl⟩))
    exact bodyPost_ret (v := .int .i64 0) (by simp [results, Tryd.results47, go_sem] <;> simp only [*]) rfl ⟨rfl, rfl⟩

set_option maxRecDepth 20000 in
set_option maxHeartbeats 1000000 in
theorem place_d (n : Bool) (m : Nat) (hm : m ≤ 9218868437227405312) (w : World) : Calls Tryd.prog 15 #[.float .f64 (wD n m)] w fun e w' => e = .returned (.tuple #[.int .i64 (plz n m), .bool true]) ∧ Grown w w' := by
  have hpat := patt_d n m (by omega)
  obtain ⟨I, hI⟩ : ∃ I : Int, I = 9218868437227405312 := ⟨_, rfl⟩
  have hinf : ∀ w : World, Calls Tryd.prog 42 #[.agg #[.int .i64 53, .int .i64 (-1074), .int .i64 971]] w fun e w' => e = .returned (.int .i64 I) ∧ w' = ((w.alloc (.cells #[.int .i64 53, .int .i64 (-1074), .int .i64 971] 68)).alloc (.cells #[.int .i64 53, .int .i64 (-1074), .int .i64 971] 68)).drew := by rw [hI]; exact infi_D
  have d1 : ¬ (I < (m : Int)) := by omega
  have d2 : wrap64 (-(m : Int)) = -(m : Int) := by unfold wrap64; omega
  clear hI hm
  cases n
  · have ec : plz false m = (m : Int) := rfl
    rw [ec]
    clear ec d2
    go_enter Tryd.func15, Tryd.ntmps15
    go_wp2_with (first | (go_at_call 40; refine (lay_d _).mono ?_; rintro e w' ⟨rfl, rfl⟩) | (go_at_call 41; refine (hpat _).mono ?_; rintro e w' ⟨rfl, rfl⟩) | (go_at_call 42; refine (hinf _).mono ?_; rintro e w' ⟨rfl, rfl⟩))
    exact bodyPost_ret (v := .tuple #[.int .i64 (m : Int), .bool true]) (by simp [results, Tryd.results15, go_sem] <;> simp only [*]) rfl ⟨rfl, (by repeat (with_reducible (first | assumption | exact Grown.refl _ | apply Grown.drew | apply Grown.alloc | apply gdrewN | (refine gtrans ?_ (by assumption)))))⟩
  · have ec : plz true m = -(m : Int) := rfl
    rw [ec]
    clear ec
    go_enter Tryd.func15, Tryd.ntmps15
    go_wp2_with (first | (go_at_call 40; refine (lay_d _).mono ?_; rintro e w' ⟨rfl, rfl⟩) | (go_at_call 41; refine (hpat _).mono ?_; rintro e w' ⟨rfl, rfl⟩) | (go_at_call 42; refine (hinf _).mono ?_; rintro e w' ⟨rfl, rfl⟩))
    exact bodyPost_ret (v := .tuple #[.int .i64 (-(m : Int)), .bool true]) (by simp [results, Tryd.results15, go_sem] <;> simp only [*]) rfl ⟨rfl, (by repeat (with_reducible (first | assumption | exact Grown.refl _ | apply Grown.drew | apply Grown.alloc | apply gdrewN | (refine gtrans ?_ (by assumption)))))⟩

set_option maxRecDepth 20000 in
set_option maxHeartbeats 1000000 in
theorem placen_d (n : Bool) (m : Nat) (hm : 9218868437227405312 < m) (h2 : m < 9223372036854775808) (w : World) : Calls Tryd.prog 15 #[.float .f64 (wD n m)] w fun e w' => e = .returned (.tuple #[.int .i64 0, .bool false]) ∧ Grown w w' := by
  have hpat := patt_d n m h2
  obtain ⟨I, hI⟩ : ∃ I : Int, I = 9218868437227405312 := ⟨_, rfl⟩
  have hinf : ∀ w : World, Calls Tryd.prog 42 #[.agg #[.int .i64 53, .int .i64 (-1074), .int .i64 971]] w fun e w' => e = .returned (.int .i64 I) ∧ w' = ((w.alloc (.cells #[.int .i64 53, .int .i64 (-1074), .int .i64 971] 68)).alloc (.cells #[.int .i64 53, .int .i64 (-1074), .int .i64 971] 68)).drew := by rw [hI]; exact infi_D
  have d1 : I < (m : Int) := by omega
  clear hI hm h2
  go_enter Tryd.func15, Tryd.ntmps15
  go_wp2_with (first | (go_at_call 40; refine (lay_d _).mono ?_; rintro e w' ⟨rfl, rfl⟩) | (go_at_call 41; refine (hpat _).mono ?_; rintro e w' ⟨rfl, rfl⟩) | (go_at_call 42; refine (hinf _).mono ?_; rintro e w' ⟨rfl, rfl⟩))
  exact bodyPost_ret (v := .tuple #[.int .i64 0, .bool false]) (by simp [results, Tryd.results15, go_sem] <;> simp only [*]) rfl ⟨rfl, (by repeat (with_reducible (first | assumption | exact Grown.refl _ | apply Grown.drew | apply Grown.alloc | apply gdrewN | (refine gtrans ?_ (by assumption)))))⟩

set_option maxRecDepth 20000 in
set_option maxHeartbeats 1000000 in
theorem at_d (p : Int) (h1 : -9218868437227405312 ≤ p) (h2 : p ≤ 9218868437227405312) (w : World) : Calls Tryd.prog 16 #[.int .i64 p] w fun e w' => e = .returned (.tuple #[.float .f64 (fD p), .bool true]) ∧ Grown w w' := by
  obtain ⟨I, hI⟩ : ∃ I : Int, I = 9218868437227405312 := ⟨_, rfl⟩
  have hinf : ∀ w : World, Calls Tryd.prog 42 #[.agg #[.int .i64 53, .int .i64 (-1074), .int .i64 971]] w fun e w' => e = .returned (.int .i64 I) ∧ w' = ((w.alloc (.cells #[.int .i64 53, .int .i64 (-1074), .int .i64 971] 68)).alloc (.cells #[.int .i64 53, .int .i64 (-1074), .int .i64 971] 68)).drew := by rw [hI]; exact infi_D
  have d1 : ¬ (p < -I) := by omega
  have d2 : ¬ (I < p) := by omega
  have d0 : wrap64 (-I) = -I := by unfold wrap64; omega
  by_cases c : p < 0
  · have ef : fD p = wD true p.natAbs := by unfold fD; simp [c]
    rw [ef]
    have e2 : wrap64 (-p) = ((p.natAbs : Nat) : Int) := by unfold wrap64; omega
    have hfr := from_d p.natAbs (by omega)
    obtain ⟨a, ha⟩ : ∃ a : Nat, a = p.natAbs := ⟨_, rfl⟩
    rw [← ha] at e2 hfr ⊢
    have hng : Op.unary .neg (.float .f64 (wD false a)) = pure (.float .f64 (wD true a)) := by
      show pure (Value.float .f64 (Op.negFloat .f64 (wD false a))) = _
      rw [negD false a (by omega)]; rfl
    clear hI h1 h2 ef ha
    go_enter Tryd.func16, Tryd.ntmps16
    go_wp2_with (first | (go_at_call 40; refine (lay_d _).mono ?_; rintro e w' ⟨rfl, rfl⟩) | (go_at_call 49; refine (hfr _).mono ?_; rintro e w' ⟨rfl, rfl⟩) | (go_at_call 42; refine (hinf _).mono ?_; rintro e w' ⟨rfl, rfl⟩))
    exact bodyPost_ret (v := .tuple #[.float .f64 (wD true a), .bool true]) (by simp [results, Tryd.results16, go_sem] <;> simp only [*]) rfl ⟨rfl, (by repeat (with_reducible (first | assumption | exact Grown.refl _ | apply Grown.drew | apply Grown.alloc | apply gdrewN | (refine gtrans ?_ (by assumption)))))⟩
  · have ef : fD p = wD false p.natAbs := by unfold fD; simp [c]
    rw [ef]
    have e2 : p = ((p.natAbs : Nat) : Int) := by omega
    have hfr : ∀ w : World, Calls Tryd.prog 49 #[.int .i64 p] w fun e w' => e = .returned (.float .f64 (wD false p.natAbs)) ∧ w' = w := by
      have := from_d p.natAbs (by omega)
      rw [← e2] at this; exact this
    obtain ⟨a, ha⟩ : ∃ a : Nat, a = p.natAbs := ⟨_, rfl⟩
    rw [← ha] at hfr ⊢
    clear hI h1 h2 ef ha e2
    go_enter Tryd.func16, Tryd.ntmps16
    go_wp2_with (first | (go_at_call 40; refine (lay_d _).mono ?_; rintro e w' ⟨rfl, rfl⟩) | (go_at_call 49; refine (hfr _).mono ?_; rintro e w' ⟨rfl, rfl⟩) | (go_at_call 42; refine (hinf _).mono ?_; rintro e w' ⟨rfl, rfl⟩))
    exact bodyPost_ret (v := .tuple #[.float .f64 (wD false a), .bool true]) (by simp [results, Tryd.results16, go_sem] <;> simp only [*]) rfl ⟨rfl, (by repeat (with_reducible (first | assumption | exact Grown.refl _ | apply Grown.drew | apply Grown.alloc | apply gdrewN | (refine gtrans ?_ (by assumption)))))⟩

set_option maxRecDepth 20000 in
set_option maxHeartbeats 1000000 in
theorem atx_d (p : Int) (h : p < -9218868437227405312 ∨ 9218868437227405312 < p) (w : World) : Calls Tryd.prog 16 #[.int .i64 p] w fun e w' => e = .returned (.tuple #[.float .f64 (wD false 0), .bool false]) ∧ Grown w w' := by
  obtain ⟨I, hI⟩ : ∃ I : Int, I = 9218868437227405312 := ⟨_, rfl⟩
  have hinf : ∀ w : World, Calls Tryd.prog 42 #[.agg #[.int .i64 53, .int .i64 (-1074), .int .i64 971]] w fun e w' => e = .returned (.int .i64 I) ∧ w' = ((w.alloc (.cells #[.int .i64 53, .int .i64 (-1074), .int .i64 971] 68)).alloc (.cells #[.int .i64 53, .int .i64 (-1074), .int .i64 971] 68)).drew := by rw [hI]; exact infi_D
  have d0 : wrap64 (-I) = -I := by unfold wrap64; omega
  have ew : wD false 0 = 0 := rfl
  rw [ew]
  clear ew
  rcases h with h | h
  · have d1 : p < -I := by omega
    clear hI h
    go_enter Tryd.func16, Tryd.ntmps16
    go_wp2_with (first | (go_at_call 40; refine (lay_d _).mono ?_; rintro e w' ⟨rfl, rfl⟩) | (go_at_call 49; refine (hfr _).mono ?_; rintro e w' ⟨rfl, rfl⟩) | (go_at_call 42; refine (hinf _).mono ?_; rintro e w' ⟨rfl, rfl⟩))
    exact bodyPost_ret (v := .tuple #[.float .f64 0, .bool false]) (by simp [results, Tryd.results16, go_sem] <;> simp only [*]) rfl ⟨rfl, (by repeat (with_reducible (first | assumption | exact Grown.refl _ | apply Grown.drew | apply Grown.alloc | apply gdrewN | (refine gtrans ?_ (by assumption)))))⟩
  · have d1 : ¬ (p < -I) := by omega
    have d2 : I < p := by omega
    clear hI h
    go_enter Tryd.func16, Tryd.ntmps16
    go_wp2_with (first | (go_at_call 40; refine (lay_d _).mono ?_; rintro e w' ⟨rfl, rfl⟩) | (go_at_call 49; refine (hfr _).mono ?_; rintro e w' ⟨rfl, rfl⟩) | (go_at_call 42; refine (hinf _).mono ?_; rintro e w' ⟨rfl, rfl⟩))
    exact bodyPost_ret (v := .tuple #[.float .f64 0, .bool false]) (by simp [results, Tryd.results16, go_sem] <;> simp only [*]) rfl ⟨rfl, (by repeat (with_reducible (first | assumption | exact Grown.refl _ | apply Grown.drew | apply Grown.alloc | apply gdrewN | (refine gtrans ?_ (by assumption)))))⟩

set_option maxRecDepth 20000 in
set_option maxHeartbeats 1000000 in
theorem up_d (n : Bool) (m : Nat) (hm : m ≤ 9218868437227405312) (h2 : plz n m ≠ 9218868437227405312) (w : World) : Calls Tryd.prog 11 #[.float .f64 (wD n m)] w fun e w' => e = .returned (.float .f64 (fD (plz n m + 1))) ∧ Grown w w' := by
  have hpl := place_d n m hm
  obtain ⟨I, hI⟩ : ∃ I : Int, I = 9218868437227405312 := ⟨_, rfl⟩
  have hinf : ∀ w : World, Calls Tryd.prog 42 #[.agg #[.int .i64 53, .int .i64 (-1074), .int .i64 971]] w fun e w' => e = .returned (.int .i64 I) ∧ w' = ((w.alloc (.cells #[.int .i64 53, .int .i64 (-1074), .int .i64 971] 68)).alloc (.cells #[.int .i64 53, .int .i64 (-1074), .int .i64 971] 68)).drew := by rw [hI]; exact infi_D
  have hb := plz_bd n m
  obtain ⟨p, hp⟩ : ∃ p : Int, p = plz n m := ⟨_, rfl⟩
  rw [← hp] at hpl h2 hb ⊢
  have hat := at_d (p + 1) (by omega) (by omega)
  have d1 : (p == I) = false := by simp; omega
  have d2 : wrap64 (p + 1) = p + 1 := by unfold wrap64; omega
  have d3 : ¬ (p = I) := by omega
  clear hI hm h2 hb hp
  go_enter Tryd.func11, Tryd.ntmps11
  go_wp2_with (first | (go_at_call 40; refine (lay_d _).mono ?_; rintro e w' ⟨rfl, rfl⟩) | (go_at_call 42; refine (hinf _).mono ?_; rintro e w' ⟨rfl, rfl⟩) | (go_at_call 15; refine (hpl _).mono ?_; rintro e w' ⟨rfl, g1⟩) | (go_at_call 16; refine (hat _).mono ?_; rintro e w' ⟨rfl, g2⟩))
  exact bodyPost_ret (v := .float .f64 (fD (p + 1))) (by simp [results, Tryd.results11, go_sem] <;> simp only [*]) rfl ⟨rfl, (by repeat (with_reducible (first | assumption | exact Grown.refl _ | apply Grown.drew | apply Grown.alloc | apply gdrewN | (refine gtrans ?_ (by assumption)))))⟩

set_option maxRecDepth 20000 in
set_option maxHeartbeats 1000000 in
theorem upn_d (n : Bool) (m : Nat) (hm : 9218868437227405312 < m) (h2 : m < 9223372036854775808) (w : World) : Calls Tryd.prog 11 #[.float .f64 (wD n m)] w fun e w' => e = .returned (.float .f64 (wD n m)) ∧ Grown w w' := by
  have hpl := placen_d n m hm h2
  clear hm h2
  go_enter Tryd.func11, Tryd.ntmps11
  go_wp2_with (first | (go_at_call 15; refine (hpl _).mono ?_; rintro e w' ⟨rfl, g1⟩))
  exact bodyPost_ret (v := .float .f64 (wD n m)) (by simp [results, Tryd.results11, go_sem] <;> simp only [*]) rfl ⟨rfl, (by repeat (with_reducible (first | assumption | exact Grown.refl _ | apply Grown.drew | apply Grown.alloc | apply gdrewN | (refine gtrans ?_ (by assumption)))))⟩

set_option maxRecDepth 20000 in
set_option maxHeartbeats 1000000 in
theorem upe_d (w : World) : Calls Tryd.prog 11 #[.float .f64 (wD false 9218868437227405312)] w fun e w' => e = .returned (.float .f64 (wD false 9218868437227405312)) ∧ Grown w w' := by
  have hpl := place_d false 9218868437227405312 (by omega)
  obtain ⟨I, hI⟩ : ∃ I : Int, I = 9218868437227405312 := ⟨_, rfl⟩
  have hinf : ∀ w : World, Calls Tryd.prog 42 #[.agg #[.int .i64 53, .int .i64 (-1074), .int .i64 971]] w fun e w' => e = .returned (.int .i64 I) ∧ w' = ((w.alloc (.cells #[.int .i64 53, .int .i64 (-1074), .int .i64 971] 68)).alloc (.cells #[.int .i64 53, .int .i64 (-1074), .int .i64 971] 68)).drew := by rw [hI]; exact infi_D
  have ep : plz false 9218868437227405312 = I := by rw [hI]; rfl
  rw [ep] at hpl
  clear hI ep
  obtain ⟨M, hM⟩ : ∃ M : Nat, M = 9218868437227405312 := ⟨_, rfl⟩
  rw [← hM] at hpl ⊢
  clear hM
  go_enter Tryd.func11, Tryd.ntmps11
  go_wp2_with (first | (go_at_call 40; refine (lay_d _).mono ?_; rintro e w' ⟨rfl, rfl⟩) | (go_at_call 42; refine (hinf _).mono ?_; rintro e w' ⟨rfl, rfl⟩) | (go_at_call 15; refine (hpl _).mono ?_; rintro e w' ⟨rfl, g1⟩))
  exact bodyPost_ret (v := .float .f64 (wD false M)) (by simp [results, Tryd.results11, go_sem] <;> simp only [*]) rfl ⟨rfl, (by repeat (with_reducible (first | assumption | exact Grown.refl _ | apply Grown.drew | apply Grown.alloc | apply gdrewN | (refine gtrans ?_ (by assumption)))))⟩

set_option maxRecDepth 20000 in
set_option maxHeartbeats 1000000 in
theorem rank_d (n : Bool) (m : Nat) (h2 : m < 9223372036854775808) (w : World) : Calls Tryd.prog 48 #[.float .f64 (wD n m)] w fun e w' => e = .returned (.int .i64 (rkD n m)) ∧ Grown w w' := by
  have hpat := patt_d n m h2
  by_cases c : 9218868437227405312 < m
  · have hpl := placen_d n m c h2
    have er : rkD n m = 9223372036854775807 := by unfold rkD rkG; simp [c]
    rw [er]
    clear er c h2
    go_enter Tryd.func48, Tryd.ntmps48
    go_wp2_with (first | (go_at_call 15; refine (hpl _).mono ?_; rintro e w' ⟨rfl, g1⟩) | (go_at_call 41; refine (hpat _).mono ?_; rintro e w' ⟨rfl, rfl⟩))
    exact bodyPost_ret (v := .int .i64 9223372036854775807) (by simp [results, Tryd.results48, go_sem] <;> simp only [*]) rfl ⟨rfl, (by repeat (with_reducible (first | assumption | exact Grown.refl _ | apply Grown.drew | apply Grown.alloc | apply gdrewN | (refine gtrans ?_ (by assumption)))))⟩
  · have hpl := place_d n m (by omega)
    have hb := plz_bd n m
    have er : rkD n m = plz n m - (if n then 1 else 0) := by unfold rkD rkG; simp [c]
    rw [er]
    clear er
    obtain ⟨p, hp⟩ : ∃ p : Int, p = plz n m := ⟨_, rfl⟩
    rw [← hp] at hpl hb ⊢
    have d2 : wrap64 (p - 1) = p - 1 := by unfold wrap64; omega
    have d3 : p - 0 = p := by omega
    clear h2 c hb hp
    cases n
    · simp only [Bool.false_eq_true, if_false, d3]
      go_enter Tryd.func48, Tryd.ntmps48
      go_wp2_with (first | (go_at_call 15; refine (hpl _).mono ?_; rintro e w' ⟨rfl, g1⟩) | (go_at_call 41; refine (hpat _).mono ?_; rintro e w' ⟨rfl, rfl⟩))
      exact bodyPost_ret (v := .int .i64 p) (by simp [results, Tryd.results48, go_sem] <;> simp only [*]) rfl ⟨rfl, (by repeat (with_reducible (first | assumption | exact Grown.refl _ | apply Grown.drew | apply Grown.alloc | apply gdrewN | (refine gtrans ?_ (by assumption)))))⟩
    · simp only [if_true]
      go_enter Tryd.func48, Tryd.ntmps48
      go_wp2_with (first | (go_at_call 15; refine (hpl _).mono ?_; rintro e w' ⟨rfl, g1⟩) | (go_at_call 41; refine (hpat _).mono ?_; rintro e w' ⟨rfl, rfl⟩))
      exact bodyPost_ret (v := .int .i64 (p - 1)) (by simp [results, Tryd.results48, go_sem] <;> simp only [*]) rfl ⟨rfl, (by repeat (with_reducible (first | assumption | exact Grown.refl _ | apply Grown.drew | apply Grown.alloc | apply gdrewN | (refine gtrans ?_ (by assumption)))))⟩

set_option maxRecDepth 20000 in
set_option maxHeartbeats 400000 in
theorem order_d (n n' : Bool) (m m' : Nat) (h2 : m < 9223372036854775808) (h3 : m' < 9223372036854775808) (w : World) : Calls Tryd.prog 13 #[.float .f64 (wD n m), .float .f64 (wD n' m')] w fun e w' => e = .returned (.int .i64 (cmpz (rkD n m) (rkD n' m'))) ∧ Grown w w' := by
  have hr1 := rank_d n m h2
  have hr2 := rank_d n' m' h3
  obtain ⟨x, hx⟩ : ∃ x : Nat, x = wD n m := ⟨_, rfl⟩
  obtain ⟨y, hy⟩ : ∃ y : Nat, y = wD n' m' := ⟨_, rfl⟩
  rw [← hx] at hr1 ⊢
  rw [← hy] at hr2 ⊢
  clear hx hy
  go_enter Tryd.func13, Tryd.ntmps13
  go_wp2_with fail
  refine (hr1 _).mono ?_; rintro e w' ⟨rfl, g1⟩
  go_wp2_with fail
  refine (hr2 _).mono ?_; rintro e w' ⟨rfl, g2⟩
  go_wp2_with (first | (go_at_call 47; refine (compare_int _ _ _).mono ?_; rintro e w' ⟨rfl, rfl⟩))
  exact bodyPost_ret (v := .int .i64 (cmpz (rkD n m) (rkD n' m'))) (by simp [results, Tryd.results13, go_sem] <;> simp only [*]) rfl ⟨rfl, (by repeat (with_reducible (first | assumption | exact Grown.refl _ | apply Grown.drew | apply Grown.alloc | apply gdrewN | (refine gtrans ?_ (by assumption)))))⟩

set_option maxRecDepth 20000 in
set_option maxHeartbeats 1000000 in
theorem place_s (n : Bool) (m : Nat) (hm : m ≤ 2139095040) (w : World) : Calls Tryd.prog 50 #[.float .f32 (wS n m)] w fun e w' => e = .returned (.tuple #[.int .i64 (plz n m), .bool true]) ∧ Grown w w' := by
  have hpat := patt_s n m (by omega)
  obtain ⟨I, hI⟩ : ∃ I : Int, I = 2139095040 := ⟨_, rfl⟩
  have hinf : ∀ w : World, Calls Tryd.prog 42 #[.agg #[.int .i64 24, .int .i64 (-149), .int .i64 104]] w fun e w' => e = .returned (.int .i64 I) ∧ w' = ((w.alloc (.cells #[.int .i64 24, .int .i64 (-149), .int .i64 104] 68)).alloc (.cells #[.int .i64 24, .int .i64 (-149), .int .i64 104] 68)).drew := by rw [hI]; exact infi_S
  have d1 : ¬ (I < (m : Int)) := by omega
  have d2 : wrap64 (-(m : Int)) = -(m : Int) := by unfold wrap64; omega
  clear hI hm
  cases n
  · have ec : plz false m = (m : Int) := rfl
    rw [ec]
    clear ec d2
    go_enter Tryd.func50, Tryd.ntmps50
    go_wp2_with (first | (go_at_call 44; refine (lay_s _).mono ?_; rintro e w' ⟨rfl, rfl⟩) | (go_at_call 45; refine (hpat _).mono ?_; rintro e w' ⟨rfl, rfl⟩) | (go_at_call 42; refine (hinf _).mono ?_; rintro e w' ⟨rfl, rfl⟩))
    exact bodyPost_ret (v := .tuple #[.int .i64 (m : Int), .bool true]) (by simp [results, Tryd.results50, go_sem] <;> simp only [*]) rfl ⟨rfl, (by repeat (with_reducible (first | assumption | exact Grown.refl _ | apply Grown.drew | apply Grown.alloc | apply gdrewN | (refine gtrans ?_ (by assumption)))))⟩
  · have ec : plz true m = -(m : Int) := rfl
    rw [ec]
    clear ec
    go_enter Tryd.func50, Tryd.ntmps50
    go_wp2_with (first | (go_at_call 44; refine (lay_s _).mono ?_; rintro e w' ⟨rfl, rfl⟩) | (go_at_call 45; refine (hpat _).mono ?_; rintro e w' ⟨rfl, rfl⟩) | (go_at_call 42; refine (hinf _).mono ?_; rintro e w' ⟨rfl, rfl⟩))
    exact bodyPost_ret (v := .tuple #[.int .i64 (-(m : Int)), .bool true]) (by simp [results, Tryd.results50, go_sem] <;> simp only [*]) rfl ⟨rfl, (by repeat (with_reducible (first | assumption | exact Grown.refl _ | apply Grown.drew | apply Grown.alloc | apply gdrewN | (refine gtrans ?_ (by assumption)))))⟩

set_option maxRecDepth 20000 in
set_option maxHeartbeats 1000000 in
theorem placen_s (n : Bool) (m : Nat) (hm : 2139095040 < m) (h2 : m < 2147483648) (w : World) : Calls Tryd.prog 50 #[.float .f32 (wS n m)] w fun e w' => e = .returned (.tuple #[.int .i64 0, .bool false]) ∧ Grown w w' := by
  have hpat := patt_s n m h2
  obtain ⟨I, hI⟩ : ∃ I : Int, I = 2139095040 := ⟨_, rfl⟩
  have hinf : ∀ w : World, Calls Tryd.prog 42 #[.agg #[.int .i64 24, .int .i64 (-149), .int .i64 104]] w fun e w' => e = .returned (.int .i64 I) ∧ w' = ((w.alloc (.cells #[.int .i64 24, .int .i64 (-149), .int .i64 104] 68)).alloc (.cells #[.int .i64 24, .int .i64 (-149), .int .i64 104] 68)).drew := by rw [hI]; exact infi_S
  have d1 : I < (m : Int) := by omega
  clear hI hm h2
  go_enter Tryd.func50, Tryd.ntmps50
  go_wp2_with (first | (go_at_call 44; refine (lay_s _).mono ?_; rintro e w' ⟨rfl, rfl⟩) | (go_at_call 45; refine (hpat _).mono ?_; rintro e w' ⟨rfl, rfl⟩) | (go_at_call 42; refine (hinf _).mono ?_; rintro e w' ⟨rfl, rfl⟩))
  exact bodyPost_ret (v := .tuple #[.int .i64 0, .bool false]) (by simp [results, Tryd.results50, go_sem] <;> simp only [*]) rfl ⟨rfl, (by repeat (with_reducible (first | assumption | exact Grown.refl _ | apply Grown.drew | apply Grown.alloc | apply gdrewN | (refine gtrans ?_ (by assumption)))))⟩

end Go.Proofs.YtbdeppdjelcioaaDoor
