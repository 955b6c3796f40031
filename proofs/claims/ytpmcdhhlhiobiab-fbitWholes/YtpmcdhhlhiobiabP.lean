import Derived.Test.YtpmcdhhlhiobiabProg
import Derived.Test.YtpmcdhhlhiobiabM
import Derived.Test.YtpmcdhhlhiobiabA
import Derived.WalkKit
import Derived.ProofKit
import Derived.RowKit3
import Derived.Deep.RegionHeld3
import Derived.WalkSpells
import Derived.StillTactics
import Derived.Laws.FloatArith
import Derived.Deep.QuietTactic
import Derived.BigQuiet
namespace Go.Proofs.Ytpmcdhhlhiobiab
open Go.RowKit
set_option maxRecDepth 20000 in
set_option maxHeartbeats 1000000 in
theorem place_d (n : Bool) (m : Nat) (hm : m ≤ 9218868437227405312) (w : World) : Calls Try.prog 8 #[.float .f64 (wD n m)] w fun e w' => e = .returned (.tuple #[.int .i64 (plz n m), .bool true]) ∧ Grown w w' := by
  have hpat := patt_d n m (by omega)
  obtain ⟨I, hI⟩ : ∃ I : Int, I = 9218868437227405312 := ⟨_, rfl⟩
  have hinf : ∀ w : World, Calls Try.prog 39 #[.agg #[.int .i64 53, .int .i64 (-1074), .int .i64 971]] w fun e w' => e = .returned (.int .i64 I) ∧ w' = ((w.alloc (.cells #[.int .i64 53, .int .i64 (-1074), .int .i64 971] 66)).alloc (.cells #[.int .i64 53, .int .i64 (-1074), .int .i64 971] 66)).drew := by rw [hI]; exact infi_D
  have d1 : ¬ (I < (m : Int)) := by omega
  have d2 : wrap64 (-(m : Int)) = -(m : Int) := by unfold wrap64; omega
  clear hI hm
  cases n
  · have ec : plz false m = (m : Int) := rfl
    rw [ec]
    clear ec d2
    go_enter Try.func8, Try.ntmps8
    go_wp2_with (first | (go_at_call 38; refine (lay_d _).mono ?_; rintro e w' ⟨rfl, rfl⟩) | (go_at_call 37; refine (hpat _).mono ?_; rintro e w' ⟨rfl, rfl⟩) | (go_at_call 39; refine (hinf _).mono ?_; rintro e w' ⟨rfl, rfl⟩))
    exact bodyPost_ret (v := .tuple #[.int .i64 (m : Int), .bool true]) (by simp [results, Try.results8, go_sem] <;> simp only [*]) rfl ⟨rfl, (by repeat (with_reducible (first | assumption | exact Grown.refl _ | apply Grown.drew | apply Grown.alloc | apply gdrewN | (refine gtrans ?_ (by assumption)))))⟩
  · have ec : plz true m = -(m : Int) := rfl
    rw [ec]
    clear ec
    go_enter Try.func8, Try.ntmps8
    go_wp2_with (first | (go_at_call 38; refine (lay_d _).mono ?_; rintro e w' ⟨rfl, rfl⟩) | (go_at_call 37; refine (hpat _).mono ?_; rintro e w' ⟨rfl, rfl⟩) | (go_at_call 39; refine (hinf _).mono ?_; rintro e w' ⟨rfl, rfl⟩))
    exact bodyPost_ret (v := .tuple #[.int .i64 (-(m : Int)), .bool true]) (by simp [results, Try.results8, go_sem] <;> simp only [*]) rfl ⟨rfl, (by repeat (with_reducible (first | assumption | exact Grown.refl _ | apply Grown.drew | apply Grown.alloc | apply gdrewN | (refine gtrans ?_ (by assumption)))))⟩

set_option maxRecDepth 20000 in
set_option maxHeartbeats 1000000 in
theorem placen_d (n : Bool) (m : Nat) (hm : 9218868437227405312 < m) (h2 : m < 9223372036854775808) (w : World) : Calls Try.prog 8 #[.float .f64 (wD n m)] w fun e w' => e = .returned (.tuple #[.int .i64 0, .bool false]) ∧ Grown w w' := by
  have hpat := patt_d n m h2
  obtain ⟨I, hI⟩ : ∃ I : Int, I = 9218868437227405312 := ⟨_, rfl⟩
  have hinf : ∀ w : World, Calls Try.prog 39 #[.agg #[.int .i64 53, .int .i64 (-1074), .int .i64 971]] w fun e w' => e = .returned (.int .i64 I) ∧ w' = ((w.alloc (.cells #[.int .i64 53, .int .i64 (-1074), .int .i64 971] 66)).alloc (.cells #[.int .i64 53, .int .i64 (-1074), .int .i64 971] 66)).drew := by rw [hI]; exact infi_D
  have d1 : I < (m : Int) := by omega
  clear hI hm h2
  go_enter Try.func8, Try.ntmps8
  go_wp2_with (first | (go_at_call 38; refine (lay_d _).mono ?_; rintro e w' ⟨rfl, rfl⟩) | (go_at_call 37; refine (hpat _).mono ?_; rintro e w' ⟨rfl, rfl⟩) | (go_at_call 39; refine (hinf _).mono ?_; rintro e w' ⟨rfl, rfl⟩))
  exact bodyPost_ret (v := .tuple #[.int .i64 0, .bool false]) (by simp [results, Try.results8, go_sem] <;> simp only [*]) rfl ⟨rfl, (by repeat (with_reducible (first | assumption | exact Grown.refl _ | apply Grown.drew | apply Grown.alloc | apply gdrewN | (refine gtrans ?_ (by assumption)))))⟩

set_option maxRecDepth 20000 in
set_option maxHeartbeats 1000000 in
theorem at_d (p : Int) (h1 : -9218868437227405312 ≤ p) (h2 : p ≤ 9218868437227405312) (w : World) : Calls Try.prog 15 #[.int .i64 p] w fun e w' => e = .returned (.tuple #[.float .f64 (fD p), .bool true]) ∧ Grown w w' := by
  obtain ⟨I, hI⟩ : ∃ I : Int, I = 9218868437227405312 := ⟨_, rfl⟩
  have hinf : ∀ w : World, Calls Try.prog 39 #[.agg #[.int .i64 53, .int .i64 (-1074), .int .i64 971]] w fun e w' => e = .returned (.int .i64 I) ∧ w' = ((w.alloc (.cells #[.int .i64 53, .int .i64 (-1074), .int .i64 971] 66)).alloc (.cells #[.int .i64 53, .int .i64 (-1074), .int .i64 971] 66)).drew := by rw [hI]; exact infi_D
  have d1 : ¬ (p < -I) := by omega
  have d2 : ¬ (I < p) := by omega
  have d0 : wrap64 (-I) = -I := by unfold wrap64; omega
  by_cases c : p < 0
  · have ef : fD p = wD true p.natAbs := by unfold fD; simp [c]
    rw [ef]
    have e2 : wrap64 (-p) = ((p.natAbs : Nat) : Int) := by unfold wrap64; omega
    have hfr := from_d p.natAbs (by omega)
    obtain ⟨a, ha⟩ : ∃ a : Nat, a = p.natAbs := ⟨_, rfl⟩
    rw [← ha] at e2 hfr ⊢
    have hng : Op.unary .neg (.float .f64 (wD false a)) = pure (.float .f64 (wD true a)) := by
      show pure (Value.float .f64 (Op.negFloat .f64 (wD false a))) = _
      rw [negD false a (by omega)]; rfl
    clear hI h1 h2 ef ha
    go_enter Try.func15, Try.ntmps15
    go_wp2_with (first | (go_at_call 38; refine (lay_d _).mono ?_; rintro e w' ⟨rfl, rfl⟩) | (go_at_call 52; refine (hfr _).mono ?_; rintro e w' ⟨rfl, rfl⟩) | (go_at_call 39; refine (hinf _).mono ?_; rintro e w' ⟨rfl, rfl⟩))
    exact bodyPost_ret (v := .tuple #[.float .f64 (wD true a), .bool true]) (by simp [results, Try.results15, go_sem] <;> simp only [*]) rfl ⟨rfl, (by repeat (with_reducible (first | assumption | exact Grown.refl _ | apply Grown.drew | apply Grown.alloc | apply gdrewN | (refine gtrans ?_ (by assumption)))))⟩
  · have ef : fD p = wD false p.natAbs := by unfold fD; simp [c]
    rw [ef]
    have e2 : p = ((p.natAbs : Nat) : Int) := by omega
    have hfr : ∀ w : World, Calls Try.prog 52 #[.int .i64 p] w fun e w' => e = .returned (.float .f64 (wD false p.natAbs)) ∧ w' = w := by
      have := from_d p.natAbs (by omega)
      rw [← e2] at this; exact this
    obtain ⟨a, ha⟩ : ∃ a : Nat, a = p.natAbs := ⟨_, rfl⟩
    rw [← ha] at hfr ⊢
    clear hI h1 h2 ef ha e2
    go_enter Try.func15, Try.ntmps15
    go_wp2_with (first | (go_at_call 38; refine (lay_d _).mono ?_; rintro e w' ⟨rfl, rfl⟩) | (go_at_call 52; refine (hfr _).mono ?_; rintro e w' ⟨rfl, rfl⟩) | (go_at_call 39; refine (hinf _).mono ?_; rintro e w' ⟨rfl, rfl⟩))
    exact bodyPost_ret (v := .tuple #[.float .f64 (wD false a), .bool true]) (by simp [results, Try.results15, go_sem] <;> simp only [*]) rfl ⟨rfl, (by repeat (with_reducible (first | assumption | exact Grown.refl _ | apply Grown.drew | apply Grown.alloc | apply gdrewN | (refine gtrans ?_ (by assumption)))))⟩

set_option maxRecDepth 20000 in
set_option maxHeartbeats 1000000 in
theorem atx_d (p : Int) (h : p < -9218868437227405312 ∨ 9218868437227405312 < p) (w : World) : Calls Try.prog 15 #[.int .i64 p] w fun e w' => e = .returned (.tuple #[.float .f64 (wD false 0), .bool false]) ∧ Grown w w' := by
  obtain ⟨I, hI⟩ : ∃ I : Int, I = 9218868437227405312 := ⟨_, rfl⟩
  have hinf : ∀ w : World, Calls Try.prog 39 #[.agg #[.int .i64 53, .int .i64 (-1074), .int .i64 971]] w fun e w' => e = .returned (.int .i64 I) ∧ w' = ((w.alloc (.cells #[.int .i64 53, .int .i64 (-1074), .int .i64 971] 66)).alloc (.cells #[.int .i64 53, .int .i64 (-1074), .int .i64 971] 66)).drew := by rw [hI]; exact infi_D
  have d0 : wrap64 (-I) = -I := by unfold wrap64; omega
  have ew : wD false 0 = 0 := rfl
  rw [ew]
  clear ew
  rcases h with h | h
  · have d1 : p < -I := by omega
    clear hI h
    go_enter Try.func15, Try.ntmps15
    go_wp2_with (first | (go_at_call 38; refine (lay_d _).mono ?_; rintro e w' ⟨rfl, rfl⟩) | (go_at_call 52; refine (hfr _).mono ?_; rintro e w' ⟨rfl, rfl⟩) | (go_at_call 39; refine (hinf _).mono ?_; rintro e w' ⟨rfl, rfl⟩))
    exact bodyPost_ret (v := .tuple #[.float .f64 0, .bool false]) (by simp [results, Try.results15, go_sem] <;> simp only [*]) rfl ⟨rfl, (by repeat (with_reducible (first | assumption | exact Grown.refl _ | apply Grown.drew | apply Grown.alloc | apply gdrewN | (refine gtrans ?_ (by assumption)))))⟩
  · have d1 : ¬ (p < -I) := by omega
    have d2 : I < p := by omega
    clear hI h
    go_enter Try.func15, Try.ntmps15
    go_wp2_with (first | (go_at_call 38; refine (lay_d _).mono ?_; rintro e w' ⟨rfl, rfl⟩) | (go_at_call 52; refine (hfr _).mono ?_; rintro e w' ⟨rfl, rfl⟩) | (go_at_call 39; refine (hinf _).mono ?_; rintro e w' ⟨rfl, rfl⟩))
    exact bodyPost_ret (v := .tuple #[.float .f64 0, .bool false]) (by simp [results, Try.results15, go_sem] <;> simp only [*]) rfl ⟨rfl, (by repeat (with_reducible (first | assumption | exact Grown.refl _ | apply Grown.drew | apply Grown.alloc | apply gdrewN | (refine gtrans ?_ (by assumption)))))⟩

set_option maxRecDepth 20000 in
set_option maxHeartbeats 1000000 in
theorem place_far (n : Bool) (m : Nat) (hm : m ≤ 9218868437227405312) (w : World) : Calls Try.prog 10 #[.float .f64 (wD n m)] w fun e w' => e = .returned (.tuple #[.int .i64 (plz n m), .bool true]) ∧ Grown w w' := by
  have hpat := patt_far n m (by omega)
  obtain ⟨I, hI⟩ : ∃ I : Int, I = 9218868437227405312 := ⟨_, rfl⟩
  have hinf : ∀ w : World, Calls Try.prog 39 #[.agg #[.int .i64 53, .int .i64 (-1074), .int .i64 971]] w fun e w' => e = .returned (.int .i64 I) ∧ w' = ((w.alloc (.cells #[.int .i64 53, .int .i64 (-1074), .int .i64 971] 66)).alloc (.cells #[.int .i64 53, .int .i64 (-1074), .int .i64 971] 66)).drew := by rw [hI]; exact infi_D
  have d1 : ¬ (I < (m : Int)) := by omega
  have d2 : wrap64 (-(m : Int)) = -(m : Int) := by unfold wrap64; omega
  clear hI hm
  cases n
  · have ec : plz false m = (m : Int) := rfl
    rw [ec]
    clear ec d2
    go_enter Try.func10, Try.ntmps10
    go_wp2_with (first | (go_at_call 42; refine (lay_far _).mono ?_; rintro e w' ⟨rfl, rfl⟩) | (go_at_call 41; refine (hpat _).mono ?_; rintro e w' ⟨rfl, rfl⟩) | (go_at_call 39; refine (hinf _).mono ?_; rintro e w' ⟨rfl, rfl⟩))
    exact bodyPost_ret (v := .tuple #[.int .i64 (m : Int), .bool true]) (by simp [results, Try.results10, go_sem] <;> simp only [*]) rfl ⟨rfl, (by repeat (with_reducible (first | assumption | exact Grown.refl _ | apply Grown.drew | apply Grown.alloc | apply gdrewN | (refine gtrans ?_ (by assumption)))))⟩
  · have ec : plz true m = -(m : Int) := rfl
    rw [ec]
    clear ec
    go_enter Try.func10, Try.ntmps10
    go_wp2_with (first | (go_at_call 42; refine (lay_far _).mono ?_; rintro e w' ⟨rfl, rfl⟩) | (go_at_call 41; refine (hpat _).mono ?_; rintro e w' ⟨rfl, rfl⟩) | (go_at_call 39; refine (hinf _).mono ?_; rintro e w' ⟨rfl, rfl⟩))
    exact bodyPost_ret (v := .tuple #[.int .i64 (-(m : Int)), .bool true]) (by simp [results, Try.results10, go_sem] <;> simp only [*]) rfl ⟨rfl, (by repeat (with_reducible (first | assumption | exact Grown.refl _ | apply Grown.drew | apply Grown.alloc | apply gdrewN | (refine gtrans ?_ (by assumption)))))⟩

set_option maxRecDepth 20000 in
set_option maxHeartbeats 1000000 in
theorem placen_far (n : Bool) (m : Nat) (hm : 9218868437227405312 < m) (h2 : m < 9223372036854775808) (w : World) : Calls Try.prog 10 #[.float .f64 (wD n m)] w fun e w' => e = .returned (.tuple #[.int .i64 0, .bool false]) ∧ Grown w w' := by
  have hpat := patt_far n m h2
  obtain ⟨I, hI⟩ : ∃ I : Int, I = 9218868437227405312 := ⟨_, rfl⟩
  have hinf : ∀ w : World, Calls Try.prog 39 #[.agg #[.int .i64 53, .int .i64 (-1074), .int .i64 971]] w fun e w' => e = .returned (.int .i64 I) ∧ w' = ((w.alloc (.cells #[.int .i64 53, .int .i64 (-1074), .int .i64 971] 66)).alloc (.cells #[.int .i64 53, .int .i64 (-1074), .int .i64 971] 66)).drew := by rw [hI]; exact infi_D
  have d1 : I < (m : Int) := by omega
  clear hI hm h2
  go_enter Try.func10, Try.ntmps10
  go_wp2_with (first | (go_at_call 42; refine (lay_far _).mono ?_; rintro e w' ⟨rfl, rfl⟩) | (go_at_call 41; refine (hpat _).mono ?_; rintro e w' ⟨rfl, rfl⟩) | (go_at_call 39; refine (hinf _).mono ?_; rintro e w' ⟨rfl, rfl⟩))
  exact bodyPost_ret (v := .tuple #[.int .i64 0, .bool false]) (by simp [results, Try.results10, go_sem] <;> simp only [*]) rfl ⟨rfl, (by repeat (with_reducible (first | assumption | exact Grown.refl _ | apply Grown.drew | apply Grown.alloc | apply gdrewN | (refine gtrans ?_ (by assumption)))))⟩

set_option maxRecDepth 20000 in
set_option maxHeartbeats 1000000 in
theorem at_far (p : Int) (h1 : -9218868437227405312 ≤ p) (h2 : p ≤ 9218868437227405312) (w : World) : Calls Try.prog 16 #[.int .i64 p] w fun e w' => e = .returned (.tuple #[.float .f64 (fD p), .bool true]) ∧ Grown w w' := by
  obtain ⟨I, hI⟩ : ∃ I : Int, I = 9218868437227405312 := ⟨_, rfl⟩
  have hinf : ∀ w : World, Calls Try.prog 39 #[.agg #[.int .i64 53, .int .i64 (-1074), .int .i64 971]] w fun e w' => e = .returned (.int .i64 I) ∧ w' = ((w.alloc (.cells #[.int .i64 53, .int .i64 (-1074), .int .i64 971] 66)).alloc (.cells #[.int .i64 53, .int .i64 (-1074), .int .i64 971] 66)).drew := by rw [hI]; exact infi_D
  have d1 : ¬ (p < -I) := by omega
  have d2 : ¬ (I < p) := by omega
  have d0 : wrap64 (-I) = -I := by unfold wrap64; omega
  by_cases c : p < 0
  · have ef : fD p = wD true p.natAbs := by unfold fD; simp [c]
    rw [ef]
    have e2 : wrap64 (-p) = ((p.natAbs : Nat) : Int) := by unfold wrap64; omega
    have hfr := from_far p.natAbs (by omega)
    obtain ⟨a, ha⟩ : ∃ a : Nat, a = p.natAbs := ⟨_, rfl⟩
    rw [← ha] at e2 hfr ⊢
    have hng : Op.unary .neg (.float .f64 (wD false a)) = pure (.float .f64 (wD true a)) := by
      show pure (Value.float .f64 (Op.negFloat .f64 (wD false a))) = _
      rw [negD false a (by omega)]; rfl
    clear hI h1 h2 ef ha
    go_enter Try.func16, Try.ntmps16
    go_wp2_with (first | (go_at_call 42; refine (lay_far _).mono ?_; rintro e w' ⟨rfl, rfl⟩) | (go_at_call 53; refine (hfr _).mono ?_; rintro e w' ⟨rfl, rfl⟩) | (go_at_call 39; refine (hinf _).mono ?_; rintro e w' ⟨rfl, rfl⟩))
    exact bodyPost_ret (v := .tuple #[.float .f64 (wD true a), .bool true]) (by simp [results, Try.results16, go_sem] <;> simp only [*]) rfl ⟨rfl, (by repeat (with_reducible (first | assumption | exact Grown.refl _ | apply Grown.drew | apply Grown.alloc | apply gdrewN | (refine gtrans ?_ (by assumption)))))⟩
  · have ef : fD p = wD false p.natAbs := by unfold fD; simp [c]
    rw [ef]
    have e2 : p = ((p.natAbs : Nat) : Int) := by omega
    have hfr : ∀ w : World, Calls Try.prog 53 #[.int .i64 p] w fun e w' => e = .returned (.float .f64 (wD false p.natAbs)) ∧ w' = w := by
      have := from_far p.natAbs (by omega)
      rw [← e2] at this; exact this
    obtain ⟨a, ha⟩ : ∃ a : Nat, a = p.natAbs := ⟨_, rfl⟩
    rw [← ha] at hfr ⊢
    clear hI h1 h2 ef ha e2
    go_enter Try.func16, Try.ntmps16
    go_wp2_with (first | (go_at_call 42; refine (lay_far _).mono ?_; rintro e w' ⟨rfl, rfl⟩) | (go_at_call 53; refine (hfr _).mono ?_; rintro e w' ⟨rfl, rfl⟩) | (go_at_call 39; refine (hinf _).mono ?_; rintro e w' ⟨rfl, rfl⟩))
    exact bodyPost_ret (v := .tuple #[.float .f64 (wD false a), .bool true]) (by simp [results, Try.results16, go_sem] <;> simp only [*]) rfl ⟨rfl, (by repeat (with_reducible (first | assumption | exact Grown.refl _ | apply Grown.drew | apply Grown.alloc | apply gdrewN | (refine gtrans ?_ (by assumption)))))⟩

set_option maxRecDepth 20000 in
set_option maxHeartbeats 1000000 in
theorem atx_far (p : Int) (h : p < -9218868437227405312 ∨ 9218868437227405312 < p) (w : World) : Calls Try.prog 16 #[.int .i64 p] w fun e w' => e = .returned (.tuple #[.float .f64 (wD false 0), .bool false]) ∧ Grown w w' := by
  obtain ⟨I, hI⟩ : ∃ I : Int, I = 9218868437227405312 := ⟨_, rfl⟩
  have hinf : ∀ w : World, Calls Try.prog 39 #[.agg #[.int .i64 53, .int .i64 (-1074), .int .i64 971]] w fun e w' => e = .returned (.int .i64 I) ∧ w' = ((w.alloc (.cells #[.int .i64 53, .int .i64 (-1074), .int .i64 971] 66)).alloc (.cells #[.int .i64 53, .int .i64 (-1074), .int .i64 971] 66)).drew := by rw [hI]; exact infi_D
  have d0 : wrap64 (-I) = -I := by unfold wrap64; omega
  have ew : wD false 0 = 0 := rfl
  rw [ew]
  clear ew
  rcases h with h | h
  · have d1 : p < -I := by omega
    clear hI h
    go_enter Try.func16, Try.ntmps16
    go_wp2_with (first | (go_at_call 42; refine (lay_far _).mono ?_; rintro e w' ⟨rfl, rfl⟩) | (go_at_call 53; refine (hfr _).mono ?_; rintro e w' ⟨rfl, rfl⟩) | (go_at_call 39; refine (hinf _).mono ?_; rintro e w' ⟨rfl, rfl⟩))
    exact bodyPost_ret (v := .tuple #[.float .f64 0, .bool false]) (by simp [results, Try.results16, go_sem] <;> simp only [*]) rfl ⟨rfl, (by repeat (with_reducible (first | assumption | exact Grown.refl _ | apply Grown.drew | apply Grown.alloc | apply gdrewN | (refine gtrans ?_ (by assumption)))))⟩
  · have d1 : ¬ (p < -I) := by omega
    have d2 : I < p := by omega
    clear hI h
    go_enter Try.func16, Try.ntmps16
    go_wp2_with (first | (go_at_call 42; refine (lay_far _).mono ?_; rintro e w' ⟨rfl, rfl⟩) | (go_at_call 53; refine (hfr _).mono ?_; rintro e w' ⟨rfl, rfl⟩) | (go_at_call 39; refine (hinf _).mono ?_; rintro e w' ⟨rfl, rfl⟩))
    exact bodyPost_ret (v := .tuple #[.float .f64 0, .bool false]) (by simp [results, Try.results16, go_sem] <;> simp only [*]) rfl ⟨rfl, (by repeat (with_reducible (first | assumption | exact Grown.refl _ | apply Grown.drew | apply Grown.alloc | apply gdrewN | (refine gtrans ?_ (by assumption)))))⟩

set_option maxRecDepth 20000 in
set_option maxHeartbeats 1000000 in
theorem place_s (n : Bool) (m : Nat) (hm : m ≤ 2139095040) (w : World) : Calls Try.prog 12 #[.float .f32 (wS n m)] w fun e w' => e = .returned (.tuple #[.int .i64 (plz n m), .bool true]) ∧ Grown w w' := by
  have hpat := patt_s n m (by omega)
  obtain ⟨I, hI⟩ : ∃ I : Int, I = 2139095040 := ⟨_, rfl⟩
  have hinf : ∀ w : World, Calls Try.prog 39 #[.agg #[.int .i64 24, .int .i64 (-149), .int .i64 104]] w fun e w' => e = .returned (.int .i64 I) ∧ w' = ((w.alloc (.cells #[.int .i64 24, .int .i64 (-149), .int .i64 104] 66)).alloc (.cells #[.int .i64 24, .int .i64 (-149), .int .i64 104] 66)).drew := by rw [hI]; exact infi_S
  have d1 : ¬ (I < (m : Int)) := by omega
  have d2 : wrap64 (-(m : Int)) = -(m : Int) := by unfold wrap64; omega
  clear hI hm
  cases n
  · have ec : plz false m = (m : Int) := rfl
    rw [ec]
    clear ec d2
    go_enter Try.func12, Try.ntmps12
    go_wp2_with (first | (go_at_call 48; refine (lay_s _).mono ?_; rintro e w' ⟨rfl, rfl⟩) | (go_at_call 47; refine (hpat _).mono ?_; rintro e w' ⟨rfl, rfl⟩) | (go_at_call 39; refine (hinf _).mono ?_; rintro e w' ⟨rfl, rfl⟩))
    exact bodyPost_ret (v := .tuple #[.int .i64 (m : Int), .bool true]) (by simp [results, Try.results12, go_sem] <;> simp only [*]) rfl ⟨rfl, (by repeat (with_reducible (first | assumption | exact Grown.refl _ | apply Grown.drew | apply Grown.alloc | apply gdrewN | (refine gtrans ?_ (by assumption)))))⟩
  · have ec : plz true m = -(m : Int) := rfl
    rw [ec]
    clear ec
    go_enter Try.func12, Try.ntmps12
    go_wp2_with (first | (go_at_call 48; refine (lay_s _).mono ?_; rintro e w' ⟨rfl, rfl⟩) | (go_at_call 47; refine (hpat _).mono ?_; rintro e w' ⟨rfl, rfl⟩) | (go_at_call 39; refine (hinf _).mono ?_; rintro e w' ⟨rfl, rfl⟩))
    exact bodyPost_ret (v := .tuple #[.int .i64 (-(m : Int)), .bool true]) (by simp [results, Try.results12, go_sem] <;> simp only [*]) rfl ⟨rfl, (by repeat (with_reducible (first | assumption | exact Grown.refl _ | apply Grown.drew | apply Grown.alloc | apply gdrewN | (refine gtrans ?_ (by assumption)))))⟩

set_option maxRecDepth 20000 in
set_option maxHeartbeats 1000000 in
theorem placen_s (n : Bool) (m : Nat) (hm : 2139095040 < m) (h2 : m < 2147483648) (w : World) : Calls Try.prog 12 #[.float .f32 (wS n m)] w fun e w' => e = .returned (.tuple #[.int .i64 0, .bool false]) ∧ Grown w w' := by
  have hpat := patt_s n m h2
  obtain ⟨I, hI⟩ : ∃ I : Int, I = 2139095040 := ⟨_, rfl⟩
  have hinf : ∀ w : World, Calls Try.prog 39 #[.agg #[.int .i64 24, .int .i64 (-149), .int .i64 104]] w fun e w' => e = .returned (.int .i64 I) ∧ w' = ((w.alloc (.cells #[.int .i64 24, .int .i64 (-149), .int .i64 104] 66)).alloc (.cells #[.int .i64 24, .int .i64 (-149), .int .i64 104] 66)).drew := by rw [hI]; exact infi_S
  have d1 : I < (m : Int) := by omega
  clear hI hm h2
  go_enter Try.func12, Try.ntmps12
  go_wp2_with (first | (go_at_call 48; refine (lay_s _).mono ?_; rintro e w' ⟨rfl, rfl⟩) | (go_at_call 47; refine (hpat _).mono ?_; rintro e w' ⟨rfl, rfl⟩) | (go_at_call 39; refine (hinf _).mono ?_; rintro e w' ⟨rfl, rfl⟩))
  exact bodyPost_ret (v := .tuple #[.int .i64 0, .bool false]) (by simp [results, Try.results12, go_sem] <;> simp only [*]) rfl ⟨rfl, (by repeat (with_reducible (first | assumption | exact Grown.refl _ | apply Grown.drew | apply Grown.alloc | apply gdrewN | (refine gtrans ?_ (by assumption)))))⟩

set_option maxRecDepth 20000 in
set_option maxHeartbeats 1000000 in
theorem at_s (p : Int) (h1 : -2139095040 ≤ p) (h2 : p ≤ 2139095040) (w : World) : Calls Try.prog 19 #[.int .i64 p] w fun e w' => e = .returned (.tuple #[.float .f32 (fS p), .bool true]) ∧ Grown w w' := by
  obtain ⟨I, hI⟩ : ∃ I : Int, I = 2139095040 := ⟨_, rfl⟩
  have hinf : ∀ w : World, Calls Try.prog 39 #[.agg #[.int .i64 24, .int .i64 (-149), .int .i64 104]] w fun e w' => e = .returned (.int .i64 I) ∧ w' = ((w.alloc (.cells #[.int .i64 24, .int .i64 (-149), .int .i64 104] 66)).alloc (.cells #[.int .i64 24, .int .i64 (-149), .int .i64 104] 66)).drew := by rw [hI]; exact infi_S
  have d1 : ¬ (p < -I) := by omega
  have d2 : ¬ (I < p) := by omega
  have d0 : wrap64 (-I) = -I := by unfold wrap64; omega
  by_cases c : p < 0
  · have ef : fS p = wS true p.natAbs := by unfold fS; simp [c]
    rw [ef]
    have e2 : wrap64 (-p) = ((p.natAbs : Nat) : Int) := by unfold wrap64; omega
    have hfr := from_s p.natAbs (by omega)
    obtain ⟨a, ha⟩ : ∃ a : Nat, a = p.natAbs := ⟨_, rfl⟩
    rw [← ha] at e2 hfr ⊢
    have hng : Op.unary .neg (.float .f32 (wS false a)) = pure (.float .f32 (wS true a)) := by
      show pure (Value.float .f32 (Op.negFloat .f32 (wS false a))) = _
      rw [negS false a (by omega)]; rfl
    clear hI h1 h2 ef ha
    go_enter Try.func19, Try.ntmps19
    go_wp2_with (first | (go_at_call 48; refine (lay_s _).mono ?_; rintro e w' ⟨rfl, rfl⟩) | (go_at_call 57; refine (hfr _).mono ?_; rintro e w' ⟨rfl, rfl⟩) | (go_at_call 39; refine (hinf _).mono ?_; rintro e w' ⟨rfl, rfl⟩))
    exact bodyPost_ret (v := .tuple #[.float .f32 (wS true a), .bool true]) (by simp [results, Try.results19, go_sem] <;> simp only [*]) rfl ⟨rfl, (by repeat (with_reducible (first | assumption | exact Grown.refl _ | apply Grown.drew | apply Grown.alloc | apply gdrewN | (refine gtrans ?_ (by assumption)))))⟩
  · have ef : fS p = wS false p.natAbs := by unfold fS; simp [c]
    rw [ef]
    have e2 : p = ((p.natAbs : Nat) : Int) := by omega
    have hfr : ∀ w : World, Calls Try.prog 57 #[.int .i64 p] w fun e w' => e = .returned (.float .f32 (wS false p.natAbs)) ∧ w' = w := by
      have := from_s p.natAbs (by omega)
      rw [← e2] at this; exact this
    obtain ⟨a, ha⟩ : ∃ a : Nat, a = p.natAbs := ⟨_, rfl⟩
    rw [← ha] at hfr ⊢
    clear hI h1 h2 ef ha e2
    go_enter Try.func19, Try.ntmps19
    go_wp2_with (first | (go_at_call 48; refine (lay_s _).mono ?_; rintro e w' ⟨rfl, rfl⟩) | (go_at_call 57; refine (hfr _).mono ?_; rintro e w' ⟨rfl, rfl⟩) | (go_at_call 39; refine (hinf _).mono ?_; rintro e w' ⟨rfl, rfl⟩))
    exact bodyPost_ret (v := .tuple #[.float .f32 (wS false a), .bool true]) (by simp [results, Try.results19, go_sem] <;> simp only [*]) rfl ⟨rfl, (by repeat (with_reducible (first | assumption | exact Grown.refl _ | apply Grown.drew | apply Grown.alloc | apply gdrewN | (refine gtrans ?_ (by assumption)))))⟩

set_option maxRecDepth 20000 in
set_option maxHeartbeats 1000000 in
theorem atx_s (p : Int) (h : p < -2139095040 ∨ 2139095040 < p) (w : World) : Calls Try.prog 19 #[.int .i64 p] w fun e w' => e = .returned (.tuple #[.float .f32 (wS false 0), .bool false]) ∧ Grown w w' := by
  obtain ⟨I, hI⟩ : ∃ I : Int, I = 2139095040 := ⟨_, rfl⟩
  have hinf : ∀ w : World, Calls Try.prog 39 #[.agg #[.int .i64 24, .int .i64 (-149), .int .i64 104]] w fun e w' => e = .returned (.int .i64 I) ∧ w' = ((w.alloc (.cells #[.int .i64 24, .int .i64 (-149), .int .i64 104] 66)).alloc (.cells #[.int .i64 24, .int .i64 (-149), .int .i64 104] 66)).drew := by rw [hI]; exact infi_S
  have d0 : wrap64 (-I) = -I := by unfold wrap64; omega
  have ew : wS false 0 = 0 := rfl
  rw [ew]
  clear ew
  rcases h with h | h
  · have d1 : p < -I := by omega
    clear hI h
    go_enter Try.func19, Try.ntmps19
    go_wp2_with (first | (go_at_call 48; refine (lay_s _).mono ?_; rintro e w' ⟨rfl, rfl⟩) | (go_at_call 57; refine (hfr _).mono ?_; rintro e w' ⟨rfl, rfl⟩) | (go_at_call 39; refine (hinf _).mono ?_; rintro e w' ⟨rfl, rfl⟩))
    exact bodyPost_ret (v := .tuple #[.float .f32 0, .bool false]) (by simp [results, Try.results19, go_sem] <;> simp only [*]) rfl ⟨rfl, (by repeat (with_reducible (first | assumption | exact Grown.refl _ | apply Grown.drew | apply Grown.alloc | apply gdrewN | (refine gtrans ?_ (by assumption)))))⟩
  · have d1 : ¬ (p < -I) := by omega
    have d2 : I < p := by omega
    clear hI h
    go_enter Try.func19, Try.ntmps19
    go_wp2_with (first | (go_at_call 48; refine (lay_s _).mono ?_; rintro e w' ⟨rfl, rfl⟩) | (go_at_call 57; refine (hfr _).mono ?_; rintro e w' ⟨rfl, rfl⟩) | (go_at_call 39; refine (hinf _).mono ?_; rintro e w' ⟨rfl, rfl⟩))
    exact bodyPost_ret (v := .tuple #[.float .f32 0, .bool false]) (by simp [results, Try.results19, go_sem] <;> simp only [*]) rfl ⟨rfl, (by repeat (with_reducible (first | assumption | exact Grown.refl _ | apply Grown.drew | apply Grown.alloc | apply gdrewN | (refine gtrans ?_ (by assumption)))))⟩

set_option maxRecDepth 20000 in
set_option maxHeartbeats 1000000 in
theorem place_near (n : Bool) (m : Nat) (hm : m ≤ 2139095040) (w : World) : Calls Try.prog 14 #[.float .f32 (wS n m)] w fun e w' => e = .returned (.tuple #[.int .i64 (plz n m), .bool true]) ∧ Grown w w' := by
  have hpat := patt_near n m (by omega)
  obtain ⟨I, hI⟩ : ∃ I : Int, I = 2139095040 := ⟨_, rfl⟩
  have hinf : ∀ w : World, Calls Try.prog 39 #[.agg #[.int .i64 24, .int .i64 (-149), .int .i64 104]] w fun e w' => e = .returned (.int .i64 I) ∧ w' = ((w.alloc (.cells #[.int .i64 24, .int .i64 (-149), .int .i64 104] 66)).alloc (.cells #[.int .i64 24, .int .i64 (-149), .int .i64 104] 66)).drew := by rw [hI]; exact infi_S
  have d1 : ¬ (I < (m : Int)) := by omega
  have d2 : wrap64 (-(m : Int)) = -(m : Int) := by unfold wrap64; omega
  clear hI hm
  cases n
  · have ec : plz false m = (m : Int) := rfl
    rw [ec]
    clear ec d2
    go_enter Try.func14, Try.ntmps14
    go_wp2_with (first | (go_at_call 51; refine (lay_near _).mono ?_; rintro e w' ⟨rfl, rfl⟩) | (go_at_call 50; refine (hpat _).mono ?_; rintro e w' ⟨rfl, rfl⟩) | (go_at_call 39; refine (hinf _).mono ?_; rintro e w' ⟨rfl, rfl⟩))
    exact bodyPost_ret (v := .tuple #[.int .i64 (m : Int), .bool true]) (by simp [results, Try.results14, go_sem] <;> simp only [*]) rfl ⟨rfl, (by repeat (with_reducible (first | assumption | exact Grown.refl _ | apply Grown.drew | apply Grown.alloc | apply gdrewN | (refine gtrans ?_ (by assumption)))))⟩
  · have ec : plz true m = -(m : Int) := rfl
    rw [ec]
    clear ec
    go_enter Try.func14, Try.ntmps14
    go_wp2_with (first | (go_at_call 51; refine (lay_near _).mono ?_; rintro e w' ⟨rfl, rfl⟩) | (go_at_call 50; refine (hpat _).mono ?_; rintro e w' ⟨rfl, rfl⟩) | (go_at_call 39; refine (hinf _).mono ?_; rintro e w' ⟨rfl, rfl⟩))
    exact bodyPost_ret (v := .tuple #[.int .i64 (-(m : Int)), .bool true]) (by simp [results, Try.results14, go_sem] <;> simp only [*]) rfl ⟨rfl, (by repeat (with_reducible (first | assumption | exact Grown.refl _ | apply Grown.drew | apply Grown.alloc | apply gdrewN | (refine gtrans ?_ (by assumption)))))⟩

set_option maxRecDepth 20000 in
set_option maxHeartbeats 1000000 in
theorem placen_near (n : Bool) (m : Nat) (hm : 2139095040 < m) (h2 : m < 2147483648) (w : World) : Calls Try.prog 14 #[.float .f32 (wS n m)] w fun e w' => e = .returned (.tuple #[.int .i64 0, .bool false]) ∧ Grown w w' := by
  have hpat := patt_near n m h2
  obtain ⟨I, hI⟩ : ∃ I : Int, I = 2139095040 := ⟨_, rfl⟩
  have hinf : ∀ w : World, Calls Try.prog 39 #[.agg #[.int .i64 24, .int .i64 (-149), .int .i64 104]] w fun e w' => e = .returned (.int .i64 I) ∧ w' = ((w.alloc (.cells #[.int .i64 24, .int .i64 (-149), .int .i64 104] 66)).alloc (.cells #[.int .i64 24, .int .i64 (-149), .int .i64 104] 66)).drew := by rw [hI]; exact infi_S
  have d1 : I < (m : Int) := by omega
  clear hI hm h2
  go_enter Try.func14, Try.ntmps14
  go_wp2_with (first | (go_at_call 51; refine (lay_near _).mono ?_; rintro e w' ⟨rfl, rfl⟩) | (go_at_call 50; refine (hpat _).mono ?_; rintro e w' ⟨rfl, rfl⟩) | (go_at_call 39; refine (hinf _).mono ?_; rintro e w' ⟨rfl, rfl⟩))
  exact bodyPost_ret (v := .tuple #[.int .i64 0, .bool false]) (by simp [results, Try.results14, go_sem] <;> simp only [*]) rfl ⟨rfl, (by repeat (with_reducible (first | assumption | exact Grown.refl _ | apply Grown.drew | apply Grown.alloc | apply gdrewN | (refine gtrans ?_ (by assumption)))))⟩

set_option maxRecDepth 20000 in
set_option maxHeartbeats 1000000 in
theorem at_near (p : Int) (h1 : -2139095040 ≤ p) (h2 : p ≤ 2139095040) (w : World) : Calls Try.prog 20 #[.int .i64 p] w fun e w' => e = .returned (.tuple #[.float .f32 (fS p), .bool true]) ∧ Grown w w' := by
  obtain ⟨I, hI⟩ : ∃ I : Int, I = 2139095040 := ⟨_, rfl⟩
  have hinf : ∀ w : World, Calls Try.prog 39 #[.agg #[.int .i64 24, .int .i64 (-149), .int .i64 104]] w fun e w' => e = .returned (.int .i64 I) ∧ w' = ((w.alloc (.cells #[.int .i64 24, .int .i64 (-149), .int .i64 104] 66)).alloc (.cells #[.int .i64 24, .int .i64 (-149), .int .i64 104] 66)).drew := by rw [hI]; exact infi_S
  have d1 : ¬ (p < -I) := by omega
  have d2 : ¬ (I < p) := by omega
  have d0 : wrap64 (-I) = -I := by unfold wrap64; omega
  by_cases c : p < 0
  · have ef : fS p = wS true p.natAbs := by unfold fS; simp [c]
    rw [ef]
    have e2 : wrap64 (-p) = ((p.natAbs : Nat) : Int) := by unfold wrap64; omega
    have hfr := from_near p.natAbs (by omega)
    obtain ⟨a, ha⟩ : ∃ a : Nat, a = p.natAbs := ⟨_, rfl⟩
    rw [← ha] at e2 hfr ⊢
    have hng : Op.unary .neg (.float .f32 (wS false a)) = pure (.float .f32 (wS true a)) := by
      show pure (Value.float .f32 (Op.negFloat .f32 (wS false a))) = _
      rw [negS false a (by omega)]; rfl
    clear hI h1 h2 ef ha
    go_enter Try.func20, Try.ntmps20
    go_wp2_with (first | (go_at_call 51; refine (lay_near _).mono ?_; rintro e w' ⟨rfl, rfl⟩) | (go_at_call 58; refine (hfr _).mono ?_; rintro e w' ⟨rfl, rfl⟩) | (go_at_call 39; refine (hinf _).mono ?_; rintro e w' ⟨rfl, rfl⟩))
    exact bodyPost_ret (v := .tuple #[.float .f32 (wS true a), .bool true]) (by simp [results, Try.results20, go_sem] <;> simp only [*]) rfl ⟨rfl, (by repeat (with_reducible (first | assumption | exact Grown.refl _ | apply Grown.drew | apply Grown.alloc | apply gdrewN | (refine gtrans ?_ (by assumption)))))⟩
  · have ef : fS p = wS false p.natAbs := by unfold fS; simp [c]
    rw [ef]
    have e2 : p = ((p.natAbs : Nat) : Int) := by omega
    have hfr : ∀ w : World, Calls Try.prog 58 #[.int .i64 p] w fun e w' => e = .returned (.float .f32 (wS false p.natAbs)) ∧ w' = w := by
      have := from_near p.natAbs (by omega)
      rw [← e2] at this; exact this
    obtain ⟨a, ha⟩ : ∃ a : Nat, a = p.natAbs := ⟨_, rfl⟩
    rw [← ha] at hfr ⊢
    clear hI h1 h2 ef ha e2
    go_enter Try.func20, Try.ntmps20
    go_wp2_with (first | (go_at_call 51; refine (lay_near _).mono ?_; rintro e w' ⟨rfl, rfl⟩) | (go_at_call 58; refine (hfr _).mono ?_; rintro e w' ⟨rfl, rfl⟩) | (go_at_call 39; refine (hinf _).mono ?_; rintro e w' ⟨rfl, rfl⟩))
    exact bodyPost_ret (v := .tuple #[.float .f32 (wS false a), .bool true]) (by simp [results, Try.results20, go_sem] <;> simp only [*]) rfl ⟨rfl, (by repeat (with_reducible (first | assumption | exact Grown.refl _ | apply Grown.drew | apply Grown.alloc | apply gdrewN | (refine gtrans ?_ (by assumption)))))⟩

set_option maxRecDepth 20000 in
set_option maxHeartbeats 1000000 in
theorem atx_near (p : Int) (h : p < -2139095040 ∨ 2139095040 < p) (w : World) : Calls Try.prog 20 #[.int .i64 p] w fun e w' => e = .returned (.tuple #[.float .f32 (wS false 0), .bool false]) ∧ Grown w w' := by
  obtain ⟨I, hI⟩ : ∃ I : Int, I = 2139095040 := ⟨_, rfl⟩
  have hinf : ∀ w : World, Calls Try.prog 39 #[.agg #[.int .i64 24, .int .i64 (-149), .int .i64 104]] w fun e w' => e = .returned (.int .i64 I) ∧ w' = ((w.alloc (.cells #[.int .i64 24, .int .i64 (-149), .int .i64 104] 66)).alloc (.cells #[.int .i64 24, .int .i64 (-149), .int .i64 104] 66)).drew := by rw [hI]; exact infi_S
  have d0 : wrap64 (-I) = -I := by unfold wrap64; omega
  have ew : wS false 0 = 0 := rfl
  rw [ew]
  clear ew
  rcases h with h | h
  · have d1 : p < -I := by omega
    clear hI h
    go_enter Try.func20, Try.ntmps20
    go_wp2_with (first | (go_at_call 51; refine (lay_near _).mono ?_; rintro e w' ⟨rfl, rfl⟩) | (go_at_call 58; refine (hfr _).mono ?_; rintro e w' ⟨rfl, rfl⟩) | (go_at_call 39; refine (hinf _).mono ?_; rintro e w' ⟨rfl, rfl⟩))
    exact bodyPost_ret (v := .tuple #[.float .f32 0, .bool false]) (by simp [results, Try.results20, go_sem] <;> simp only [*]) rfl ⟨rfl, (by repeat (with_reducible (first | assumption | exact Grown.refl _ | apply Grown.drew | apply Grown.alloc | apply gdrewN | (refine gtrans ?_ (by assumption)))))⟩
  · have d1 : ¬ (p < -I) := by omega
    have d2 : I < p := by omega
    clear hI h
    go_enter Try.func20, Try.ntmps20
    go_wp2_with (first | (go_at_call 51; refine (lay_near _).mono ?_; rintro e w' ⟨rfl, rfl⟩) | (go_at_call 58; refine (hfr _).mono ?_; rintro e w' ⟨rfl, rfl⟩) | (go_at_call 39; refine (hinf _).mono ?_; rintro e w' ⟨rfl, rfl⟩))
    exact bodyPost_ret (v := .tuple #[.float .f32 0, .bool false]) (by simp [results, Try.results20, go_sem] <;> simp only [*]) rfl ⟨rfl, (by repeat (with_reducible (first | assumption | exact Grown.refl _ | apply Grown.drew | apply Grown.alloc | apply gdrewN | (refine gtrans ?_ (by assumption)))))⟩

end Go.Proofs.Ytpmcdhhlhiobiab
