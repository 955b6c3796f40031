import Derived.Test.YtpmcdhhlhiobiacProg
import Derived.Test.YtpmcdhhlhiobiacM
import Derived.Test.YtpmcdhhlhiobiacA
import Derived.WalkKit
import Derived.ProofKit
import Derived.RowKit3
import Derived.Deep.RegionHeld3
import Derived.WalkSpells
import Derived.StillTactics
import Derived.Laws.FloatArith
import Derived.Deep.QuietTactic
import Derived.BigQuiet
namespace Go.Proofs.Ytpmcdhhlhiobiac
open Go.RowKit
set_option maxRecDepth 20000 in
set_option maxHeartbeats 400000 in
theorem isnan_int (x : Int) (w : World) : Calls Try.prog 87 #[.int .i64 x] w fun e w' => e = .returned (.bool false) ∧ w' = w := by
  go_enter Try.func87, Try.ntmps87
  go_wp2
  exact bodyPost_ret (v := .bool false) (by simp [results, Try.results87, go_sem] <;> simp only [*]) rfl ⟨rfl, rfl⟩

set_option maxRecDepth 20000 in
set_option maxHeartbeats 400000 in
theorem compare_int (x y : Int) (w : World) : Calls Try.prog 66 #[.int .i64 x, .int .i64 y] w fun e w' => e = .returned (.int .i64 (cmpz x y)) ∧ w' = w := by
  rcases (by omega : x < y ∨ y < x ∨ x = y) with c | c | c
  · have ec : cmpz x y = -1 := by unfold cmpz; simp [c]
    rw [ec]; clear ec
    go_enter Try.func66, Try.ntmps66
    go_wp2_with (first | (go_at_call 87; refine (isnan_int _ _).mono ?_; rintro e w' ⟨rfl, rfl⟩))
    exact bodyPost_ret (v := .int .i64 (-1)) (by simp [results, Try.results66, go_sem] <;> simp only [*]) rfl ⟨rfl, rfl⟩
  · have d : ¬ (x < y) := by omega
    have ec : cmpz x y = 1 := by unfold cmpz; simp [c, d]
    rw [ec]; clear ec
    go_enter Try.func66, Try.ntmps66
    go_wp2_with (first | (go_at_call 87; refine (isnan_int _ _).mono ?_; rintro e w' ⟨rfl, rfl⟩))
    exact bodyPost_ret (v := .int .i64 1) (by simp [results, Try.results66, go_sem] <;> simp only [*]) rfl ⟨rfl, rfl⟩
  · subst c
    have d : ¬ (x < x) := by omega
    have ec : cmpz x x = 0 := by unfold cmpz; simp
    rw [ec]; clear ec
    go_enter Try.func66, Try.ntmps66
    go_wp2_with (first | (go_at_call 87; refine (isnan_int _ _).mono ?_; rintro e w' ⟨rfl, rfl⟩))
    exact bodyPost_ret (v := .int .i64 0) (by simp [results, Try.results66, go_sem] <;> simp only [*]) rfl ⟨rfl, rfl⟩

set_option maxRecDepth 20000 in
set_option maxHeartbeats 1000000 in
theorem place_d (n : Bool) (m : Nat) (hm : m ≤ 9218868437227405312) (w : World) : Calls Try.prog 22 #[.float .f64 (wD n m)] w fun e w' => e = .returned (.tuple #[.int .i64 (plz n m), .bool true]) ∧ Grown w w' := by
  have hpat := patt_d n m (by omega)
  obtain ⟨I, hI⟩ : ∃ I : Int, I = 9218868437227405312 := ⟨_, rfl⟩
  have hinf : ∀ w : World, Calls Try.prog 42 #[.agg #[.int .i64 53, .int .i64 (-1074), .int .i64 971]] w fun e w' => e = .returned (.int .i64 I) ∧ w' = ((w.alloc (.cells #[.int .i64 53, .int .i64 (-1074), .int .i64 971] 70)).alloc (.cells #[.int .i64 53, .int .i64 (-1074), .int .i64 971] 70)).drew := by rw [hI]; exact infi_D
  have d1 : ¬ (I < (m : Int)) := by omega
  have d2 : wrap64 (-(m : Int)) = -(m : Int) := by unfold wrap64; omega
  clear hI hm
  cases n
  · have ec : plz false m = (m : Int) := rfl
    rw [ec]
    clear ec d2
    go_enter Try.func22, Try.ntmps22
    go_wp2_with (first | (go_at_call 41; refine (lay_d _).mono ?_; rintro e w' ⟨rfl, rfl⟩) | (go_at_call 54; refine (hpat _).mono ?_; rintro e w' ⟨rfl, rfl⟩) | (go_at_call 42; refine (hinf _).mono ?_; rintro e w' ⟨rfl, rfl⟩))
    exact bodyPost_ret (v := .tuple #[.int .i64 (m : Int), .bool true]) (by simp [results, Try.results22, go_sem] <;> simp only [*]) rfl ⟨rfl, (by repeat (with_reducible (first | assumption | exact Grown.refl _ | apply Grown.drew | apply Grown.alloc | apply gdrewN | (refine gtrans ?_ (by assumption)))))⟩
  · have ec : plz true m = -(m : Int) := rfl
    rw [ec]
    clear ec
    go_enter Try.func22, Try.ntmps22
    go_wp2_with (first | (go_at_call 41; refine (lay_d _).mono ?_; rintro e w' ⟨rfl, rfl⟩) | (go_at_call 54; refine (hpat _).mono ?_; rintro e w' ⟨rfl, rfl⟩) | (go_at_call 42; refine (hinf _).mono ?_; rintro e w' ⟨rfl, rfl⟩))
    exact bodyPost_ret (v := .tuple #[.int .i64 (-(m : Int)), .bool true]) (by simp [results, Try.results22, go_sem] <;> simp only [*]) rfl ⟨rfl, (by repeat (with_reducible (first | assumption | exact Grown.refl _ | apply Grown.drew | apply Grown.alloc | apply gdrewN | (refine gtrans ?_ (by assumption)))))⟩

set_option maxRecDepth 20000 in
set_option maxHeartbeats 1000000 in
theorem placen_d (n : Bool) (m : Nat) (hm : 9218868437227405312 < m) (h2 : m < 9223372036854775808) (w : World) : Calls Try.prog 22 #[.float .f64 (wD n m)] w fun e w' => e = .returned (.tuple #[.int .i64 0, .bool false]) ∧ Grown w w' := by
  have hpat := patt_d n m h2
  obtain ⟨I, hI⟩ : ∃ I : Int, I = 9218868437227405312 := ⟨_, rfl⟩
  have hinf : ∀ w : World, Calls Try.prog 42 #[.agg #[.int .i64 53, .int .i64 (-1074), .int .i64 971]] w fun e w' => e = .returned (.int .i64 I) ∧ w' = ((w.alloc (.cells #[.int .i64 53, .int .i64 (-1074), .int .i64 971] 70)).alloc (.cells #[.int .i64 53, .int .i64 (-1074), .int .i64 971] 70)).drew := by rw [hI]; exact infi_D
  have d1 : I < (m : Int) := by omega
  clear hI hm h2
  go_enter Try.func22, Try.ntmps22
  go_wp2_with (first | (go_at_call 41; refine (lay_d _).mono ?_; rintro e w' ⟨rfl, rfl⟩) | (go_at_call 54; refine (hpat _).mono ?_; rintro e w' ⟨rfl, rfl⟩) | (go_at_call 42; refine (hinf _).mono ?_; rintro e w' ⟨rfl, rfl⟩))
  exact bodyPost_ret (v := .tuple #[.int .i64 0, .bool false]) (by simp [results, Try.results22, go_sem] <;> simp only [*]) rfl ⟨rfl, (by repeat (with_reducible (first | assumption | exact Grown.refl _ | apply Grown.drew | apply Grown.alloc | apply gdrewN | (refine gtrans ?_ (by assumption)))))⟩

set_option maxRecDepth 20000 in
set_option maxHeartbeats 1000000 in
theorem at_d (p : Int) (h1 : -9218868437227405312 ≤ p) (h2 : p ≤ 9218868437227405312) (w : World) : Calls Try.prog 43 #[.int .i64 p] w fun e w' => e = .returned (.tuple #[.float .f64 (fD p), .bool true]) ∧ Grown w w' := by
  obtain ⟨I, hI⟩ : ∃ I : Int, I = 9218868437227405312 := ⟨_, rfl⟩
  have hinf : ∀ w : World, Calls Try.prog 42 #[.agg #[.int .i64 53, .int .i64 (-1074), .int .i64 971]] w fun e w' => e = .returned (.int .i64 I) ∧ w' = ((w.alloc (.cells #[.int .i64 53, .int .i64 (-1074), .int .i64 971] 70)).alloc (.cells #[.int .i64 53, .int .i64 (-1074), .int .i64 971] 70)).drew := by rw [hI]; exact infi_D
  have d1 : ¬ (p < -I) := by omega
  have d2 : ¬ (I < p) := by omega
  have d0 : wrap64 (-I) = -I := by unfold wrap64; omega
  by_cases c : p < 0
  · have ef : fD p = wD true p.natAbs := by unfold fD; simp [c]
    rw [ef]
    have e2 : wrap64 (-p) = ((p.natAbs : Nat) : Int) := by unfold wrap64; omega
    have hfr := from_d p.natAbs (by omega)
    obtain ⟨a, ha⟩ : ∃ a : Nat, a = p.natAbs := ⟨_, rfl⟩
    rw [← ha] at e2 hfr ⊢
    have hng : Op.unary .neg (.float .f64 (wD false a)) = pure (.float .f64 (wD true a)) := by
      show pure (Value.float .f64 (Op.negFloat .f64 (wD false a))) = _
      rw [negD false a (by omega)]; rfl
    clear hI h1 h2 ef ha
    go_enter Try.func43, Try.ntmps43
    go_wp2_with (first | (go_at_call 41; refine (lay_d _).mono ?_; rintro e w' ⟨rfl, rfl⟩) | (go_at_call 74; refine (hfr _).mono ?_; rintro e w' ⟨rfl, rfl⟩) | (go_at_call 42; refine (hinf _).mono ?_; rintro e w' ⟨rfl, rfl⟩))
    exact bodyPost_ret (v := .tuple #[.float .f64 (wD true a), .bool true]) (by simp [results, Try.results43, go_sem] <;> simp only [*]) rfl ⟨rfl, (by repeat (with_reducible (first | assumption | exact Grown.refl _ | apply Grown.drew | apply Grown.alloc | apply gdrewN | (refine gtrans ?_ (by assumption)))))⟩
  · have ef : fD p = wD false p.natAbs := by unfold fD; simp [c]
    rw [ef]
    have e2 : p = ((p.natAbs : Nat) : Int) := by omega
    have hfr : ∀ w : World, Calls Try.prog 74 #[.int .i64 p] w fun e w' => e = .returned (.float .f64 (wD false p.natAbs)) ∧ w' = w := by
      have := from_d p.natAbs (by omega)
      rw [← e2] at this; exact this
    obtain ⟨a, ha⟩ : ∃ a : Nat, a = p.natAbs := ⟨_, rfl⟩
    rw [← ha] at hfr ⊢
    clear hI h1 h2 ef ha e2
    go_enter Try.func43, Try.ntmps43
    go_wp2_with (first | (go_at_call 41; refine (lay_d _).mono ?_; rintro e w' ⟨rfl, rfl⟩) | (go_at_call 74; refine (hfr _).mono ?_; rintro e w' ⟨rfl, rfl⟩) | (go_at_call 42; refine (hinf _).mono ?_; rintro e w' ⟨rfl, rfl⟩))
    exact bodyPost_ret (v := .tuple #[.float .f64 (wD false a), .bool true]) (by simp [results, Try.results43, go_sem] <;> simp only [*]) rfl ⟨rfl, (by repeat (with_reducible (first | assumption | exact Grown.refl _ | apply Grown.drew | apply Grown.alloc | apply gdrewN | (refine gtrans ?_ (by assumption)))))⟩

set_option maxRecDepth 20000 in
set_option maxHeartbeats 1000000 in
theorem atx_d (p : Int) (h : p < -9218868437227405312 ∨ 9218868437227405312 < p) (w : World) : Calls Try.prog 43 #[.int .i64 p] w fun e w' => e = .returned (.tuple #[.float .f64 (wD false 0), .bool false]) ∧ Grown w w' := by
  obtain ⟨I, hI⟩ : ∃ I : Int, I = 9218868437227405312 := ⟨_, rfl⟩
  have hinf : ∀ w : World, Calls Try.prog 42 #[.agg #[.int .i64 53, .int .i64 (-1074), .int .i64 971]] w fun e w' => e = .returned (.int .i64 I) ∧ w' = ((w.alloc (.cells #[.int .i64 53, .int .i64 (-1074), .int .i64 971] 70)).alloc (.cells #[.int .i64 53, .int .i64 (-1074), .int .i64 971] 70)).drew := by rw [hI]; exact infi_D
  have d0 : wrap64 (-I) = -I := by unfold wrap64; omega
  have ew : wD false 0 = 0 := rfl
  rw [ew]
  clear ew
  rcases h with h | h
  · have d1 : p < -I := by omega
    clear hI h
    go_enter Try.func43, Try.ntmps43
    go_wp2_with (first | (go_at_call 41; refine (lay_d _).mono ?_; rintro e w' ⟨rfl, rfl⟩) | (go_at_call 74; refine (hfr _).mono ?_; rintro e w' ⟨rfl, rfl⟩) | (go_at_call 42; refine (hinf _).mono ?_; rintro e w' ⟨rfl, rfl⟩))
    exact bodyPost_ret (v := .tuple #[.float .f64 0, .bool false]) (by simp [results, Try.results43, go_sem] <;> simp only [*]) rfl ⟨rfl, (by repeat (with_reducible (first | assumption | exact Grown.refl _ | apply Grown.drew | apply Grown.alloc | apply gdrewN | (refine gtrans ?_ (by assumption)))))⟩
  · have d1 : ¬ (p < -I) := by omega
    have d2 : I < p := by omega
    clear hI h
    go_enter Try.func43, Try.ntmps43
    go_wp2_with (first | (go_at_call 41; refine (lay_d _).mono ?_; rintro e w' ⟨rfl, rfl⟩) | (go_at_call 74; refine (hfr _).mono ?_; rintro e w' ⟨rfl, rfl⟩) | (go_at_call 42; refine (hinf _).mono ?_; rintro e w' ⟨rfl, rfl⟩))
    exact bodyPost_ret (v := .tuple #[.float .f64 0, .bool false]) (by simp [results, Try.results43, go_sem] <;> simp only [*]) rfl ⟨rfl, (by repeat (with_reducible (first | assumption | exact Grown.refl _ | apply Grown.drew | apply Grown.alloc | apply gdrewN | (refine gtrans ?_ (by assumption)))))⟩

set_option maxRecDepth 20000 in
set_option maxHeartbeats 1000000 in
theorem up_d (n : Bool) (m : Nat) (hm : m ≤ 9218868437227405312) (h2 : plz n m ≠ 9218868437227405312) (w : World) : Calls Try.prog 14 #[.float .f64 (wD n m)] w fun e w' => e = .returned (.float .f64 (fD (plz n m + 1))) ∧ Grown w w' := by
  have hpl := place_d n m hm
  obtain ⟨I, hI⟩ : ∃ I : Int, I = 9218868437227405312 := ⟨_, rfl⟩
  have hinf : ∀ w : World, Calls Try.prog 42 #[.agg #[.int .i64 53, .int .i64 (-1074), .int .i64 971]] w fun e w' => e = .returned (.int .i64 I) ∧ w' = ((w.alloc (.cells #[.int .i64 53, .int .i64 (-1074), .int .i64 971] 70)).alloc (.cells #[.int .i64 53, .int .i64 (-1074), .int .i64 971] 70)).drew := by rw [hI]; exact infi_D
  have hb := plz_bd n m
  obtain ⟨p, hp⟩ : ∃ p : Int, p = plz n m := ⟨_, rfl⟩
  rw [← hp] at hpl h2 hb ⊢
  have hat := at_d (p + 1) (by omega) (by omega)
  have d1 : (p == I) = false := by simp; omega
  have d2 : wrap64 (p + 1) = p + 1 := by unfold wrap64; omega
  have d3 : ¬ (p = I) := by omega
  clear hI hm h2 hb hp
  go_enter Try.func14, Try.ntmps14
  go_wp2_with (first | (go_at_call 41; refine (lay_d _).mono ?_; rintro e w' ⟨rfl, rfl⟩) | (go_at_call 42; refine (hinf _).mono ?_; rintro e w' ⟨rfl, rfl⟩) | (go_at_call 22; refine (hpl _).mono ?_; rintro e w' ⟨rfl, g1⟩) | (go_at_call 43; refine (hat _).mono ?_; rintro e w' ⟨rfl, g2⟩))
  exact bodyPost_ret (v := .float .f64 (fD (p + 1))) (by simp [results, Try.results14, go_sem] <;> simp only [*]) rfl ⟨rfl, (by repeat (with_reducible (first | assumption | exact Grown.refl _ | apply Grown.drew | apply Grown.alloc | apply gdrewN | (refine gtrans ?_ (by assumption)))))⟩

set_option maxRecDepth 20000 in
set_option maxHeartbeats 1000000 in
theorem upn_d (n : Bool) (m : Nat) (hm : 9218868437227405312 < m) (h2 : m < 9223372036854775808) (w : World) : Calls Try.prog 14 #[.float .f64 (wD n m)] w fun e w' => e = .returned (.float .f64 (wD n m)) ∧ Grown w w' := by
  have hpl := placen_d n m hm h2
  clear hm h2
  go_enter Try.func14, Try.ntmps14
  go_wp2_with (first | (go_at_call 22; refine (hpl _).mono ?_; rintro e w' ⟨rfl, g1⟩))
  exact bodyPost_ret (v := .float .f64 (wD n m)) (by simp [results, Try.results14, go_sem] <;> simp only [*]) rfl ⟨rfl, (by repeat (with_reducible (first | assumption | exact Grown.refl _ | apply Grown.drew | apply Grown.alloc | apply gdrewN | (refine gtrans ?_ (by assumption)))))⟩

set_option maxRecDepth 20000 in
set_option maxHeartbeats 1000000 in
theorem upe_d (w : World) : Calls Try.prog 14 #[.float .f64 (wD false 9218868437227405312)] w fun e w' => e = .returned (.float .f64 (wD false 9218868437227405312)) ∧ Grown w w' := by
  have hpl := place_d false 9218868437227405312 (by omega)
  obtain ⟨I, hI⟩ : ∃ I : Int, I = 9218868437227405312 := ⟨_, rfl⟩
  have hinf : ∀ w : World, Calls Try.prog 42 #[.agg #[.int .i64 53, .int .i64 (-1074), .int .i64 971]] w fun e w' => e = .returned (.int .i64 I) ∧ w' = ((w.alloc (.cells #[.int .i64 53, .int .i64 (-1074), .int .i64 971] 70)).alloc (.cells #[.int .i64 53, .int .i64 (-1074), .int .i64 971] 70)).drew := by rw [hI]; exact infi_D
  have ep : plz false 9218868437227405312 = I := by rw [hI]; rfl
  rw [ep] at hpl
  clear hI ep
  obtain ⟨M, hM⟩ : ∃ M : Nat, M = 9218868437227405312 := ⟨_, rfl⟩
  rw [← hM] at hpl ⊢
  clear hM
  go_enter Try.func14, Try.ntmps14
  go_wp2_with (first | (go_at_call 41; refine (lay_d _).mono ?_; rintro e w' ⟨rfl, rfl⟩) | (go_at_call 42; refine (hinf _).mono ?_; rintro e w' ⟨rfl, rfl⟩) | (go_at_call 22; refine (hpl _).mono ?_; rintro e w' ⟨rfl, g1⟩))
  exact bodyPost_ret (v := .float .f64 (wD false M)) (by simp [results, Try.results14, go_sem] <;> simp only [*]) rfl ⟨rfl, (by repeat (with_reducible (first | assumption | exact Grown.refl _ | apply Grown.drew | apply Grown.alloc | apply gdrewN | (refine gtrans ?_ (by assumption)))))⟩

set_option maxRecDepth 20000 in
set_option maxHeartbeats 1000000 in
theorem dn_d (n : Bool) (m : Nat) (hm : m ≤ 9218868437227405312) (h2 : plz n m ≠ -9218868437227405312) (w : World) : Calls Try.prog 28 #[.float .f64 (wD n m)] w fun e w' => e = .returned (.float .f64 (fD (plz n m - 1))) ∧ Grown w w' := by
  have hpl := place_d n m hm
  obtain ⟨I, hI⟩ : ∃ I : Int, I = 9218868437227405312 := ⟨_, rfl⟩
  have hinf : ∀ w : World, Calls Try.prog 42 #[.agg #[.int .i64 53, .int .i64 (-1074), .int .i64 971]] w fun e w' => e = .returned (.int .i64 I) ∧ w' = ((w.alloc (.cells #[.int .i64 53, .int .i64 (-1074), .int .i64 971] 70)).alloc (.cells #[.int .i64 53, .int .i64 (-1074), .int .i64 971] 70)).drew := by rw [hI]; exact infi_D
  have hb := plz_bd n m
  obtain ⟨p, hp⟩ : ∃ p : Int, p = plz n m := ⟨_, rfl⟩
  rw [← hp] at hpl h2 hb ⊢
  have hat := at_d (p - 1) (by omega) (by omega)
  have d1 : (p == -I) = false := by simp; omega
  have d2 : wrap64 (p - 1) = p - 1 := by unfold wrap64; omega
  have d0 : wrap64 (-I) = -I := by unfold wrap64; omega
  have d3 : ¬ (p = -I) := by omega
  clear hI hm h2 hb hp
  go_enter Try.func28, Try.ntmps28
  go_wp2_with (first | (go_at_call 41; refine (lay_d _).mono ?_; rintro e w' ⟨rfl, rfl⟩) | (go_at_call 42; refine (hinf _).mono ?_; rintro e w' ⟨rfl, rfl⟩) | (go_at_call 22; refine (hpl _).mono ?_; rintro e w' ⟨rfl, g1⟩) | (go_at_call 43; refine (hat _).mono ?_; rintro e w' ⟨rfl, g2⟩))
  exact bodyPost_ret (v := .float .f64 (fD (p - 1))) (by simp [results, Try.results28, go_sem] <;> simp only [*]) rfl ⟨rfl, (by repeat (with_reducible (first | assumption | exact Grown.refl _ | apply Grown.drew | apply Grown.alloc | apply gdrewN | (refine gtrans ?_ (by assumption)))))⟩

set_option maxRecDepth 20000 in
set_option maxHeartbeats 1000000 in
theorem dnn_d (n : Bool) (m : Nat) (hm : 9218868437227405312 < m) (h2 : m < 9223372036854775808) (w : World) : Calls Try.prog 28 #[.float .f64 (wD n m)] w fun e w' => e = .returned (.float .f64 (wD n m)) ∧ Grown w w' := by
  have hpl := placen_d n m hm h2
  clear hm h2
  go_enter Try.func28, Try.ntmps28
  go_wp2_with (first | (go_at_call 22; refine (hpl _).mono ?_; rintro e w' ⟨rfl, g1⟩))
  exact bodyPost_ret (v := .float .f64 (wD n m)) (by simp [results, Try.results28, go_sem] <;> simp only [*]) rfl ⟨rfl, (by repeat (with_reducible (first | assumption | exact Grown.refl _ | apply Grown.drew | apply Grown.alloc | apply gdrewN | (refine gtrans ?_ (by assumption)))))⟩

set_option maxRecDepth 20000 in
set_option maxHeartbeats 1000000 in
theorem dne_d (w : World) : Calls Try.prog 28 #[.float .f64 (wD true 9218868437227405312)] w fun e w' => e = .returned (.float .f64 (wD true 9218868437227405312)) ∧ Grown w w' := by
  have hpl := place_d true 9218868437227405312 (by omega)
  obtain ⟨I, hI⟩ : ∃ I : Int, I = 9218868437227405312 := ⟨_, rfl⟩
  have hinf : ∀ w : World, Calls Try.prog 42 #[.agg #[.int .i64 53, .int .i64 (-1074), .int .i64 971]] w fun e w' => e = .returned (.int .i64 I) ∧ w' = ((w.alloc (.cells #[.int .i64 53, .int .i64 (-1074), .int .i64 971] 70)).alloc (.cells #[.int .i64 53, .int .i64 (-1074), .int .i64 971] 70)).drew := by rw [hI]; exact infi_D
  have ep : plz true 9218868437227405312 = -I := by rw [hI]; rfl
  rw [ep] at hpl
  have d0 : wrap64 (-I) = -I := by unfold wrap64; omega
  clear hI ep
  obtain ⟨M, hM⟩ : ∃ M : Nat, M = 9218868437227405312 := ⟨_, rfl⟩
  rw [← hM] at hpl ⊢
  clear hM
  go_enter Try.func28, Try.ntmps28
  go_wp2_with (first | (go_at_call 41; refine (lay_d _).mono ?_; rintro e w' ⟨rfl, rfl⟩) | (go_at_call 42; refine (hinf _).mono ?_; rintro e w' ⟨rfl, rfl⟩) | (go_at_call 22; refine (hpl _).mono ?_; rintro e w' ⟨rfl, g1⟩))
  exact bodyPost_ret (v := .float .f64 (wD true M)) (by simp [results, Try.results28, go_sem] <;> simp only [*]) rfl ⟨rfl, (by repeat (with_reducible (first | assumption | exact Grown.refl _ | apply Grown.drew | apply Grown.alloc | apply gdrewN | (refine gtrans ?_ (by assumption)))))⟩

set_option maxRecDepth 20000 in
set_option maxHeartbeats 1000000 in
theorem plain_d (n : Bool) (m : Nat) (h2 : m < 9223372036854775808) (w : World) : Calls Try.prog 55 #[.float .f64 (wD n m)] w fun e w' => e = .returned (.float .f64 (wD (n && !(m == 0)) m)) ∧ w' = w := by
  have ho := eqzD n m h2
  by_cases c : m = 0
  · subst c
    have ew : wD (n && !((0 : Nat) == 0)) 0 = 0 := by simp [wD]
    rw [ew]
    clear ew
    have ho2 : (FloatKind.f64.format.order (wD n 0) 0 == some .eq) = true := by rw [ho]; rfl
    clear ho
    go_enter Try.func55, Try.ntmps55
    go_wp2
    exact bodyPost_ret (v := .float .f64 0) (by simp [results, Try.results55, go_sem] <;> simp only [*]) rfl ⟨rfl, rfl⟩
  · have ew : (n && !(m == 0)) = n := by simp [c]
    rw [ew]
    clear ew
    have ho2 : (FloatKind.f64.format.order (wD n m) 0 == some .eq) = false := by rw [ho]; simp [c]
    clear ho c
    go_enter Try.func55, Try.ntmps55
    go_wp2
    exact bodyPost_ret (v := .float .f64 (wD n m)) (by simp [results, Try.results55, go_sem] <;> simp only [*]) rfl ⟨rfl, rfl⟩

set_option maxRecDepth 20000 in
set_option maxHeartbeats 1000000 in
theorem rank_d (n : Bool) (m : Nat) (h2 : m < 9223372036854775808) (w : World) : Calls Try.prog 67 #[.float .f64 (wD n m)] w fun e w' => e = .returned (.int .i64 (rkD n m)) ∧ Grown w w' := by
  have hpat := patt_d n m h2
  by_cases c : 9218868437227405312 < m
  · have hpl := placen_d n m c h2
    have er : rkD n m = 9223372036854775807 := by unfold rkD rkG; simp [c]
    rw [er]
    clear er c h2
    go_enter Try.func67, Try.ntmps67
    go_wp2_with (first | (go_at_call 22; refine (hpl _).mono ?_; rintro e w' ⟨rfl, g1⟩) | (go_at_call 54; refine (hpat _).mono ?_; rintro e w' ⟨rfl, rfl⟩))
    exact bodyPost_ret (v := .int .i64 9223372036854775807) (by simp [results, Try.results67, go_sem] <;> simp only [*]) rfl ⟨rfl, (by repeat (with_reducible (first | assumption | exact Grown.refl _ | apply Grown.drew | apply Grown.alloc | apply gdrewN | (refine gtrans ?_ (by assumption)))))⟩
  · have hpl := place_d n m (by omega)
    have hb := plz_bd n m
    have er : rkD n m = plz n m - (if n then 1 else 0) := by unfold rkD rkG; simp [c]
    rw [er]
    clear er
    obtain ⟨p, hp⟩ : ∃ p : Int, p = plz n m := ⟨_, rfl⟩
    rw [← hp] at hpl hb ⊢
    have d2 : wrap64 (p - 1) = p - 1 := by unfold wrap64; omega
    have d3 : p - 0 = p := by omega
    clear h2 c hb hp
    cases n
    · simp only [Bool.false_eq_true, if_false, d3]
      go_enter Try.func67, Try.ntmps67
      go_wp2_with (first | (go_at_call 22; refine (hpl _).mono ?_; rintro e w' ⟨rfl, g1⟩) | (go_at_call 54; refine (hpat _).mono ?_; rintro e w' ⟨rfl, rfl⟩))
      exact bodyPost_ret (v := .int .i64 p) (by simp [results, Try.results67, go_sem] <;> simp only [*]) rfl ⟨rfl, (by repeat (with_reducible (first | assumption | exact Grown.refl _ | apply Grown.drew | apply Grown.alloc | apply gdrewN | (refine gtrans ?_ (by assumption)))))⟩
    · simp only [if_true]
      go_enter Try.func67, Try.ntmps67
      go_wp2_with (first | (go_at_call 22; refine (hpl _).mono ?_; rintro e w' ⟨rfl, g1⟩) | (go_at_call 54; refine (hpat _).mono ?_; rintro e w' ⟨rfl, rfl⟩))
      exact bodyPost_ret (v := .int .i64 (p - 1)) (by simp [results, Try.results67, go_sem] <;> simp only [*]) rfl ⟨rfl, (by repeat (with_reducible (first | assumption | exact Grown.refl _ | apply Grown.drew | apply Grown.alloc | apply gdrewN | (refine gtrans ?_ (by assumption)))))⟩

set_option maxRecDepth 20000 in
set_option maxHeartbeats 400000 in
theorem order_d (n n' : Bool) (m m' : Nat) (h2 : m < 9223372036854775808) (h3 : m' < 9223372036854775808) (w : World) : Calls Try.prog 27 #[.float .f64 (wD n m), .float .f64 (wD n' m')] w fun e w' => e = .returned (.int .i64 (cmpz (rkD n m) (rkD n' m'))) ∧ Grown w w' := by
  have hr1 := rank_d n m h2
  have hr2 := rank_d n' m' h3
  obtain ⟨x, hx⟩ : ∃ x : Nat, x = wD n m := ⟨_, rfl⟩
  obtain ⟨y, hy⟩ : ∃ y : Nat, y = wD n' m' := ⟨_, rfl⟩
  rw [← hx] at hr1 ⊢
  rw [← hy] at hr2 ⊢
  clear hx hy
  go_enter Try.func27, Try.ntmps27
  go_wp2_with fail
  refine (hr1 _).mono ?_; rintro e w' ⟨rfl, g1⟩
  go_wp2_with fail
  refine (hr2 _).mono ?_; rintro e w' ⟨rfl, g2⟩
  go_wp2_with (first | (go_at_call 66; refine (compare_int _ _ _).mono ?_; rintro e w' ⟨rfl, rfl⟩))
  exact bodyPost_ret (v := .int .i64 (cmpz (rkD n m) (rkD n' m'))) (by simp [results, Try.results27, go_sem] <;> simp only [*]) rfl ⟨rfl, (by repeat (with_reducible (first | assumption | exact Grown.refl _ | apply Grown.drew | apply Grown.alloc | apply gdrewN | (refine gtrans ?_ (by assumption)))))⟩

set_option maxRecDepth 20000 in
set_option maxHeartbeats 1000000 in
theorem place_far (n : Bool) (m : Nat) (hm : m ≤ 9218868437227405312) (w : World) : Calls Try.prog 58 #[.float .f64 (wD n m)] w fun e w' => e = .returned (.tuple #[.int .i64 (plz n m), .bool true]) ∧ Grown w w' := by
  have hpat := patt_far n m (by omega)
  obtain ⟨I, hI⟩ : ∃ I : Int, I = 9218868437227405312 := ⟨_, rfl⟩
  have hinf : ∀ w : World, Calls Try.prog 42 #[.agg #[.int .i64 53, .int .i64 (-1074), .int .i64 971]] w fun e w' => e = .returned (.int .i64 I) ∧ w' = ((w.alloc (.cells #[.int .i64 53, .int .i64 (-1074), .int .i64 971] 70)).alloc (.cells #[.int .i64 53, .int .i64 (-1074), .int .i64 971] 70)).drew := by rw [hI]; exact infi_D
  have d1 : ¬ (I < (m : Int)) := by omega
  have d2 : wrap64 (-(m : Int)) = -(m : Int) := by unfold wrap64; omega
  clear hI hm
  cases n
  · have ec : plz false m = (m : Int) := rfl
    rw [ec]
    clear ec d2
    go_enter Try.func58, Try.ntmps58
    go_wp2_with (first | (go_at_call 78; refine (lay_far _).mono ?_; rintro e w' ⟨rfl, rfl⟩) | (go_at_call 81; refine (hpat _).mono ?_; rintro e w' ⟨rfl, rfl⟩) | (go_at_call 42; refine (hinf _).mono ?_; rintro e w' ⟨rfl, rfl⟩))
    exact bodyPost_ret (v := .tuple #[.int .i64 (m : Int), .bool true]) (by simp [results, Try.results58, go_sem] <;> simp only [*]) rfl ⟨rfl, (by repeat (with_reducible (first | assumption | exact Grown.refl _ | apply Grown.drew | apply Grown.alloc | apply gdrewN | (refine gtrans ?_ (by assumption)))))⟩
  · have ec : plz true m = -(m : Int) := rfl
    rw [ec]
    clear ec
    go_enter Try.func58, Try.ntmps58
    go_wp2_with (first | (go_at_call 78; refine (lay_far _).mono ?_; rintro e w' ⟨rfl, rfl⟩) | (go_at_call 81; refine (hpat _).mono ?_; rintro e w' ⟨rfl, rfl⟩) | (go_at_call 42; refine (hinf _).mono ?_; rintro e w' ⟨rfl, rfl⟩))
    exact bodyPost_ret (v := .tuple #[.int .i64 (-(m : Int)), .bool true]) (by simp [results, Try.results58, go_sem] <;> simp only [*]) rfl ⟨rfl, (by repeat (with_reducible (first | assumption | exact Grown.refl _ | apply Grown.drew | apply Grown.alloc | apply gdrewN | (refine gtrans ?_ (by assumption)))))⟩

set_option maxRecDepth 20000 in
set_option maxHeartbeats 1000000 in
theorem placen_far (n : Bool) (m : Nat) (hm : 9218868437227405312 < m) (h2 : m < 9223372036854775808) (w : World) : Calls Try.prog 58 #[.float .f64 (wD n m)] w fun e w' => e = .returned (.tuple #[.int .i64 0, .bool false]) ∧ Grown w w' := by
  have hpat := patt_far n m h2
  obtain ⟨I, hI⟩ : ∃ I : Int, I = 9218868437227405312 := ⟨_, rfl⟩
  have hinf : ∀ w : World, Calls Try.prog 42 #[.agg #[.int .i64 53, .int .i64 (-1074), .int .i64 971]] w fun e w' => e = .returned (.int .i64 I) ∧ w' = ((w.alloc (.cells #[.int .i64 53, .int .i64 (-1074), .int .i64 971] 70)).alloc (.cells #[.int .i64 53, .int .i64 (-1074), .int .i64 971] 70)).drew := by rw [hI]; exact infi_D
  have d1 : I < (m : Int) := by omega
  clear hI hm h2
  go_enter Try.func58, Try.ntmps58
  go_wp2_with (first | (go_at_call 78; refine (lay_far _).mono ?_; rintro e w' ⟨rfl, rfl⟩) | (go_at_call 81; refine (hpat _).mono ?_; rintro e w' ⟨rfl, rfl⟩) | (go_at_call 42; refine (hinf _).mono ?_; rintro e w' ⟨rfl, rfl⟩))
  exact bodyPost_ret (v := .tuple #[.int .i64 0, .bool false]) (by simp [results, Try.results58, go_sem] <;> simp only [*]) rfl ⟨rfl, (by repeat (with_reducible (first | assumption | exact Grown.refl _ | apply Grown.drew | apply Grown.alloc | apply gdrewN | (refine gtrans ?_ (by assumption)))))⟩

set_option maxRecDepth 20000 in
set_option maxHeartbeats 1000000 in
theorem at_far (p : Int) (h1 : -9218868437227405312 ≤ p) (h2 : p ≤ 9218868437227405312) (w : World) : Calls Try.prog 59 #[.int .i64 p] w fun e w' => e = .returned (.tuple #[.float .f64 (fD p), .bool true]) ∧ Grown w w' := by
  obtain ⟨I, hI⟩ : ∃ I : Int, I = 9218868437227405312 := ⟨_, rfl⟩
  have hinf : ∀ w : World, Calls Try.prog 42 #[.agg #[.int .i64 53, .int .i64 (-1074), .int .i64 971]] w fun e w' => e = .returned (.int .i64 I) ∧ w' = ((w.alloc (.cells #[.int .i64 53, .int .i64 (-1074), .int .i64 971] 70)).alloc (.cells #[.int .i64 53, .int .i64 (-1074), .int .i64 971] 70)).drew := by rw [hI]; exact infi_D
  have d1 : ¬ (p < -I) := by omega
  have d2 : ¬ (I < p) := by omega
  have d0 : wrap64 (-I) = -I := by unfold wrap64; omega
  by_cases c : p < 0
  · have ef : fD p = wD true p.natAbs := by unfold fD; simp [c]
    rw [ef]
    have e2 : wrap64 (-p) = ((p.natAbs : Nat) : Int) := by unfold wrap64; omega
    have hfr := from_far p.natAbs (by omega)
    obtain ⟨a, ha⟩ : ∃ a : Nat, a = p.natAbs := ⟨_, rfl⟩
    rw [← ha] at e2 hfr ⊢
    have hng : Op.unary .neg (.float .f64 (wD false a)) = pure (.float .f64 (wD true a)) := by
      show pure (Value.float .f64 (Op.negFloat .f64 (wD false a))) = _
      rw [negD false a (by omega)]; rfl
    clear hI h1 h2 ef ha
    go_enter Try.func59, Try.ntmps59
    go_wp2_with (first | (go_at_call 78; refine (lay_far _).mono ?_; rintro e w' ⟨rfl, rfl⟩) | (go_at_call 82; refine (hfr _).mono ?_; rintro e w' ⟨rfl, rfl⟩) | (go_at_call 42; refine (hinf _).mono ?_; rintro e w' ⟨rfl, rfl⟩))
    exact bodyPost_ret (v := .tuple #[.float .f64 (wD true a), .bool true]) (by simp [results, Try.results59, go_sem] <;> simp only [*]) rfl ⟨rfl, (by repeat (with_reducible (first | assumption | exact Grown.refl _ | apply Grown.drew | apply Grown.alloc | apply gdrewN | (refine gtrans ?_ (by assumption)))))⟩
  · have ef : fD p = wD false p.natAbs := by unfold fD; simp [c]
    rw [ef]
    have e2 : p = ((p.natAbs : Nat) : Int) := by omega
    have hfr : ∀ w : World, Calls Try.prog 82 #[.int .i64 p] w fun e w' => e = .returned (.float .f64 (wD false p.natAbs)) ∧ w' = w := by
      have := from_far p.natAbs (by omega)
      rw [← e2] at this; exact this
    obtain ⟨a, ha⟩ : ∃ a : Nat, a = p.natAbs := ⟨_, rfl⟩
    rw [← ha] at hfr ⊢
    clear hI h1 h2 ef ha e2
    go_enter Try.func59, Try.ntmps59
    go_wp2_with (first | (go_at_call 78; refine (lay_far _).mono ?_; rintro e w' ⟨rfl, rfl⟩) | (go_at_call 82; refine (hfr _).mono ?_; rintro e w' ⟨rfl, rfl⟩) | (go_at_call 42; refine (hinf _).mono ?_; rintro e w' ⟨rfl, rfl⟩))
    exact bodyPost_ret (v := .tuple #[.float .f64 (wD false a), .bool true]) (by simp [results, Try.results59, go_sem] <;> simp only [*]) rfl ⟨rfl, (by repeat (with_reducible (first | assumption | exact Grown.refl _ | apply Grown.drew | apply Grown.alloc | apply gdrewN | (refine gtrans ?_ (by assumption)))))⟩

set_option maxRecDepth 20000 in
set_option maxHeartbeats 1000000 in
theorem atx_far (p : Int) (h : p < -9218868437227405312 ∨ 9218868437227405312 < p) (w : World) : Calls Try.prog 59 #[.int .i64 p] w fun e w' => e = .returned (.tuple #[.float .f64 (wD false 0), .bool false]) ∧ Grown w w' := by
  obtain ⟨I, hI⟩ : ∃ I : Int, I = 9218868437227405312 := ⟨_, rfl⟩
  have hinf : ∀ w : World, Calls Try.prog 42 #[.agg #[.int .i64 53, .int .i64 (-1074), .int .i64 971]] w fun e w' => e = .returned (.int .i64 I) ∧ w' = ((w.alloc (.cells #[.int .i64 53, .int .i64 (-1074), .int .i64 971] 70)).alloc (.cells #[.int .i64 53, .int .i64 (-1074), .int .i64 971] 70)).drew := by rw [hI]; exact infi_D
  have d0 : wrap64 (-I) = -I := by unfold wrap64; omega
  have ew : wD false 0 = 0 := rfl
  rw [ew]
  clear ew
  rcases h with h | h
  · have d1 : p < -I := by omega
    clear hI h
    go_enter Try.func59, Try.ntmps59
    go_wp2_with (first | (go_at_call 78; refine (lay_far _).mono ?_; rintro e w' ⟨rfl, rfl⟩) | (go_at_call 82; refine (hfr _).mono ?_; rintro e w' ⟨rfl, rfl⟩) | (go_at_call 42; refine (hinf _).mono ?_; rintro e w' ⟨rfl, rfl⟩))
    exact bodyPost_ret (v := .tuple #[.float .f64 0, .bool false]) (by simp [results, Try.results59, go_sem] <;> simp only [*]) rfl ⟨rfl, (by repeat (with_reducible (first | assumption | exact Grown.refl _ | apply Grown.drew | apply Grown.alloc | apply gdrewN | (refine gtrans ?_ (by assumption)))))⟩
  · have d1 : ¬ (p < -I) := by omega
    have d2 : I < p := by omega
    clear hI h
    go_enter Try.func59, Try.ntmps59
    go_wp2_with (first | (go_at_call 78; refine (lay_far _).mono ?_; rintro e w' ⟨rfl, rfl⟩) | (go_at_call 82; refine (hfr _).mono ?_; rintro e w' ⟨rfl, rfl⟩) | (go_at_call 42; refine (hinf _).mono ?_; rintro e w' ⟨rfl, rfl⟩))
    exact bodyPost_ret (v := .tuple #[.float .f64 0, .bool false]) (by simp [results, Try.results59, go_sem] <;> simp only [*]) rfl ⟨rfl, (by repeat (with_reducible (first | assumption | exact Grown.refl _ | apply Grown.drew | apply Grown.alloc | apply gdrewN | (refine gtrans ?_ (by assumption)))))⟩

set_option maxRecDepth 20000 in
set_option maxHeartbeats 1000000 in
theorem up_far (n : Bool) (m : Nat) (hm : m ≤ 9218868437227405312) (h2 : plz n m ≠ 9218868437227405312) (w : World) : Calls Try.prog 50 #[.float .f64 (wD n m)] w fun e w' => e = .returned (.float .f64 (fD (plz n m + 1))) ∧ Grown w w' := by
  have hpl := place_far n m hm
  obtain ⟨I, hI⟩ : ∃ I : Int, I = 9218868437227405312 := ⟨_, rfl⟩
  have hinf : ∀ w : World, Calls Try.prog 42 #[.agg #[.int .i64 53, .int .i64 (-1074), .int .i64 971]] w fun e w' => e = .returned (.int .i64 I) ∧ w' = ((w.alloc (.cells #[.int .i64 53, .int .i64 (-1074), .int .i64 971] 70)).alloc (.cells #[.int .i64 53, .int .i64 (-1074), .int .i64 971] 70)).drew := by rw [hI]; exact infi_D
  have hb := plz_bd n m
  obtain ⟨p, hp⟩ : ∃ p : Int, p = plz n m := ⟨_, rfl⟩
  rw [← hp] at hpl h2 hb ⊢
  have hat := at_far (p + 1) (by omega) (by omega)
  have d1 : (p == I) = false := by simp; omega
  have d2 : wrap64 (p + 1) = p + 1 := by unfold wrap64; omega
  have d3 : ¬ (p = I) := by omega
  clear hI hm h2 hb hp
  go_enter Try.func50, Try.ntmps50
  go_wp2_with (first | (go_at_call 78; refine (lay_far _).mono ?_; rintro e w' ⟨rfl, rfl⟩) | (go_at_call 42; refine (hinf _).mono ?_; rintro e w' ⟨rfl, rfl⟩) | (go_at_call 58; refine (hpl _).mono ?_; rintro e w' ⟨rfl, g1⟩) | (go_at_call 59; refine (hat _).mono ?_; rintro e w' ⟨rfl, g2⟩))
  exact bodyPost_ret (v := .float .f64 (fD (p + 1))) (by simp [results, Try.results50, go_sem] <;> simp only [*]) rfl ⟨rfl, (by repeat (with_reducible (first | assumption | exact Grown.refl _ | apply Grown.drew | apply Grown.alloc | apply gdrewN | (refine gtrans ?_ (by assumption)))))⟩

set_option maxRecDepth 20000 in
set_option maxHeartbeats 1000000 in
theorem upn_far (n : Bool) (m : Nat) (hm : 9218868437227405312 < m) (h2 : m < 9223372036854775808) (w : World) : Calls Try.prog 50 #[.float .f64 (wD n m)] w fun e w' => e = .returned (.float .f64 (wD n m)) ∧ Grown w w' := by
  have hpl := placen_far n m hm h2
  clear hm h2
  go_enter Try.func50, Try.ntmps50
  go_wp2_with (first | (go_at_call 58; refine (hpl _).mono ?_; rintro e w' ⟨rfl, g1⟩))
  exact bodyPost_ret (v := .float .f64 (wD n m)) (by simp [results, Try.results50, go_sem] <;> simp only [*]) rfl ⟨rfl, (by repeat (with_reducible (first | assumption | exact Grown.refl _ | apply Grown.drew | apply Grown.alloc | apply gdrewN | (refine gtrans ?_ (by assumption)))))⟩

set_option maxRecDepth 20000 in
set_option maxHeartbeats 1000000 in
theorem upe_far (w : World) : Calls Try.prog 50 #[.float .f64 (wD false 9218868437227405312)] w fun e w' => e = .returned (.float .f64 (wD false 9218868437227405312)) ∧ Grown w w' := by
  have hpl := place_far false 9218868437227405312 (by omega)
  obtain ⟨I, hI⟩ : ∃ I : Int, I = 9218868437227405312 := ⟨_, rfl⟩
  have hinf : ∀ w : World, Calls Try.prog 42 #[.agg #[.int .i64 53, .int .i64 (-1074), .int .i64 971]] w fun e w' => e = .returned (.int .i64 I) ∧ w' = ((w.alloc (.cells #[.int .i64 53, .int .i64 (-1074), .int .i64 971] 70)).alloc (.cells #[.int .i64 53, .int .i64 (-1074), .int .i64 971] 70)).drew := by rw [hI]; exact infi_D
  have ep : plz false 9218868437227405312 = I := by rw [hI]; rfl
  rw [ep] at hpl
  clear hI ep
  obtain ⟨M, hM⟩ : ∃ M : Nat, M = 9218868437227405312 := ⟨_, rfl⟩
  rw [← hM] at hpl ⊢
  clear hM
  go_enter Try.func50, Try.ntmps50
  go_wp2_with (first | (go_at_call 78; refine (lay_far _).mono ?_; rintro e w' ⟨rfl, rfl⟩) | (go_at_call 42; refine (hinf _).mono ?_; rintro e w' ⟨rfl, rfl⟩) | (go_at_call 58; refine (hpl _).mono ?_; rintro e w' ⟨rfl, g1⟩))
  exact bodyPost_ret (v := .float .f64 (wD false M)) (by simp [results, Try.results50, go_sem] <;> simp only [*]) rfl ⟨rfl, (by repeat (with_reducible (first | assumption | exact Grown.refl _ | apply Grown.drew | apply Grown.alloc | apply gdrewN | (refine gtrans ?_ (by assumption)))))⟩

set_option maxRecDepth 20000 in
set_option maxHeartbeats 1000000 in
theorem dn_far (n : Bool) (m : Nat) (hm : m ≤ 9218868437227405312) (h2 : plz n m ≠ -9218868437227405312) (w : World) : Calls Try.prog 51 #[.float .f64 (wD n m)] w fun e w' => e = .returned (.float .f64 (fD (plz n m - 1))) ∧ Grown w w' := by
  have hpl := place_far n m hm
  obtain ⟨I, hI⟩ : ∃ I : Int, I = 9218868437227405312 := ⟨_, rfl⟩
  have hinf : ∀ w : World, Calls Try.prog 42 #[.agg #[.int .i64 53, .int .i64 (-1074), .int .i64 971]] w fun e w' => e = .returned (.int .i64 I) ∧ w' = ((w.alloc (.cells #[.int .i64 53, .int .i64 (-1074), .int .i64 971] 70)).alloc (.cells #[.int .i64 53, .int .i64 (-1074), .int .i64 971] 70)).drew := by rw [hI]; exact infi_D
  have hb := plz_bd n m
  obtain ⟨p, hp⟩ : ∃ p : Int, p = plz n m := ⟨_, rfl⟩
  rw [← hp] at hpl h2 hb ⊢
  have hat := at_far (p - 1) (by omega) (by omega)
  have d1 : (p == -I) = false := by simp; omega
  have d2 : wrap64 (p - 1) = p - 1 := by unfold wrap64; omega
  have d0 : wrap64 (-I) = -I := by unfold wrap64; omega
  have d3 : ¬ (p = -I) := by omega
  clear hI hm h2 hb hp
  go_enter Try.func51, Try.ntmps51
  go_wp2_with (first | (go_at_call 78; refine (lay_far _).mono ?_; rintro e w' ⟨rfl, rfl⟩) | (go_at_call 42; refine (hinf _).mono ?_; rintro e w' ⟨rfl, rfl⟩) | (go_at_call 58; refine (hpl _).mono ?_; rintro e w' ⟨rfl, g1⟩) | (go_at_call 59; refine (hat _).mono ?_; rintro e w' ⟨rfl, g2⟩))
  exact bodyPost_ret (v := .float .f64 (fD (p - 1))) (by simp [results, Try.results51, go_sem] <;> simp only [*]) rfl ⟨rfl, (by repeat (with_reducible (first | assumption | exact Grown.refl _ | apply Grown.drew | apply Grown.alloc | apply gdrewN | (refine gtrans ?_ (by assumption)))))⟩

set_option maxRecDepth 20000 in
set_option maxHeartbeats 1000000 in
theorem dnn_far (n : Bool) (m : Nat) (hm : 9218868437227405312 < m) (h2 : m < 9223372036854775808) (w : World) : Calls Try.prog 51 #[.float .f64 (wD n m)] w fun e w' => e = .returned (.float .f64 (wD n m)) ∧ Grown w w' := by
  have hpl := placen_far n m hm h2
  clear hm h2
  go_enter Try.func51, Try.ntmps51
  go_wp2_with (first | (go_at_call 58; refine (hpl _).mono ?_; rintro e w' ⟨rfl, g1⟩))
  exact bodyPost_ret (v := .float .f64 (wD n m)) (by simp [results, Try.results51, go_sem] <;> simp only [*]) rfl ⟨rfl, (by repeat (with_reducible (first | assumption | exact Grown.refl _ | apply Grown.drew | apply Grown.alloc | apply gdrewN | (refine gtrans ?_ (by assumption)))))⟩

set_option maxRecDepth 20000 in
set_option maxHeartbeats 1000000 in
theorem dne_far (w : World) : Calls Try.prog 51 #[.float .f64 (wD true 9218868437227405312)] w fun e w' => e = .returned (.float .f64 (wD true 9218868437227405312)) ∧ Grown w w' := by
  have hpl := place_far true 9218868437227405312 (by omega)
  obtain ⟨I, hI⟩ : ∃ I : Int, I = 9218868437227405312 := ⟨_, rfl⟩
  have hinf : ∀ w : World, Calls Try.prog 42 #[.agg #[.int .i64 53, .int .i64 (-1074), .int .i64 971]] w fun e w' => e = .returned (.int .i64 I) ∧ w' = ((w.alloc (.cells #[.int .i64 53, .int .i64 (-1074), .int .i64 971] 70)).alloc (.cells #[.int .i64 53, .int .i64 (-1074), .int .i64 971] 70)).drew := by rw [hI]; exact infi_D
  have ep : plz true 9218868437227405312 = -I := by rw [hI]; rfl
  rw [ep] at hpl
  have d0 : wrap64 (-I) = -I := by unfold wrap64; omega
  clear hI ep
  obtain ⟨M, hM⟩ : ∃ M : Nat, M = 9218868437227405312 := ⟨_, rfl⟩
  rw [← hM] at hpl ⊢
  clear hM
  go_enter Try.func51, Try.ntmps51
  go_wp2_with (first | (go_at_call 78; refine (lay_far _).mono ?_; rintro e w' ⟨rfl, rfl⟩) | (go_at_call 42; refine (hinf _).mono ?_; rintro e w' ⟨rfl, rfl⟩) | (go_at_call 58; refine (hpl _).mono ?_; rintro e w' ⟨rfl, g1⟩))
  exact bodyPost_ret (v := .float .f64 (wD true M)) (by simp [results, Try.results51, go_sem] <;> simp only [*]) rfl ⟨rfl, (by repeat (with_reducible (first | assumption | exact Grown.refl _ | apply Grown.drew | apply Grown.alloc | apply gdrewN | (refine gtrans ?_ (by assumption)))))⟩

set_option maxRecDepth 20000 in
set_option maxHeartbeats 1000000 in
theorem plain_far (n : Bool) (m : Nat) (h2 : m < 9223372036854775808) (w : World) : Calls Try.prog 61 #[.float .f64 (wD n m)] w fun e w' => e = .returned (.float .f64 (wD (n && !(m == 0)) m)) ∧ w' = w := by
  have ho := eqzD n m h2
  by_cases c : m = 0
  · subst c
    have ew : wD (n && !((0 : Nat) == 0)) 0 = 0 := by simp [wD]
    rw [ew]
    clear ew
    have ho2 : (FloatKind.f64.format.order (wD n 0) 0 == some .eq) = true := by rw [ho]; rfl
    clear ho
    go_enter Try.func61, Try.ntmps61
    go_wp2
    exact bodyPost_ret (v := .float .f64 0) (by simp [results, Try.results61, go_sem] <;> simp only [*]) rfl ⟨rfl, rfl⟩
  · have ew : (n && !(m == 0)) = n := by simp [c]
    rw [ew]
    clear ew
    have ho2 : (FloatKind.f64.format.order (wD n m) 0 == some .eq) = false := by rw [ho]; simp [c]
    clear ho c
    go_enter Try.func61, Try.ntmps61
    go_wp2
    exact bodyPost_ret (v := .float .f64 (wD n m)) (by simp [results, Try.results61, go_sem] <;> simp only [*]) rfl ⟨rfl, rfl⟩

set_option maxRecDepth 20000 in
set_option maxHeartbeats 1000000 in
theorem rank_far (n : Bool) (m : Nat) (h2 : m < 9223372036854775808) (w : World) : Calls Try.prog 83 #[.float .f64 (wD n m)] w fun e w' => e = .returned (.int .i64 (rkD n m)) ∧ Grown w w' := by
  have hpat := patt_far n m h2
  by_cases c : 9218868437227405312 < m
  · have hpl := placen_far n m c h2
    have er : rkD n m = 9223372036854775807 := by unfold rkD rkG; simp [c]
    rw [er]
    clear er c h2
    go_enter Try.func83, Try.ntmps83
    go_wp2_with (first | (go_at_call 58; refine (hpl _).mono ?_; rintro e w' ⟨rfl, g1⟩) | (go_at_call 81; refine (hpat _).mono ?_; rintro e w' ⟨rfl, rfl⟩))
    exact bodyPost_ret (v := .int .i64 9223372036854775807) (by simp [results, Try.results83, go_sem] <;> simp only [*]) rfl ⟨rfl, (by repeat (with_reducible (first | assumption | exact Grown.refl _ | apply Grown.drew | apply Grown.alloc | apply gdrewN | (refine gtrans ?_ (by assumption)))))⟩
  · have hpl := place_far n m (by omega)
    have hb := plz_bd n m
    have er : rkD n m = plz n m - (if n then 1 else 0) := by unfold rkD rkG; simp [c]
    rw [er]
    clear er
    obtain ⟨p, hp⟩ : ∃ p : Int, p = plz n m := ⟨_, rfl⟩
    rw [← hp] at hpl hb ⊢
    have d2 : wrap64 (p - 1) = p - 1 := by unfold wrap64; omega
    have d3 : p - 0 = p := by omega
    clear h2 c hb hp
    cases n
    · simp only [Bool.false_eq_true, if_false, d3]
      go_enter Try.func83, Try.ntmps83
      go_wp2_with (first | (go_at_call 58; refine (hpl _).mono ?_; rintro e w' ⟨rfl, g1⟩) | (go_at_call 81; refine (hpat _).mono ?_; rintro e w' ⟨rfl, rfl⟩))
      exact bodyPost_ret (v := .int .i64 p) (by simp [results, Try.results83, go_sem] <;> simp only [*]) rfl ⟨rfl, (by repeat (with_reducible (first | assumption | exact Grown.refl _ | apply Grown.drew | apply Grown.alloc | apply gdrewN | (refine gtrans ?_ (by assumption)))))⟩
    · simp only [if_true]
      go_enter Try.func83, Try.ntmps83
      go_wp2_with (first | (go_at_call 58; refine (hpl _).mono ?_; rintro e w' ⟨rfl, g1⟩) | (go_at_call 81; refine (hpat _).mono ?_; rintro e w' ⟨rfl, rfl⟩))
      exact bodyPost_ret (v := .int .i64 (p - 1)) (by simp [results, Try.results83, go_sem] <;> simp only [*]) rfl ⟨rfl, (by repeat (with_reducible (first | assumption | exact Grown.refl _ | apply Grown.drew | apply Grown.alloc | apply gdrewN | (refine gtrans ?_ (by assumption)))))⟩

set_option maxRecDepth 20000 in
set_option maxHeartbeats 400000 in
theorem order_far (n n' : Bool) (m m' : Nat) (h2 : m < 9223372036854775808) (h3 : m' < 9223372036854775808) (w : World) : Calls Try.prog 60 #[.float .f64 (wD n m), .float .f64 (wD n' m')] w fun e w' => e = .returned (.int .i64 (cmpz (rkD n m) (rkD n' m'))) ∧ Grown w w' := by
  have hr1 := rank_far n m h2
  have hr2 := rank_far n' m' h3
  obtain ⟨x, hx⟩ : ∃ x : Nat, x = wD n m := ⟨_, rfl⟩
  obtain ⟨y, hy⟩ : ∃ y : Nat, y = wD n' m' := ⟨_, rfl⟩
  rw [← hx] at hr1 ⊢
  rw [← hy] at hr2 ⊢
  clear hx hy
  go_enter Try.func60, Try.ntmps60
  go_wp2_with fail
  refine (hr1 _).mono ?_; rintro e w' ⟨rfl, g1⟩
  go_wp2_with fail
  refine (hr2 _).mono ?_; rintro e w' ⟨rfl, g2⟩
  go_wp2_with (first | (go_at_call 66; refine (compare_int _ _ _).mono ?_; rintro e w' ⟨rfl, rfl⟩))
  exact bodyPost_ret (v := .int .i64 (cmpz (rkD n m) (rkD n' m'))) (by simp [results, Try.results60, go_sem] <;> simp only [*]) rfl ⟨rfl, (by repeat (with_reducible (first | assumption | exact Grown.refl _ | apply Grown.drew | apply Grown.alloc | apply gdrewN | (refine gtrans ?_ (by assumption)))))⟩

set_option maxRecDepth 20000 in
set_option maxHeartbeats 1000000 in
theorem place_s (n : Bool) (m : Nat) (hm : m ≤ 2139095040) (w : World) : Calls Try.prog 44 #[.float .f32 (wS n m)] w fun e w' => e = .returned (.tuple #[.int .i64 (plz n m), .bool true]) ∧ Grown w w' := by
  have hpat := patt_s n m (by omega)
  obtain ⟨I, hI⟩ : ∃ I : Int, I = 2139095040 := ⟨_, rfl⟩
  have hinf : ∀ w : World, Calls Try.prog 42 #[.agg #[.int .i64 24, .int .i64 (-149), .int .i64 104]] w fun e w' => e = .returned (.int .i64 I) ∧ w' = ((w.alloc (.cells #[.int .i64 24, .int .i64 (-149), .int .i64 104] 70)).alloc (.cells #[.int .i64 24, .int .i64 (-149), .int .i64 104] 70)).drew := by rw [hI]; exact infi_S
  have d1 : ¬ (I < (m : Int)) := by omega
  have d2 : wrap64 (-(m : Int)) = -(m : Int) := by unfold wrap64; omega
  clear hI hm
  cases n
  · have ec : plz false m = (m : Int) := rfl
    rw [ec]
    clear ec d2
    go_enter Try.func44, Try.ntmps44
    go_wp2_with (first | (go_at_call 45; refine (lay_s _).mono ?_; rintro e w' ⟨rfl, rfl⟩) | (go_at_call 75; refine (hpat _).mono ?_; rintro e w' ⟨rfl, rfl⟩) | (go_at_call 42; refine (hinf _).mono ?_; rintro e w' ⟨rfl, rfl⟩))
    exact bodyPost_ret (v := .tuple #[.int .i64 (m : Int), .bool true]) (by simp [results, Try.results44, go_sem] <;> simp only [*]) rfl ⟨rfl, (by repeat (with_reducible (first | assumption | exact Grown.refl _ | apply Grown.drew | apply Grown.alloc | apply gdrewN | (refine gtrans ?_ (by assumption)))))⟩
  · have ec : plz true m = -(m : Int) := rfl
    rw [ec]
    clear ec
    go_enter Try.func44, Try.ntmps44
    go_wp2_with (first | (go_at_call 45; refine (lay_s _).mono ?_; rintro e w' ⟨rfl, rfl⟩) | (go_at_call 75; refine (hpat _).mono ?_; rintro e w' ⟨rfl, rfl⟩) | (go_at_call 42; refine (hinf _).mono ?_; rintro e w' ⟨rfl, rfl⟩))
    exact bodyPost_ret (v := .tuple #[.int .i64 (-(m : Int)), .bool true]) (by simp [results, Try.results44, go_sem] <;> simp only [*]) rfl ⟨rfl, (by repeat (with_reducible (first | assumption | exact Grown.refl _ | apply Grown.drew | apply Grown.alloc | apply gdrewN | (refine gtrans ?_ (by assumption)))))⟩

set_option maxRecDepth 20000 in
set_option maxHeartbeats 1000000 in
theorem placen_s (n : Bool) (m : Nat) (hm : 2139095040 < m) (h2 : m < 2147483648) (w : World) : Calls Try.prog 44 #[.float .f32 (wS n m)] w fun e w' => e = .returned (.tuple #[.int .i64 0, .bool false]) ∧ Grown w w' := by
  have hpat := patt_s n m h2
  obtain ⟨I, hI⟩ : ∃ I : Int, I = 2139095040 := ⟨_, rfl⟩
  have hinf : ∀ w : World, Calls Try.prog 42 #[.agg #[.int .i64 24, .int .i64 (-149), .int .i64 104]] w fun e w' => e = .returned (.int .i64 I) ∧ w' = ((w.alloc (.cells #[.int .i64 24, .int .i64 (-149), .int .i64 104] 70)).alloc (.cells #[.int .i64 24, .int .i64 (-149), .int .i64 104] 70)).drew := by rw [hI]; exact infi_S
  have d1 : I < (m : Int) := by omega
  clear hI hm h2
  go_enter Try.func44, Try.ntmps44
  go_wp2_with (first | (go_at_call 45; refine (lay_s _).mono ?_; rintro e w' ⟨rfl, rfl⟩) | (go_at_call 75; refine (hpat _).mono ?_; rintro e w' ⟨rfl, rfl⟩) | (go_at_call 42; refine (hinf _).mono ?_; rintro e w' ⟨rfl, rfl⟩))
  exact bodyPost_ret (v := .tuple #[.int .i64 0, .bool false]) (by simp [results, Try.results44, go_sem] <;> simp only [*]) rfl ⟨rfl, (by repeat (with_reducible (first | assumption | exact Grown.refl _ | apply Grown.drew | apply Grown.alloc | apply gdrewN | (refine gtrans ?_ (by assumption)))))⟩

set_option maxRecDepth 20000 in
set_option maxHeartbeats 1000000 in
theorem at_s (p : Int) (h1 : -2139095040 ≤ p) (h2 : p ≤ 2139095040) (w : World) : Calls Try.prog 46 #[.int .i64 p] w fun e w' => e = .returned (.tuple #[.float .f32 (fS p), .bool true]) ∧ Grown w w' := by
  obtain ⟨I, hI⟩ : ∃ I : Int, I = 2139095040 := ⟨_, rfl⟩
  have hinf : ∀ w : World, Calls Try.prog 42 #[.agg #[.int .i64 24, .int .i64 (-149), .int .i64 104]] w fun e w' => e = .returned (.int .i64 I) ∧ w' = ((w.alloc (.cells #[.int .i64 24, .int .i64 (-149), .int .i64 104] 70)).alloc (.cells #[.int .i64 24, .int .i64 (-149), .int .i64 104] 70)).drew := by rw [hI]; exact infi_S
  have d1 : ¬ (p < -I) := by omega
  have d2 : ¬ (I < p) := by omega
  have d0 : wrap64 (-I) = -I := by unfold wrap64; omega
  by_cases c : p < 0
  · have ef : fS p = wS true p.natAbs := by unfold fS; simp [c]
    rw [ef]
    have e2 : wrap64 (-p) = ((p.natAbs : Nat) : Int) := by unfold wrap64; omega
    have hfr := from_s p.natAbs (by omega)
    obtain ⟨a, ha⟩ : ∃ a : Nat, a = p.natAbs := ⟨_, rfl⟩
    rw [← ha] at e2 hfr ⊢
    have hng : Op.unary .neg (.float .f32 (wS false a)) = pure (.float .f32 (wS true a)) := by
      show pure (Value.float .f32 (Op.negFloat .f32 (wS false a))) = _
      rw [negS false a (by omega)]; rfl
    clear hI h1 h2 ef ha
    go_enter Try.func46, Try.ntmps46
    go_wp2_with (first | (go_at_call 45; refine (lay_s _).mono ?_; rintro e w' ⟨rfl, rfl⟩) | (go_at_call 77; refine (hfr _).mono ?_; rintro e w' ⟨rfl, rfl⟩) | (go_at_call 42; refine (hinf _).mono ?_; rintro e w' ⟨rfl, rfl⟩))
    exact bodyPost_ret (v := .tuple #[.float .f32 (wS true a), .bool true]) (by simp [results, Try.results46, go_sem] <;> simp only [*]) rfl ⟨rfl, (by repeat (with_reducible (first | assumption | exact Grown.refl _ | apply Grown.drew | apply Grown.alloc | apply gdrewN | (refine gtrans ?_ (by assumption)))))⟩
  · have ef : fS p = wS false p.natAbs := by unfold fS; simp [c]
    rw [ef]
    have e2 : p = ((p.natAbs : Nat) : Int) := by omega
    have hfr : ∀ w : World, Calls Try.prog 77 #[.int .i64 p] w fun e w' => e = .returned (.float .f32 (wS false p.natAbs)) ∧ w' = w := by
      have := from_s p.natAbs (by omega)
      rw [← e2] at this; exact this
    obtain ⟨a, ha⟩ : ∃ a : Nat, a = p.natAbs := ⟨_, rfl⟩
    rw [← ha] at hfr ⊢
    clear hI h1 h2 ef ha e2
    go_enter Try.func46, Try.ntmps46
    go_wp2_with (first | (go_at_call 45; refine (lay_s _).mono ?_; rintro e w' ⟨rfl, rfl⟩) | (go_at_call 77; refine (hfr _).mono ?_; rintro e w' ⟨rfl, rfl⟩) | (go_at_call 42; refine (hinf _).mono ?_; rintro e w' ⟨rfl, rfl⟩))
    exact bodyPost_ret (v := .tuple #[.float .f32 (wS false a), .bool true]) (by simp [results, Try.results46, go_sem] <;> simp only [*]) rfl ⟨rfl, (by repeat (with_reducible (first | assumption | exact Grown.refl _ | apply Grown.drew | apply Grown.alloc | apply gdrewN | (refine gtrans ?_ (by assumption)))))⟩

set_option maxRecDepth 20000 in
set_option maxHeartbeats 1000000 in
theorem atx_s (p : Int) (h : p < -2139095040 ∨ 2139095040 < p) (w : World) : Calls Try.prog 46 #[.int .i64 p] w fun e w' => e = .returned (.tuple #[.float .f32 (wS false 0), .bool false]) ∧ Grown w w' := by
  obtain ⟨I, hI⟩ : ∃ I : Int, I = 2139095040 := ⟨_, rfl⟩
  have hinf : ∀ w : World, Calls Try.prog 42 #[.agg #[.int .i64 24, .int .i64 (-149), .int .i64 104]] w fun e w' => e = .returned (.int .i64 I) ∧ w' = ((w.alloc (.cells #[.int .i64 24, .int .i64 (-149), .int .i64 104] 70)).alloc (.cells #[.int .i64 24, .int .i64 (-149), .int .i64 104] 70)).drew := by rw [hI]; exact infi_S
  have d0 : wrap64 (-I) = -I := by unfold wrap64; omega
  have ew : wS false 0 = 0 := rfl
  rw [ew]
  clear ew
  rcases h with h | h
  · have d1 : p < -I := by omega
    clear hI h
    go_enter Try.func46, Try.ntmps46
    go_wp2_with (first | (go_at_call 45; refine (lay_s _).mono ?_; rintro e w' ⟨rfl, rfl⟩) | (go_at_call 77; refine (hfr _).mono ?_; rintro e w' ⟨rfl, rfl⟩) | (go_at_call 42; refine (hinf _).mono ?_; rintro e w' ⟨rfl, rfl⟩))
    exact bodyPost_ret (v := .tuple #[.float .f32 0, .bool false]) (by simp [results, Try.results46, go_sem] <;> simp only [*]) rfl ⟨rfl, (by repeat (with_reducible (first | assumption | exact Grown.refl _ | apply Grown.drew | apply Grown.alloc | apply gdrewN | (refine gtrans ?_ (by assumption)))))⟩
  · have d1 : ¬ (p < -I) := by omega
    have d2 : I < p := by omega
    clear hI h
    go_enter Try.func46, Try.ntmps46
    go_wp2_with (first | (go_at_call 45; refine (lay_s _).mono ?_; rintro e w' ⟨rfl, rfl⟩) | (go_at_call 77; refine (hfr _).mono ?_; rintro e w' ⟨rfl, rfl⟩) | (go_at_call 42; refine (hinf _).mono ?_; rintro e w' ⟨rfl, rfl⟩))
    exact bodyPost_ret (v := .tuple #[.float .f32 0, .bool false]) (by simp [results, Try.results46, go_sem] <;> simp only [*]) rfl ⟨rfl, (by repeat (with_reducible (first | assumption | exact Grown.refl _ | apply Grown.drew | apply Grown.alloc | apply gdrewN | (refine gtrans ?_ (by assumption)))))⟩

set_option maxRecDepth 20000 in
set_option maxHeartbeats 1000000 in
theorem up_s (n : Bool) (m : Nat) (hm : m ≤ 2139095040) (h2 : plz n m ≠ 2139095040) (w : World) : Calls Try.prog 48 #[.float .f32 (wS n m)] w fun e w' => e = .returned (.float .f32 (fS (plz n m + 1))) ∧ Grown w w' := by
  have hpl := place_s n m hm
  obtain ⟨I, hI⟩ : ∃ I : Int, I = 2139095040 := ⟨_, rfl⟩
  have hinf : ∀ w : World, Calls Try.prog 42 #[.agg #[.int .i64 24, .int .i64 (-149), .int .i64 104]] w fun e w' => e = .returned (.int .i64 I) ∧ w' = ((w.alloc (.cells #[.int .i64 24, .int .i64 (-149), .int .i64 104] 70)).alloc (.cells #[.int .i64 24, .int .i64 (-149), .int .i64 104] 70)).drew := by rw [hI]; exact infi_S
  have hb := plz_bd n m
  obtain ⟨p, hp⟩ : ∃ p : Int, p = plz n m := ⟨_, rfl⟩
  rw [← hp] at hpl h2 hb ⊢
  have hat := at_s (p + 1) (by omega) (by omega)
  have d1 : (p == I) = false := by simp; omega
  have d2 : wrap64 (p + 1) = p + 1 := by unfold wrap64; omega
  have d3 : ¬ (p = I) := by omega
  clear hI hm h2 hb hp
  go_enter Try.func48, Try.ntmps48
  go_wp2_with (first | (go_at_call 45; refine (lay_s _).mono ?_; rintro e w' ⟨rfl, rfl⟩) | (go_at_call 42; refine (hinf _).mono ?_; rintro e w' ⟨rfl, rfl⟩) | (go_at_call 44; refine (hpl _).mono ?_; rintro e w' ⟨rfl, g1⟩) | (go_at_call 46; refine (hat _).mono ?_; rintro e w' ⟨rfl, g2⟩))
  exact bodyPost_ret (v := .float .f32 (fS (p + 1))) (by simp [results, Try.results48, go_sem] <;> simp only [*]) rfl ⟨rfl, (by repeat (with_reducible (first | assumption | exact Grown.refl _ | apply Grown.drew | apply Grown.alloc | apply gdrewN | (refine gtrans ?_ (by assumption)))))⟩

set_option maxRecDepth 20000 in
set_option maxHeartbeats 1000000 in
theorem upn_s (n : Bool) (m : Nat) (hm : 2139095040 < m) (h2 : m < 2147483648) (w : World) : Calls Try.prog 48 #[.float .f32 (wS n m)] w fun e w' => e = .returned (.float .f32 (wS n m)) ∧ Grown w w' := by
  have hpl := placen_s n m hm h2
  clear hm h2
  go_enter Try.func48, Try.ntmps48
  go_wp2_with (first | (go_at_call 44; refine (hpl _).mono ?_; rintro e w' ⟨rfl, g1⟩))
  exact bodyPost_ret (v := .float .f32 (wS n m)) (by simp [results, Try.results48, go_sem] <;> simp only [*]) rfl ⟨rfl, (by repeat (with_reducible (first | assumption | exact Grown.refl _ | apply Grown.drew | apply Grown.alloc | apply gdrewN | (refine gtrans ?_ (by assumption)))))⟩

set_option maxRecDepth 20000 in
set_option maxHeartbeats 1000000 in
theorem upe_s (w : World) : Calls Try.prog 48 #[.float .f32 (wS false 2139095040)] w fun e w' => e = .returned (.float .f32 (wS false 2139095040)) ∧ Grown w w' := by
  have hpl := place_s false 2139095040 (by omega)
  obtain ⟨I, hI⟩ : ∃ I : Int, I = 2139095040 := ⟨_, rfl⟩
  have hinf : ∀ w : World, Calls Try.prog 42 #[.agg #[.int .i64 24, .int .i64 (-149), .int .i64 104]] w fun e w' => e = .returned (.int .i64 I) ∧ w' = ((w.alloc (.cells #[.int .i64 24, .int .i64 (-149), .int .i64 104] 70)).alloc (.cells #[.int .i64 24, .int .i64 (-149), .int .i64 104] 70)).drew := by rw [hI]; exact infi_S
  have ep : plz false 2139095040 = I := by rw [hI]; rfl
  rw [ep] at hpl
  clear hI ep
  obtain ⟨M, hM⟩ : ∃ M : Nat, M = 2139095040 := ⟨_, rfl⟩
  rw [← hM] at hpl ⊢
  clear hM
  go_enter Try.func48, Try.ntmps48
  go_wp2_with (first | (go_at_call 45; refine (lay_s _).mono ?_; rintro e w' ⟨rfl, rfl⟩) | (go_at_call 42; refine (hinf _).mono ?_; rintro e w' ⟨rfl, rfl⟩) | (go_at_call 44; refine (hpl _).mono ?_; rintro e w' ⟨rfl, g1⟩))
  exact bodyPost_ret (v := .float .f32 (wS false M)) (by simp [results, Try.results48, go_sem] <;> simp only [*]) rfl ⟨rfl, (by repeat (with_reducible (first | assumption | exact Grown.refl _ | apply Grown.drew | apply Grown.alloc | apply gdrewN | (refine gtrans ?_ (by assumption)))))⟩

set_option maxRecDepth 20000 in
set_option maxHeartbeats 1000000 in
theorem dn_s (n : Bool) (m : Nat) (hm : m ≤ 2139095040) (h2 : plz n m ≠ -2139095040) (w : World) : Calls Try.prog 15 #[.float .f32 (wS n m)] w fun e w' => e = .returned (.float .f32 (fS (plz n m - 1))) ∧ Grown w w' := by
  have hpl := place_s n m hm
  obtain ⟨I, hI⟩ : ∃ I : Int, I = 2139095040 := ⟨_, rfl⟩
  have hinf : ∀ w : World, Calls Try.prog 42 #[.agg #[.int .i64 24, .int .i64 (-149), .int .i64 104]] w fun e w' => e = .returned (.int .i64 I) ∧ w' = ((w.alloc (.cells #[.int .i64 24, .int .i64 (-149), .int .i64 104] 70)).alloc (.cells #[.int .i64 24, .int .i64 (-149), .int .i64 104] 70)).drew := by rw [hI]; exact infi_S
  have hb := plz_bd n m
  obtain ⟨p, hp⟩ : ∃ p : Int, p = plz n m := ⟨_, rfl⟩
  rw [← hp] at hpl h2 hb ⊢
  have hat := at_s (p - 1) (by omega) (by omega)
  have d1 : (p == -I) = false := by simp; omega
  have d2 : wrap64 (p - 1) = p - 1 := by unfold wrap64; omega
  have d0 : wrap64 (-I) = -I := by unfold wrap64; omega
  have d3 : ¬ (p = -I) := by omega
  clear hI hm h2 hb hp
  go_enter Try.func15, Try.ntmps15
  go_wp2_with (first | (go_at_call 45; refine (lay_s _).mono ?_; rintro e w' ⟨rfl, rfl⟩) | (go_at_call 42; refine (hinf _).mono ?_; rintro e w' ⟨rfl, rfl⟩) | (go_at_call 44; refine (hpl _).mono ?_; rintro e w' ⟨rfl, g1⟩) | (go_at_call 46; refine (hat _).mono ?_; rintro e w' ⟨rfl, g2⟩))
  exact bodyPost_ret (v := .float .f32 (fS (p - 1))) (by simp [results, Try.results15, go_sem] <;> simp only [*]) rfl ⟨rfl, (by repeat (with_reducible (first | assumption | exact Grown.refl _ | apply Grown.drew | apply Grown.alloc | apply gdrewN | (refine gtrans ?_ (by assumption)))))⟩

set_option maxRecDepth 20000 in
set_option maxHeartbeats 1000000 in
theorem dnn_s (n : Bool) (m : Nat) (hm : 2139095040 < m) (h2 : m < 2147483648) (w : World) : Calls Try.prog 15 #[.float .f32 (wS n m)] w fun e w' => e = .returned (.float .f32 (wS n m)) ∧ Grown w w' := by
  have hpl := placen_s n m hm h2
  clear hm h2
  go_enter Try.func15, Try.ntmps15
  go_wp2_with (first | (go_at_call 44; refine (hpl _).mono ?_; rintro e w' ⟨rfl, g1⟩))
  exact bodyPost_ret (v := .float .f32 (wS n m)) (by simp [results, Try.results15, go_sem] <;> simp only [*]) rfl ⟨rfl, (by repeat (with_reducible (first | assumption | exact Grown.refl _ | apply Grown.drew | apply Grown.alloc | apply gdrewN | (refine gtrans ?_ (by assumption)))))⟩

set_option maxRecDepth 20000 in
set_option maxHeartbeats 1000000 in
theorem dne_s (w : World) : Calls Try.prog 15 #[.float .f32 (wS true 2139095040)] w fun e w' => e = .returned (.float .f32 (wS true 2139095040)) ∧ Grown w w' := by
  have hpl := place_s true 2139095040 (by omega)
  obtain ⟨I, hI⟩ : ∃ I : Int, I = 2139095040 := ⟨_, rfl⟩
  have hinf : ∀ w : World, Calls Try.prog 42 #[.agg #[.int .i64 24, .int .i64 (-149), .int .i64 104]] w fun e w' => e = .returned (.int .i64 I) ∧ w' = ((w.alloc (.cells #[.int .i64 24, .int .i64 (-149), .int .i64 104] 70)).alloc (.cells #[.int .i64 24, .int .i64 (-149), .int .i64 104] 70)).drew := by rw [hI]; exact infi_S
  have ep : plz true 2139095040 = -I := by rw [hI]; rfl
  rw [ep] at hpl
  have d0 : wrap64 (-I) = -I := by unfold wrap64; omega
  clear hI ep
  obtain ⟨M, hM⟩ : ∃ M : Nat, M = 2139095040 := ⟨_, rfl⟩
  rw [← hM] at hpl ⊢
  clear hM
  go_enter Try.func15, Try.ntmps15
  go_wp2_with (first | (go_at_call 45; refine (lay_s _).mono ?_; rintro e w' ⟨rfl, rfl⟩) | (go_at_call 42; refine (hinf _).mono ?_; rintro e w' ⟨rfl, rfl⟩) | (go_at_call 44; refine (hpl _).mono ?_; rintro e w' ⟨rfl, g1⟩))
  exact bodyPost_ret (v := .float .f32 (wS true M)) (by simp [results, Try.results15, go_sem] <;> simp only [*]) rfl ⟨rfl, (by repeat (with_reducible (first | assumption | exact Grown.refl _ | apply Grown.drew | apply Grown.alloc | apply gdrewN | (refine gtrans ?_ (by assumption)))))⟩

set_option maxRecDepth 20000 in
set_option maxHeartbeats 1000000 in
theorem plain_s (n : Bool) (m : Nat) (h2 : m < 2147483648) (w : World) : Calls Try.prog 57 #[.float .f32 (wS n m)] w fun e w' => e = .returned (.float .f32 (wS (n && !(m == 0)) m)) ∧ w' = w := by
  have ho := eqzS n m h2
  by_cases c : m = 0
  · subst c
    have ew : wS (n && !((0 : Nat) == 0)) 0 = 0 := by simp [wS]
    rw [ew]
    clear ew
    have ho2 : (FloatKind.f32.format.order (wS n 0) 0 == some .eq) = true := by rw [ho]; rfl
    clear ho
    go_enter Try.func57, Try.ntmps57
    go_wp2
    exact bodyPost_ret (v := .float .f32 0) (by simp [results, Try.results57, go_sem] <;> simp only [*]) rfl ⟨rfl, rfl⟩
  · have ew : (n && !(m == 0)) = n := by simp [c]
    rw [ew]
    clear ew
    have ho2 : (FloatKind.f32.format.order (wS n m) 0 == some .eq) = false := by rw [ho]; simp [c]
    clear ho c
    go_enter Try.func57, Try.ntmps57
    go_wp2
    exact bodyPost_ret (v := .float .f32 (wS n m)) (by simp [results, Try.results57, go_sem] <;> simp only [*]) rfl ⟨rfl, rfl⟩

set_option maxRecDepth 20000 in
set_option maxHeartbeats 1000000 in
theorem rank_s (n : Bool) (m : Nat) (h2 : m < 2147483648) (w : World) : Calls Try.prog 80 #[.float .f32 (wS n m)] w fun e w' => e = .returned (.int .i64 (rkS n m)) ∧ Grown w w' := by
  have hpat := patt_s n m h2
  by_cases c : 2139095040 < m
  · have hpl := placen_s n m c h2
    have er : rkS n m = 9223372036854775807 := by unfold rkS rkG; simp [c]
    rw [er]
    clear er c h2
    go_enter Try.func80, Try.ntmps80
    go_wp2_with (first | (go_at_call 44; refine (hpl _).mono ?_; rintro e w' ⟨rfl, g1⟩) | (go_at_call 75; refine (hpat _).mono ?_; rintro e w' ⟨rfl, rfl⟩))
    exact bodyPost_ret (v := .int .i64 9223372036854775807) (by simp [results, Try.results80, go_sem] <;> simp only [*]) rfl ⟨rfl, (by repeat (with_reducible (first | assumption | exact Grown.refl _ | apply Grown.drew | apply Grown.alloc | apply gdrewN | (refine gtrans ?_ (by assumption)))))⟩
  · have hpl := place_s n m (by omega)
    have hb := plz_bd n m
    have er : rkS n m = plz n m - (if n then 1 else 0) := by unfold rkS rkG; simp [c]
    rw [er]
    clear er
    obtain ⟨p, hp⟩ : ∃ p : Int, p = plz n m := ⟨_, rfl⟩
    rw [← hp] at hpl hb ⊢
    have d2 : wrap64 (p - 1) = p - 1 := by unfold wrap64; omega
    have d3 : p - 0 = p := by omega
    clear h2 c hb hp
    cases n
    · simp only [Bool.false_eq_true, if_false, d3]
      go_enter Try.func80, Try.ntmps80
      go_wp2_with (first | (go_at_call 44; refine (hpl _).mono ?_; rintro e w' ⟨rfl, g1⟩) | (go_at_call 75; refine (hpat _).mono ?_; rintro e w' ⟨rfl, rfl⟩))
      exact bodyPost_ret (v := .int .i64 p) (by simp [results, Try.results80, go_sem] <;> simp only [*]) rfl ⟨rfl, (by repeat (with_reducible (first | assumption | exact Grown.refl _ | apply Grown.drew | apply Grown.alloc | apply gdrewN | (refine gtrans ?_ (by assumption)))))⟩
    · simp only [if_true]
      go_enter Try.func80, Try.ntmps80
      go_wp2_with (first | (go_at_call 44; refine (hpl _).mono ?_; rintro e w' ⟨rfl, g1⟩) | (go_at_call 75; refine (hpat _).mono ?_; rintro e w' ⟨rfl, rfl⟩))
      exact bodyPost_ret (v := .int .i64 (p - 1)) (by simp [results, Try.results80, go_sem] <;> simp only [*]) rfl ⟨rfl, (by repeat (with_reducible (first | assumption | exact Grown.refl _ | apply Grown.drew | apply Grown.alloc | apply gdrewN | (refine gtrans ?_ (by assumption)))))⟩

set_option maxRecDepth 20000 in
set_option maxHeartbeats 400000 in
theorem order_s (n n' : Bool) (m m' : Nat) (h2 : m < 2147483648) (h3 : m' < 2147483648) (w : World) : Calls Try.prog 56 #[.float .f32 (wS n m), .float .f32 (wS n' m')] w fun e w' => e = .returned (.int .i64 (cmpz (rkS n m) (rkS n' m'))) ∧ Grown w w' := by
  have hr1 := rank_s n m h2
  have hr2 := rank_s n' m' h3
  obtain ⟨x, hx⟩ : ∃ x : Nat, x = wS n m := ⟨_, rfl⟩
  obtain ⟨y, hy⟩ : ∃ y : Nat, y = wS n' m' := ⟨_, rfl⟩
  rw [← hx] at hr1 ⊢
  rw [← hy] at hr2 ⊢
  clear hx hy
  go_enter Try.func56, Try.ntmps56
  go_wp2_with fail
  refine (hr1 _).mono ?_; rintro e w' ⟨rfl, g1⟩
  go_wp2_with fail
  refine (hr2 _).mono ?_; rintro e w' ⟨rfl, g2⟩
  go_wp2_with (first | (go_at_call 66; refine (compare_int _ _ _).mono ?_; rintro e w' ⟨rfl, rfl⟩))
  exact bodyPost_ret (v := .int .i64 (cmpz (rkS n m) (rkS n' m'))) (by simp [results, Try.results56, go_sem] <;> simp only [*]) rfl ⟨rfl, (by repeat (with_reducible (first | assumption | exact Grown.refl _ | apply Grown.drew | apply Grown.alloc | apply gdrewN | (refine gtrans ?_ (by assumption)))))⟩

set_option maxRecDepth 20000 in
set_option maxHeartbeats 1000000 in
theorem place_near (n : Bool) (m : Nat) (hm : m ≤ 2139095040) (w : World) : Calls Try.prog 62 #[.float .f32 (wS n m)] w fun e w' => e = .returned (.tuple #[.int .i64 (plz n m), .bool true]) ∧ Grown w w' := by
  have hpat := patt_near n m (by omega)
  obtain ⟨I, hI⟩ : ∃ I : Int, I = 2139095040 := ⟨_, rfl⟩
  have hinf : ∀ w : World, Calls Try.prog 42 #[.agg #[.int .i64 24, .int .i64 (-149), .int .i64 104]] w fun e w' => e = .returned (.int .i64 I) ∧ w' = ((w.alloc (.cells #[.int .i64 24, .int .i64 (-149), .int .i64 104] 70)).alloc (.cells #[.int .i64 24, .int .i64 (-149), .int .i64 104] 70)).drew := by rw [hI]; exact infi_S
  have d1 : ¬ (I < (m : Int)) := by omega
  have d2 : wrap64 (-(m : Int)) = -(m : Int) := by unfold wrap64; omega
  clear hI hm
  cases n
  · have ec : plz false m = (m : Int) := rfl
    rw [ec]
    clear ec d2
    go_enter Try.func62, Try.ntmps62
    go_wp2_with (first | (go_at_call 79; refine (lay_near _).mono ?_; rintro e w' ⟨rfl, rfl⟩) | (go_at_call 84; refine (hpat _).mono ?_; rintro e w' ⟨rfl, rfl⟩) | (go_at_call 42; refine (hinf _).mono ?_; rintro e w' ⟨rfl, rfl⟩))
    exact bodyPost_ret (v := .tuple #[.int .i64 (m : Int), .bool true]) (by simp [results, Try.results62, go_sem] <;> simp only [*]) rfl ⟨rfl, (by repeat (with_reducible (first | assumption | exact Grown.refl _ | apply Grown.drew | apply Grown.alloc | apply gdrewN | (refine gtrans ?_ (by assumption)))))⟩
  · have ec : plz true m = -(m : Int) := rfl
    rw [ec]
    clear ec
    go_enter Try.func62, Try.ntmps62
    go_wp2_with (first | (go_at_call 79; refine (lay_near _).mono ?_; rintro e w' ⟨rfl, rfl⟩) | (go_at_call 84; refine (hpat _).mono ?_; rintro e w' ⟨rfl, rfl⟩) | (go_at_call 42; refine (hinf _).mono ?_; rintro e w' ⟨rfl, rfl⟩))
    exact bodyPost_ret (v := .tuple #[.int .i64 (-(m : Int)), .bool true]) (by simp [results, Try.results62, go_sem] <;> simp only [*]) rfl ⟨rfl, (by repeat (with_reducible (first | assumption | exact Grown.refl _ | apply Grown.drew | apply Grown.alloc | apply gdrewN | (refine gtrans ?_ (by assumption)))))⟩

set_option maxRecDepth 20000 in
set_option maxHeartbeats 1000000 in
theorem placen_near (n : Bool) (m : Nat) (hm : 2139095040 < m) (h2 : m < 2147483648) (w : World) : Calls Try.prog 62 #[.float .f32 (wS n m)] w fun e w' => e = .returned (.tuple #[.int .i64 0, .bool false]) ∧ Grown w w' := by
  have hpat := patt_near n m h2
  obtain ⟨I, hI⟩ : ∃ I : Int, I = 2139095040 := ⟨_, rfl⟩
  have hinf : ∀ w : World, Calls Try.prog 42 #[.agg #[.int .i64 24, .int .i64 (-149), .int .i64 104]] w fun e w' => e = .returned (.int .i64 I) ∧ w' = ((w.alloc (.cells #[.int .i64 24, .int .i64 (-149), .int .i64 104] 70)).alloc (.cells #[.int .i64 24, .int .i64 (-149), .int .i64 104] 70)).drew := by rw [hI]; exact infi_S
  have d1 : I < (m : Int) := by omega
  clear hI hm h2
  go_enter Try.func62, Try.ntmps62
  go_wp2_with (first | (go_at_call 79; refine (lay_near _).mono ?_; rintro e w' ⟨rfl, rfl⟩) | (go_at_call 84; refine (hpat _).mono ?_; rintro e w' ⟨rfl, rfl⟩) | (go_at_call 42; refine (hinf _).mono ?_; rintro e w' ⟨rfl, rfl⟩))
  exact bodyPost_ret (v := .tuple #[.int .i64 0, .bool false]) (by simp [results, Try.results62, go_sem] <;> simp only [*]) rfl ⟨rfl, (by repeat (with_reducible (first | assumption | exact Grown.refl _ | apply Grown.drew | apply Grown.alloc | apply gdrewN | (refine gtrans ?_ (by assumption)))))⟩

set_option maxRecDepth 20000 in
set_option maxHeartbeats 1000000 in
theorem at_near (p : Int) (h1 : -2139095040 ≤ p) (h2 : p ≤ 2139095040) (w : World) : Calls Try.prog 63 #[.int .i64 p] w fun e w' => e = .returned (.tuple #[.float .f32 (fS p), .bool true]) ∧ Grown w w' := by
  obtain ⟨I, hI⟩ : ∃ I : Int, I = 2139095040 := ⟨_, rfl⟩
  have hinf : ∀ w : World, Calls Try.prog 42 #[.agg #[.int .i64 24, .int .i64 (-149), .int .i64 104]] w fun e w' => e = .returned (.int .i64 I) ∧ w' = ((w.alloc (.cells #[.int .i64 24, .int .i64 (-149), .int .i64 104] 70)).alloc (.cells #[.int .i64 24, .int .i64 (-149), .int .i64 104] 70)).drew := by rw [hI]; exact infi_S
  have d1 : ¬ (p < -I) := by omega
  have d2 : ¬ (I < p) := by omega
  have d0 : wrap64 (-I) = -I := by unfold wrap64; omega
  by_cases c : p < 0
  · have ef : fS p = wS true p.natAbs := by unfold fS; simp [c]
    rw [ef]
    have e2 : wrap64 (-p) = ((p.natAbs : Nat) : Int) := by unfold wrap64; omega
    have hfr := from_near p.natAbs (by omega)
    obtain ⟨a, ha⟩ : ∃ a : Nat, a = p.natAbs := ⟨_, rfl⟩
    rw [← ha] at e2 hfr ⊢
    have hng : Op.unary .neg (.float .f32 (wS false a)) = pure (.float .f32 (wS true a)) := by
      show pure (Value.float .f32 (Op.negFloat .f32 (wS false a))) = _
      rw [negS false a (by omega)]; rfl
    clear hI h1 h2 ef ha
    go_enter Try.func63, Try.ntmps63
    go_wp2_with (first | (go_at_call 79; refine (lay_near _).mono ?_; rintro e w' ⟨rfl, rfl⟩) | (go_at_call 85; refine (hfr _).mono ?_; rintro e w' ⟨rfl, rfl⟩) | (go_at_call 42; refine (hinf _).mono ?_; rintro e w' ⟨rfl, rfl⟩))
    exact bodyPost_ret (v := .tuple #[.float .f32 (wS true a), .bool true]) (by simp [results, Try.results63, go_sem] <;> simp only [*]) rfl ⟨rfl, (by repeat (with_reducible (first | assumption | exact Grown.refl _ | apply Grown.drew | apply Grown.alloc | apply gdrewN | (refine gtrans ?_ (by assumption)))))⟩
  · have ef : fS p = wS false p.natAbs := by unfold fS; simp [c]
    rw [ef]
    have e2 : p = ((p.natAbs : Nat) : Int) := by omega
    have hfr : ∀ w : World, Calls Try.prog 85 #[.int .i64 p] w fun e w' => e = .returned (.float .f32 (wS false p.natAbs)) ∧ w' = w := by
      have := from_near p.natAbs (by omega)
      rw [← e2] at this; exact this
    obtain ⟨a, ha⟩ : ∃ a : Nat, a = p.natAbs := ⟨_, rfl⟩
    rw [← ha] at hfr ⊢
    clear hI h1 h2 ef ha e2
    go_enter Try.func63, Try.ntmps63
    go_wp2_with (first | (go_at_call 79; refine (lay_near _).mono ?_; rintro e w' ⟨rfl, rfl⟩) | (go_at_call 85; refine (hfr _).mono ?_; rintro e w' ⟨rfl, rfl⟩) | (go_at_call 42; refine (hinf _).mono ?_; rintro e w' ⟨rfl, rfl⟩))
    exact bodyPost_ret (v := .tuple #[.float .f32 (wS false a), .bool true]) (by simp [results, Try.results63, go_sem] <;> simp only [*]) rfl ⟨rfl, (by repeat (with_reducible (first | assumption | exact Grown.refl _ | apply Grown.drew | apply Grown.alloc | apply gdrewN | (refine gtrans ?_ (by assumption)))))⟩

set_option maxRecDepth 20000 in
set_option maxHeartbeats 1000000 in
theorem atx_near (p : Int) (h : p < -2139095040 ∨ 2139095040 < p) (w : World) : Calls Try.prog 63 #[.int .i64 p] w fun e w' => e = .returned (.tuple #[.float .f32 (wS false 0), .bool false]) ∧ Grown w w' := by
  obtain ⟨I, hI⟩ : ∃ I : Int, I = 2139095040 := ⟨_, rfl⟩
  have hinf : ∀ w : World, Calls Try.prog 42 #[.agg #[.int .i64 24, .int .i64 (-149), .int .i64 104]] w fun e w' => e = .returned (.int .i64 I) ∧ w' = ((w.alloc (.cells #[.int .i64 24, .int .i64 (-149), .int .i64 104] 70)).alloc (.cells #[.int .i64 24, .int .i64 (-149), .int .i64 104] 70)).drew := by rw [hI]; exact infi_S
  have d0 : wrap64 (-I) = -I := by unfold wrap64; omega
  have ew : wS false 0 = 0 := rfl
  rw [ew]
  clear ew
  rcases h with h | h
  · have d1 : p < -I := by omega
    clear hI h
    go_enter Try.func63, Try.ntmps63
    go_wp2_with (first | (go_at_call 79; refine (lay_near _).mono ?_; rintro e w' ⟨rfl, rfl⟩) | (go_at_call 85; refine (hfr _).mono ?_; rintro e w' ⟨rfl, rfl⟩) | (go_at_call 42; refine (hinf _).mono ?_; rintro e w' ⟨rfl, rfl⟩))
    exact bodyPost_ret (v := .tuple #[.float .f32 0, .bool false]) (by simp [results, Try.results63, go_sem] <;> simp only [*]) rfl ⟨rfl, (by repeat (with_reducible (first | assumption | exact Grown.refl _ | apply Grown.drew | apply Grown.alloc | apply gdrewN | (refine gtrans ?_ (by assumption)))))⟩
  · have d1 : ¬ (p < -I) := by omega
    have d2 : I < p := by omega
    clear hI h
    go_enter Try.func63, Try.ntmps63
    go_wp2_with (first | (go_at_call 79; refine (lay_near _).mono ?_; rintro e w' ⟨rfl, rfl⟩) | (go_at_call 85; refine (hfr _).mono ?_; rintro e w' ⟨rfl, rfl⟩) | (go_at_call 42; refine (hinf _).mono ?_; rintro e w' ⟨rfl, rfl⟩))
    exact bodyPost_ret (v := .tuple #[.float .f32 0, .bool false]) (by simp [results, Try.results63, go_sem] <;> simp only [*]) rfl ⟨rfl, (by repeat (with_reducible (first | assumption | exact Grown.refl _ | apply Grown.drew | apply Grown.alloc | apply gdrewN | (refine gtrans ?_ (by assumption)))))⟩

set_option maxRecDepth 20000 in
set_option maxHeartbeats 1000000 in
theorem up_near (n : Bool) (m : Nat) (hm : m ≤ 2139095040) (h2 : plz n m ≠ 2139095040) (w : World) : Calls Try.prog 52 #[.float .f32 (wS n m)] w fun e w' => e = .returned (.float .f32 (fS (plz n m + 1))) ∧ Grown w w' := by
  have hpl := place_near n m hm
  obtain ⟨I, hI⟩ : ∃ I : Int, I = 2139095040 := ⟨_, rfl⟩
  have hinf : ∀ w : World, Calls Try.prog 42 #[.agg #[.int .i64 24, .int .i64 (-149), .int .i64 104]] w fun e w' => e = .returned (.int .i64 I) ∧ w' = ((w.alloc (.cells #[.int .i64 24, .int .i64 (-149), .int .i64 104] 70)).alloc (.cells #[.int .i64 24, .int .i64 (-149), .int .i64 104] 70)).drew := by rw [hI]; exact infi_S
  have hb := plz_bd n m
  obtain ⟨p, hp⟩ : ∃ p : Int, p = plz n m := ⟨_, rfl⟩
  rw [← hp] at hpl h2 hb ⊢
  have hat := at_near (p + 1) (by omega) (by omega)
  have d1 : (p == I) = false := by simp; omega
  have d2 : wrap64 (p + 1) = p + 1 := by unfold wrap64; omega
  have d3 : ¬ (p = I) := by omega
  clear hI hm h2 hb hp
  go_enter Try.func52, Try.ntmps52
  go_wp2_with (first | (go_at_call 79; refine (lay_near _).mono ?_; rintro e w' ⟨rfl, rfl⟩) | (go_at_call 42; refine (hinf _).mono ?_; rintro e w' ⟨rfl, rfl⟩) | (go_at_call 62; refine (hpl _).mono ?_; rintro e w' ⟨rfl, g1⟩) | (go_at_call 63; refine (hat _).mono ?_; rintro e w' ⟨rfl, g2⟩))
  exact bodyPost_ret (v := .float .f32 (fS (p + 1))) (by simp [results, Try.results52, go_sem] <;> simp only [*]) rfl ⟨rfl, (by repeat (with_reducible (first | assumption | exact Grown.refl _ | apply Grown.drew | apply Grown.alloc | apply gdrewN | (refine gtrans ?_ (by assumption)))))⟩

set_option maxRecDepth 20000 in
set_option maxHeartbeats 1000000 in
theorem upn_near (n : Bool) (m : Nat) (hm : 2139095040 < m) (h2 : m < 2147483648) (w : World) : Calls Try.prog 52 #[.float .f32 (wS n m)] w fun e w' => e = .returned (.float .f32 (wS n m)) ∧ Grown w w' := by
  have hpl := placen_near n m hm h2
  clear hm h2
  go_enter Try.func52, Try.ntmps52
  go_wp2_with (first | (go_at_call 62; refine (hpl _).mono ?_; rintro e w' ⟨rfl, g1⟩))
  exact bodyPost_ret (v := .float .f32 (wS n m)) (by simp [results, Try.results52, go_sem] <;> simp only [*]) rfl ⟨rfl, (by repeat (with_reducible (first | assumption | exact Grown.refl _ | apply Grown.drew | apply Grown.alloc | apply gdrewN | (refine gtrans ?_ (by assumption)))))⟩

set_option maxRecDepth 20000 in
set_option maxHeartbeats 1000000 in
theorem upe_near (w : World) : Calls Try.prog 52 #[.float .f32 (wS false 2139095040)] w fun e w' => e = .returned (.float .f32 (wS false 2139095040)) ∧ Grown w w' := by
  have hpl := place_near false 2139095040 (by omega)
  obtain ⟨I, hI⟩ : ∃ I : Int, I = 2139095040 := ⟨_, rfl⟩
  have hinf : ∀ w : World, Calls Try.prog 42 #[.agg #[.int .i64 24, .int .i64 (-149), .int .i64 104]] w fun e w' => e = .returned (.int .i64 I) ∧ w' = ((w.alloc (.cells #[.int .i64 24, .int .i64 (-149), .int .i64 104] 70)).alloc (.cells #[.int .i64 24, .int .i64 (-149), .int .i64 104] 70)).drew := by rw [hI]; exact infi_S
  have ep : plz false 2139095040 = I := by rw [hI]; rfl
  rw [ep] at hpl
  clear hI ep
  obtain ⟨M, hM⟩ : ∃ M : Nat, M = 2139095040 := ⟨_, rfl⟩
  rw [← hM] at hpl ⊢
  clear hM
  go_enter Try.func52, Try.ntmps52
  go_wp2_with (first | (go_at_call 79; refine (lay_near _).mono ?_; rintro e w' ⟨rfl, rfl⟩) | (go_at_call 42; refine (hinf _).mono ?_; rintro e w' ⟨rfl, rfl⟩) | (go_at_call 62; refine (hpl _).mono ?_; rintro e w' ⟨rfl, g1⟩))
  exact bodyPost_ret (v := .float .f32 (wS false M)) (by simp [results, Try.results52, go_sem] <;> simp only [*]) rfl ⟨rfl, (by repeat (with_reducible (first | assumption | exact Grown.refl _ | apply Grown.drew | apply Grown.alloc | apply gdrewN | (refine gtrans ?_ (by assumption)))))⟩

set_option maxRecDepth 20000 in
set_option maxHeartbeats 1000000 in
theorem dn_near (n : Bool) (m : Nat) (hm : m ≤ 2139095040) (h2 : plz n m ≠ -2139095040) (w : World) : Calls Try.prog 53 #[.float .f32 (wS n m)] w fun e w' => e = .returned (.float .f32 (fS (plz n m - 1))) ∧ Grown w w' := by
  have hpl := place_near n m hm
  obtain ⟨I, hI⟩ : ∃ I : Int, I = 2139095040 := ⟨_, rfl⟩
  have hinf : ∀ w : World, Calls Try.prog 42 #[.agg #[.int .i64 24, .int .i64 (-149), .int .i64 104]] w fun e w' => e = .returned (.int .i64 I) ∧ w' = ((w.alloc (.cells #[.int .i64 24, .int .i64 (-149), .int .i64 104] 70)).alloc (.cells #[.int .i64 24, .int .i64 (-149), .int .i64 104] 70)).drew := by rw [hI]; exact infi_S
  have hb := plz_bd n m
  obtain ⟨p, hp⟩ : ∃ p : Int, p = plz n m := ⟨_, rfl⟩
  rw [← hp] at hpl h2 hb ⊢
  have hat := at_near (p - 1) (by omega) (by omega)
  have d1 : (p == -I) = false := by simp; omega
  have d2 : wrap64 (p - 1) = p - 1 := by unfold wrap64; omega
  have d0 : wrap64 (-I) = -I := by unfold wrap64; omega
  have d3 : ¬ (p = -I) := by omega
  clear hI hm h2 hb hp
  go_enter Try.func53, Try.ntmps53
  go_wp2_with (first | (go_at_call 79; refine (lay_near _).mono ?_; rintro e w' ⟨rfl, rfl⟩) | (go_at_call 42; refine (hinf _).mono ?_; rintro e w' ⟨rfl, rfl⟩) | (go_at_call 62; refine (hpl _).mono ?_; rintro e w' ⟨rfl, g1⟩) | (go_at_call 63; refine (hat _).mono ?_; rintro e w' ⟨rfl, g2⟩))
  exact bodyPost_ret (v := .float .f32 (fS (p - 1))) (by simp [results, Try.results53, go_sem] <;> simp only [*]) rfl ⟨rfl, (by repeat (with_reducible (first | assumption | exact Grown.refl _ | apply Grown.drew | apply Grown.alloc | apply gdrewN | (refine gtrans ?_ (by assumption)))))⟩

set_option maxRecDepth 20000 in
set_option maxHeartbeats 1000000 in
theorem dnn_near (n : Bool) (m : Nat) (hm : 2139095040 < m) (h2 : m < 2147483648) (w : World) : Calls Try.prog 53 #[.float .f32 (wS n m)] w fun e w' => e = .returned (.float .f32 (wS n m)) ∧ Grown w w' := by
  have hpl := placen_near n m hm h2
  clear hm h2
  go_enter Try.func53, Try.ntmps53
  go_wp2_with (first | (go_at_call 62; refine (hpl _).mono ?_; rintro e w' ⟨rfl, g1⟩))
  exact bodyPost_ret (v := .float .f32 (wS n m)) (by simp [results, Try.results53, go_sem] <;> simp only [*]) rfl ⟨rfl, (by repeat (with_reducible (first | assumption | exact Grown.refl _ | apply Grown.drew | apply Grown.alloc | apply gdrewN | (refine gtrans ?_ (by assumption)))))⟩

set_option maxRecDepth 20000 in
set_option maxHeartbeats 1000000 in
theorem dne_near (w : World) : Calls Try.prog 53 #[.float .f32 (wS true 2139095040)] w fun e w' => e = .returned (.float .f32 (wS true 2139095040)) ∧ Grown w w' := by
  have hpl := place_near true 2139095040 (by omega)
  obtain ⟨I, hI⟩ : ∃ I : Int, I = 2139095040 := ⟨_, rfl⟩
  have hinf : ∀ w : World, Calls Try.prog 42 #[.agg #[.int .i64 24, .int .i64 (-149), .int .i64 104]] w fun e w' => e = .returned (.int .i64 I) ∧ w' = ((w.alloc (.cells #[.int .i64 24, .int .i64 (-149), .int .i64 104] 70)).alloc (.cells #[.int .i64 24, .int .i64 (-149), .int .i64 104] 70)).drew := by rw [hI]; exact infi_S
  have ep : plz true 2139095040 = -I := by rw [hI]; rfl
  rw [ep] at hpl
  have d0 : wrap64 (-I) = -I := by unfold wrap64; omega
  clear hI ep
  obtain ⟨M, hM⟩ : ∃ M : Nat, M = 2139095040 := ⟨_, rfl⟩
  rw [← hM] at hpl ⊢
  clear hM
  go_enter Try.func53, Try.ntmps53
  go_wp2_with (first | (go_at_call 79; refine (lay_near _).mono ?_; rintro e w' ⟨rfl, rfl⟩) | (go_at_call 42; refine (hinf _).mono ?_; rintro e w' ⟨rfl, rfl⟩) | (go_at_call 62; refine (hpl _).mono ?_; rintro e w' ⟨rfl, g1⟩))
  exact bodyPost_ret (v := .float .f32 (wS true M)) (by simp [results, Try.results53, go_sem] <;> simp only [*]) rfl ⟨rfl, (by repeat (with_reducible (first | assumption | exact Grown.refl _ | apply Grown.drew | apply Grown.alloc | apply gdrewN | (refine gtrans ?_ (by assumption)))))⟩

set_option maxRecDepth 20000 in
set_option maxHeartbeats 1000000 in
theorem plain_near (n : Bool) (m : Nat) (h2 : m < 2147483648) (w : World) : Calls Try.prog 65 #[.float .f32 (wS n m)] w fun e w' => e = .returned (.float .f32 (wS (n && !(m == 0)) m)) ∧ w' = w := by
  have ho := eqzS n m h2
  by_cases c : m = 0
  · subst c
    have ew : wS (n && !((0 : Nat) == 0)) 0 = 0 := by simp [wS]
    rw [ew]
    clear ew
    have ho2 : (FloatKind.f32.format.order (wS n 0) 0 == some .eq) = true := by rw [ho]; rfl
    clear ho
    go_enter Try.func65, Try.ntmps65
    go_wp2
    exact bodyPost_ret (v := .float .f32 0) (by simp [results, Try.results65, go_sem] <;> simp only [*]) rfl ⟨rfl, rfl⟩
  · have ew : (n && !(m == 0)) = n := by simp [c]
    rw [ew]
    clear ew
    have ho2 : (FloatKind.f32.format.order (wS n m) 0 == some .eq) = false := by rw [ho]; simp [c]
    clear ho c
    go_enter Try.func65, Try.ntmps65
    go_wp2
    exact bodyPost_ret (v := .float .f32 (wS n m)) (by simp [results, Try.results65, go_sem] <;> simp only [*]) rfl ⟨rfl, rfl⟩

set_option maxRecDepth 20000 in
set_option maxHeartbeats 1000000 in
theorem rank_near (n : Bool) (m : Nat) (h2 : m < 2147483648) (w : World) : Calls Try.prog 86 #[.float .f32 (wS n m)] w fun e w' => e = .returned (.int .i64 (rkS n m)) ∧ Grown w w' := by
  have hpat := patt_near n m h2
  by_cases c : 2139095040 < m
  · have hpl := placen_near n m c h2
    have er : rkS n m = 9223372036854775807 := by unfold rkS rkG; simp [c]
    rw [er]
    clear er c h2
    go_enter Try.func86, Try.ntmps86
    go_wp2_with (first | (go_at_call 62; refine (hpl _).mono ?_; rintro e w' ⟨rfl, g1⟩) | (go_at_call 84; refine (hpat _).mono ?_; rintro e w' ⟨rfl, rfl⟩))
    exact bodyPost_ret (v := .int .i64 9223372036854775807) (by simp [results, Try.results86, go_sem] <;> simp only [*]) rfl ⟨rfl, (by repeat (with_reducible (first | assumption | exact Grown.refl _ | apply Grown.drew | apply Grown.alloc | apply gdrewN | (refine gtrans ?_ (by assumption)))))⟩
  · have hpl := place_near n m (by omega)
    have hb := plz_bd n m
    have er : rkS n m = plz n m - (if n then 1 else 0) := by unfold rkS rkG; simp [c]
    rw [er]
    clear er
    obtain ⟨p, hp⟩ : ∃ p : Int, p = plz n m := ⟨_, rfl⟩
    rw [← hp] at hpl hb ⊢
    have d2 : wrap64 (p - 1) = p - 1 := by unfold wrap64; omega
    have d3 : p - 0 = p := by omega
    clear h2 c hb hp
    cases n
    · simp only [Bool.false_eq_true, if_false, d3]
      go_enter Try.func86, Try.ntmps86
      go_wp2_with (first | (go_at_call 62; refine (hpl _).mono ?_; rintro e w' ⟨rfl, g1⟩) | (go_at_call 84; refine (hpat _).mono ?_; rintro e w' ⟨rfl, rfl⟩))
      exact bodyPost_ret (v := .int .i64 p) (by simp [results, Try.results86, go_sem] <;> simp only [*]) rfl ⟨rfl, (by repeat (with_reducible (first | assumption | exact Grown.refl _ | apply Grown.drew | apply Grown.alloc | apply gdrewN | (refine gtrans ?_ (by assumption)))))⟩
    · simp only [if_true]
      go_enter Try.func86, Try.ntmps86
      go_wp2_with (first | (go_at_call 62; refine (hpl _).mono ?_; rintro e w' ⟨rfl, g1⟩) | (go_at_call 84; refine (hpat _).mono ?_; rintro e w' ⟨rfl, rfl⟩))
      exact bodyPost_ret (v := .int .i64 (p - 1)) (by simp [results, Try.results86, go_sem] <;> simp only [*]) rfl ⟨rfl, (by repeat (with_reducible (first | assumption | exact Grown.refl _ | apply Grown.drew | apply Grown.alloc | apply gdrewN | (refine gtrans ?_ (by assumption)))))⟩

set_option maxRecDepth 20000 in
set_option maxHeartbeats 400000 in
theorem order_near (n n' : Bool) (m m' : Nat) (h2 : m < 2147483648) (h3 : m' < 2147483648) (w : World) : Calls Try.prog 64 #[.float .f32 (wS n m), .float .f32 (wS n' m')] w fun e w' => e = .returned (.int .i64 (cmpz (rkS n m) (rkS n' m'))) ∧ Grown w w' := by
  have hr1 := rank_near n m h2
  have hr2 := rank_near n' m' h3
  obtain ⟨x, hx⟩ : ∃ x : Nat, x = wS n m := ⟨_, rfl⟩
  obtain ⟨y, hy⟩ : ∃ y : Nat, y = wS n' m' := ⟨_, rfl⟩
  rw [← hx] at hr1 ⊢
  rw [← hy] at hr2 ⊢
  clear hx hy
  go_enter Try.func64, Try.ntmps64
  go_wp2_with fail
  refine (hr1 _).mono ?_; rintro e w' ⟨rfl, g1⟩
  go_wp2_with fail
  refine (hr2 _).mono ?_; rintro e w' ⟨rfl, g2⟩
  go_wp2_with (first | (go_at_call 66; refine (compare_int _ _ _).mono ?_; rintro e w' ⟨rfl, rfl⟩))
  exact bodyPost_ret (v := .int .i64 (cmpz (rkS n m) (rkS n' m'))) (by simp [results, Try.results64, go_sem] <;> simp only [*]) rfl ⟨rfl, (by repeat (with_reducible (first | assumption | exact Grown.refl _ | apply Grown.drew | apply Grown.alloc | apply gdrewN | (refine gtrans ?_ (by assumption)))))⟩

end Go.Proofs.Ytpmcdhhlhiobiac
