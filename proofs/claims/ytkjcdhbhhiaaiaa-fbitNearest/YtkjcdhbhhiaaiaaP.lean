import Derived.Test.YtkjcdhbhhiaaiaaProg
import Derived.Test.YtkjcdhbhhiaaiaaM
import Derived.Test.YtkjcdhbhhiaaiaaA
import Derived.WalkKit
import Derived.ProofKit
import Derived.RowKit3
import Derived.Deep.RegionHeld3
import Derived.WalkSpells
import Derived.StillTactics
import Derived.Laws.FloatArith
import Derived.Deep.QuietTactic
import Derived.BigQuiet
namespace Go.Proofs.Ytkjcdhbhhiaaiaa
open Go.RowKit
set_option maxRecDepth 20000 in
set_option maxHeartbeats 1000000 in
theorem place_d (n : Bool) (m : Nat) (hm : m ≤ 9218868437227405312) (w : World) : Calls Try.prog 62 #[.float .f64 (wD n m)] w fun e w' => e = .returned (.tuple #[.int .i64 (plz n m), .bool true]) ∧ Grown w w' := by
  have hpat := patt_d n m (by omega)
  obtain ⟨I, hI⟩ : ∃ I : Int, I = 9218868437227405312 := ⟨_, rfl⟩
  have hinf : ∀ w : World, Calls Try.prog 49 #[.agg #[.int .i64 53, .int .i64 (-1074), .int .i64 971]] w fun e w' => e = .returned (.int .i64 I) ∧ w' = ((w.alloc (.cells #[.int .i64 53, .int .i64 (-1074), .int .i64 971] 74)).alloc (.cells #[.int .i64 53, .int .i64 (-1074), .int .i64 971] 74)).drew := by rw [hI]; exact infi_D
  have d1 : ¬ (I < (m : Int)) := by omega
  have d2 : wrap64 (-(m : Int)) = -(m : Int) := by unfold wrap64; omega
  clear hI hm
  cases n
  · have ec : plz false m = (m : Int) := rfl
    rw [ec]
    clear ec d2
    go_enter Try.func62, Try.ntmps62
    go_wp2_with (first | (go_at_call 47; refine (lay_d _).mono ?_; rintro e w' ⟨rfl, rfl⟩) | (go_at_call 48; refine (hpat _).mono ?_; rintro e w' ⟨rfl, rfl⟩) | (go_at_call 49; refine (hinf _).mono ?_; rintro e w' ⟨rfl, rfl⟩))
    exact bodyPost_ret (v := .tuple #[.int .i64 (m : Int), .bool true]) (by simp [results, Try.results62, go_sem] <;> simp only [*]) rfl ⟨rfl, (by repeat (with_reducible (first | assumption | exact Grown.refl _ | apply Grown.drew | apply Grown.alloc | apply gdrewN | (refine gtrans ?_ (by assumption)))))⟩
  · have ec : plz true m = -(m : Int) := rfl
    rw [ec]
    clear ec
    go_enter Try.func62, Try.ntmps62
    go_wp2_with (first | (go_at_call 47; refine (lay_d _).mono ?_; rintro e w' ⟨rfl, rfl⟩) | (go_at_call 48; refine (hpat _).mono ?_; rintro e w' ⟨rfl, rfl⟩) | (go_at_call 49; refine (hinf _).mono ?_; rintro e w' ⟨rfl, rfl⟩))
    exact bodyPost_ret (v := .tuple #[.int .i64 (-(m : Int)), .bool true]) (by simp [results, Try.results62, go_sem] <;> simp only [*]) rfl ⟨rfl, (by repeat (with_reducible (first | assumption | exact Grown.refl _ | apply Grown.drew | apply Grown.alloc | apply gdrewN | (refine gtrans ?_ (by assumption)))))⟩

set_option maxRecDepth 20000 in
set_option maxHeartbeats 1000000 in
theorem placen_d (n : Bool) (m : Nat) (hm : 9218868437227405312 < m) (h2 : m < 9223372036854775808) (w : World) : Calls Try.prog 62 #[.float .f64 (wD n m)] w fun e w' => e = .returned (.tuple #[.int .i64 0, .bool false]) ∧ Grown w w' := by
  have hpat := patt_d n m h2
  obtain ⟨I, hI⟩ : ∃ I : Int, I = 9218868437227405312 := ⟨_, rfl⟩
  have hinf : ∀ w : World, Calls Try.prog 49 #[.agg #[.int .i64 53, .int .i64 (-1074), .int .i64 971]] w fun e w' => e = .returned (.int .i64 I) ∧ w' = ((w.alloc (.cells #[.int .i64 53, .int .i64 (-1074), .int .i64 971] 74)).alloc (.cells #[.int .i64 53, .int .i64 (-1074), .int .i64 971] 74)).drew := by rw [hI]; exact infi_D
  have d1 : I < (m : Int) := by omega
  clear hI hm h2
  go_enter Try.func62, Try.ntmps62
  go_wp2_with (first | (go_at_call 47; refine (lay_d _).mono ?_; rintro e w' ⟨rfl, rfl⟩) | (go_at_call 48; refine (hpat _).mono ?_; rintro e w' ⟨rfl, rfl⟩) | (go_at_call 49; refine (hinf _).mono ?_; rintro e w' ⟨rfl, rfl⟩))
  exact bodyPost_ret (v := .tuple #[.int .i64 0, .bool false]) (by simp [results, Try.results62, go_sem] <;> simp only [*]) rfl ⟨rfl, (by repeat (with_reducible (first | assumption | exact Grown.refl _ | apply Grown.drew | apply Grown.alloc | apply gdrewN | (refine gtrans ?_ (by assumption)))))⟩

set_option maxRecDepth 20000 in
set_option maxHeartbeats 1000000 in
theorem at_d (p : Int) (h1 : -9218868437227405312 ≤ p) (h2 : p ≤ 9218868437227405312) (w : World) : Calls Try.prog 63 #[.int .i64 p] w fun e w' => e = .returned (.tuple #[.float .f64 (fD p), .bool true]) ∧ Grown w w' := by
  obtain ⟨I, hI⟩ : ∃ I : Int, I = 9218868437227405312 := ⟨_, rfl⟩
  have hinf : ∀ w : World, Calls Try.prog 49 #[.agg #[.int .i64 53, .int .i64 (-1074), .int .i64 971]] w fun e w' => e = .returned (.int .i64 I) ∧ w' = ((w.alloc (.cells #[.int .i64 53, .int .i64 (-1074), .int .i64 971] 74)).alloc (.cells #[.int .i64 53, .int .i64 (-1074), .int .i64 971] 74)).drew := by rw [hI]; exact infi_D
  have d1 : ¬ (p < -I) := by omega
  have d2 : ¬ (I < p) := by omega
  have d0 : wrap64 (-I) = -I := by unfold wrap64; omega
  by_cases c : p < 0
  · have ef : fD p = wD true p.natAbs := by unfold fD; simp [c]
    rw [ef]
    have e2 : wrap64 (-p) = ((p.natAbs : Nat) : Int) := by unfold wrap64; omega
    have hfr := from_d p.natAbs (by omega)
    obtain ⟨a, ha⟩ : ∃ a : Nat, a = p.natAbs := ⟨_, rfl⟩
    rw [← ha] at e2 hfr ⊢
    have hng : Op.unary .neg (.float .f64 (wD false a)) = pure (.float .f64 (wD true a)) := by
      show pure (Value.float .f64 (Op.negFloat .f64 (wD false a))) = _
      rw [negD false a (by omega)]; rfl
    clear hI h1 h2 ef ha
    go_enter Try.func63, Try.ntmps63
    go_wp2_with (first | (go_at_call 47; refine (lay_d _).mono ?_; rintro e w' ⟨rfl, rfl⟩) | (go_at_call 74; refine (hfr _).mono ?_; rintro e w' ⟨rfl, rfl⟩) | (go_at_call 49; refine (hinf _).mono ?_; rintro e w' ⟨rfl, rfl⟩))
    exact bodyPost_ret (v := .tuple #[.float .f64 (wD true a), .bool true]) (by simp [results, Try.results63, go_sem] <;> simp only [*]) rfl ⟨rfl, (by repeat (with_reducible (first | assumption | exact Grown.refl _ | apply Grown.drew | apply Grown.alloc | apply gdrewN | (refine gtrans ?_ (by assumption)))))⟩
  · have ef : fD p = wD false p.natAbs := by unfold fD; simp [c]
    rw [ef]
    have e2 : p = ((p.natAbs : Nat) : Int) := by omega
    have hfr : ∀ w : World, Calls Try.prog 74 #[.int .i64 p] w fun e w' => e = .returned (.float .f64 (wD false p.natAbs)) ∧ w' = w := by
      have := from_d p.natAbs (by omega)
      rw [← e2] at this; exact this
    obtain ⟨a, ha⟩ : ∃ a : Nat, a = p.natAbs := ⟨_, rfl⟩
    rw [← ha] at hfr ⊢
    clear hI h1 h2 ef ha e2
    go_enter Try.func63, Try.ntmps63
    go_wp2_with (first | (go_at_call 47; refine (lay_d _).mono ?_; rintro e w' ⟨rfl, rfl⟩) | (go_at_call 74; refine (hfr _).mono ?_; rintro e w' ⟨rfl, rfl⟩) | (go_at_call 49; refine (hinf _).mono ?_; rintro e w' ⟨rfl, rfl⟩))
    exact bodyPost_ret (v := .tuple #[.float .f64 (wD false a), .bool true]) (by simp [results, Try.results63, go_sem] <;> simp only [*]) rfl ⟨rfl, (by repeat (with_reducible (first | assumption | exact Grown.refl _ | apply Grown.drew | apply Grown.alloc | apply gdrewN | (refine gtrans ?_ (by assumption)))))⟩

set_option maxRecDepth 20000 in
set_option maxHeartbeats 1000000 in
theorem atx_d (p : Int) (h : p < -9218868437227405312 ∨ 9218868437227405312 < p) (w : World) : Calls Try.prog 63 #[.int .i64 p] w fun e w' => e = .returned (.tuple #[.float .f64 (wD false 0), .bool false]) ∧ Grown w w' := by
  obtain ⟨I, hI⟩ : ∃ I : Int, I = 9218868437227405312 := ⟨_, rfl⟩
  have hinf : ∀ w : World, Calls Try.prog 49 #[.agg #[.int .i64 53, .int .i64 (-1074), .int .i64 971]] w fun e w' => e = .returned (.int .i64 I) ∧ w' = ((w.alloc (.cells #[.int .i64 53, .int .i64 (-1074), .int .i64 971] 74)).alloc (.cells #[.int .i64 53, .int .i64 (-1074), .int .i64 971] 74)).drew := by rw [hI]; exact infi_D
  have d0 : wrap64 (-I) = -I := by unfold wrap64; omega
  have ew : wD false 0 = 0 := rfl
  rw [ew]
  clear ew
  rcases h with h | h
  · have d1 : p < -I := by omega
    clear hI h
    go_enter Try.func63, Try.ntmps63
    go_wp2_with (first | (go_at_call 47; refine (lay_d _).mono ?_; rintro e w' ⟨rfl, rfl⟩) | (go_at_call 74; refine (hfr _).mono ?_; rintro e w' ⟨rfl, rfl⟩) | (go_at_call 49; refine (hinf _).mono ?_; rintro e w' ⟨rfl, rfl⟩))
    exact bodyPost_ret (v := .tuple #[.float .f64 0, .bool false]) (by simp [results, Try.results63, go_sem] <;> simp only [*]) rfl ⟨rfl, (by repeat (with_reducible (first | assumption | exact Grown.refl _ | apply Grown.drew | apply Grown.alloc | apply gdrewN | (refine gtrans ?_ (by assumption)))))⟩
  · have d1 : ¬ (p < -I) := by omega
    have d2 : I < p := by omega
    clear hI h
    go_enter Try.func63, Try.ntmps63
    go_wp2_with (first | (go_at_call 47; refine (lay_d _).mono ?_; rintro e w' ⟨rfl, rfl⟩) | (go_at_call 74; refine (hfr _).mono ?_; rintro e w' ⟨rfl, rfl⟩) | (go_at_call 49; refine (hinf _).mono ?_; rintro e w' ⟨rfl, rfl⟩))
    exact bodyPost_ret (v := .tuple #[.float .f64 0, .bool false]) (by simp [results, Try.results63, go_sem] <;> simp only [*]) rfl ⟨rfl, (by repeat (with_reducible (first | assumption | exact Grown.refl _ | apply Grown.drew | apply Grown.alloc | apply gdrewN | (refine gtrans ?_ (by assumption)))))⟩

set_option maxRecDepth 20000 in
set_option maxHeartbeats 1000000 in
theorem up_d (n : Bool) (m : Nat) (hm : m ≤ 9218868437227405312) (h2 : plz n m ≠ 9218868437227405312) (w : World) : Calls Try.prog 38 #[.float .f64 (wD n m)] w fun e w' => e = .returned (.float .f64 (fD (plz n m + 1))) ∧ Grown w w' := by
  have hpl := place_d n m hm
  obtain ⟨I, hI⟩ : ∃ I : Int, I = 9218868437227405312 := ⟨_, rfl⟩
  have hinf : ∀ w : World, Calls Try.prog 49 #[.agg #[.int .i64 53, .int .i64 (-1074), .int .i64 971]] w fun e w' => e = .returned (.int .i64 I) ∧ w' = ((w.alloc (.cells #[.int .i64 53, .int .i64 (-1074), .int .i64 971] 74)).alloc (.cells #[.int .i64 53, .int .i64 (-1074), .int .i64 971] 74)).drew := by rw [hI]; exact infi_D
  have hb := plz_bd n m
  obtain ⟨p, hp⟩ : ∃ p : Int, p = plz n m := ⟨_, rfl⟩
  rw [← hp] at hpl h2 hb ⊢
  have hat := at_d (p + 1) (by omega) (by omega)
  have d1 : (p == I) = false := by simp; omega
  have d2 : wrap64 (p + 1) = p + 1 := by unfold wrap64; omega
  have d3 : ¬ (p = I) := by omega
  clear hI hm h2 hb hp
  go_enter Try.func38, Try.ntmps38
  go_wp2_with (first | (go_at_call 47; refine (lay_d _).mono ?_; rintro e w' ⟨rfl, rfl⟩) | (go_at_call 49; refine (hinf _).mono ?_; rintro e w' ⟨rfl, rfl⟩) | (go_at_call 62; refine (hpl _).mono ?_; rintro e w' ⟨rfl, g1⟩) | (go_at_call 63; refine (hat _).mono ?_; rintro e w' ⟨rfl, g2⟩))
  exact bodyPost_ret (v := .float .f64 (fD (p + 1))) (by simp [results, Try.results38, go_sem] <;> simp only [*]) rfl ⟨rfl, (by repeat (with_reducible (first | assumption | exact Grown.refl _ | apply Grown.drew | apply Grown.alloc | apply gdrewN | (refine gtrans ?_ (by assumption)))))⟩

set_option maxRecDepth 20000 in
set_option maxHeartbeats 1000000 in
theorem upn_d (n : Bool) (m : Nat) (hm : 9218868437227405312 < m) (h2 : m < 9223372036854775808) (w : World) : Calls Try.prog 38 #[.float .f64 (wD n m)] w fun e w' => e = .returned (.float .f64 (wD n m)) ∧ Grown w w' := by
  have hpl := placen_d n m hm h2
  clear hm h2
  go_enter Try.func38, Try.ntmps38
  go_wp2_with (first | (go_at_call 62; refine (hpl _).mono ?_; rintro e w' ⟨rfl, g1⟩))
  exact bodyPost_ret (v := .float .f64 (wD n m)) (by simp [results, Try.results38, go_sem] <;> simp only [*]) rfl ⟨rfl, (by repeat (with_reducible (first | assumption | exact Grown.refl _ | apply Grown.drew | apply Grown.alloc | apply gdrewN | (refine gtrans ?_ (by assumption)))))⟩

set_option maxRecDepth 20000 in
set_option maxHeartbeats 1000000 in
theorem upe_d (w : World) : Calls Try.prog 38 #[.float .f64 (wD false 9218868437227405312)] w fun e w' => e = .returned (.float .f64 (wD false 9218868437227405312)) ∧ Grown w w' := by
  have hpl := place_d false 9218868437227405312 (by omega)
  obtain ⟨I, hI⟩ : ∃ I : Int, I = 9218868437227405312 := ⟨_, rfl⟩
  have hinf : ∀ w : World, Calls Try.prog 49 #[.agg #[.int .i64 53, .int .i64 (-1074), .int .i64 971]] w fun e w' => e = .returned (.int .i64 I) ∧ w' = ((w.alloc (.cells #[.int .i64 53, .int .i64 (-1074), .int .i64 971] 74)).alloc (.cells #[.int .i64 53, .int .i64 (-1074), .int .i64 971] 74)).drew := by rw [hI]; exact infi_D
  have ep : plz false 9218868437227405312 = I := by rw [hI]; rfl
  rw [ep] at hpl
  clear hI ep
  obtain ⟨M, hM⟩ : ∃ M : Nat, M = 9218868437227405312 := ⟨_, rfl⟩
  rw [← hM] at hpl ⊢
  clear hM
  go_enter Try.func38, Try.ntmps38
  go_wp2_with (first | (go_at_call 47; refine (lay_d _).mono ?_; rintro e w' ⟨rfl, rfl⟩) | (go_at_call 49; refine (hinf _).mono ?_; rintro e w' ⟨rfl, rfl⟩) | (go_at_call 62; refine (hpl _).mono ?_; rintro e w' ⟨rfl, g1⟩))
  exact bodyPost_ret (v := .float .f64 (wD false M)) (by simp [results, Try.results38, go_sem] <;> simp only [*]) rfl ⟨rfl, (by repeat (with_reducible (first | assumption | exact Grown.refl _ | apply Grown.drew | apply Grown.alloc | apply gdrewN | (refine gtrans ?_ (by assumption)))))⟩

set_option maxRecDepth 20000 in
set_option maxHeartbeats 1000000 in
theorem dn_d (n : Bool) (m : Nat) (hm : m ≤ 9218868437227405312) (h2 : plz n m ≠ -9218868437227405312) (w : World) : Calls Try.prog 39 #[.float .f64 (wD n m)] w fun e w' => e = .returned (.float .f64 (fD (plz n m - 1))) ∧ Grown w w' := by
  have hpl := place_d n m hm
  obtain ⟨I, hI⟩ : ∃ I : Int, I = 9218868437227405312 := ⟨_, rfl⟩
  have hinf : ∀ w : World, Calls Try.prog 49 #[.agg #[.int .i64 53, .int .i64 (-1074), .int .i64 971]] w fun e w' => e = .returned (.int .i64 I) ∧ w' = ((w.alloc (.cells #[.int .i64 53, .int .i64 (-1074), .int .i64 971] 74)).alloc (.cells #[.int .i64 53, .int .i64 (-1074), .int .i64 971] 74)).drew := by rw [hI]; exact infi_D
  have hb := plz_bd n m
  obtain ⟨p, hp⟩ : ∃ p : Int, p = plz n m := ⟨_, rfl⟩
  rw [← hp] at hpl h2 hb ⊢
  have hat := at_d (p - 1) (by omega) (by omega)
  have d1 : (p == -I) = false := by simp; omega
  have d2 : wrap64 (p - 1) = p - 1 := by unfold wrap64; omega
  have d0 : wrap64 (-I) = -I := by unfold wrap64; omega
  have d3 : ¬ (p = -I) := by omega
  clear hI hm h2 hb hp
  go_enter Try.func39, Try.ntmps39
  go_wp2_with (first | (go_at_call 47; refine (lay_d _).mono ?_; rintro e w' ⟨rfl, rfl⟩) | (go_at_call 49; refine (hinf _).mono ?_; rintro e w' ⟨rfl, rfl⟩) | (go_at_call 62; refine (hpl _).mono ?_; rintro e w' ⟨rfl, g1⟩) | (go_at_call 63; refine (hat _).mono ?_; rintro e w' ⟨rfl, g2⟩))
  exact bodyPost_ret (v := .float .f64 (fD (p - 1))) (by simp [results, Try.results39, go_sem] <;> simp only [*]) rfl ⟨rfl, (by repeat (with_reducible (first | assumption | exact Grown.refl _ | apply Grown.drew | apply Grown.alloc | apply gdrewN | (refine gtrans ?_ (by assumption)))))⟩

set_option maxRecDepth 20000 in
set_option maxHeartbeats 1000000 in
theorem dnn_d (n : Bool) (m : Nat) (hm : 9218868437227405312 < m) (h2 : m < 9223372036854775808) (w : World) : Calls Try.prog 39 #[.float .f64 (wD n m)] w fun e w' => e = .returned (.float .f64 (wD n m)) ∧ Grown w w' := by
  have hpl := placen_d n m hm h2
  clear hm h2
  go_enter Try.func39, Try.ntmps39
  go_wp2_with (first | (go_at_call 62; refine (hpl _).mono ?_; rintro e w' ⟨rfl, g1⟩))
  exact bodyPost_ret (v := .float .f64 (wD n m)) (by simp [results, Try.results39, go_sem] <;> simp only [*]) rfl ⟨rfl, (by repeat (with_reducible (first | assumption | exact Grown.refl _ | apply Grown.drew | apply Grown.alloc | apply gdrewN | (refine gtrans ?_ (by assumption)))))⟩

set_option maxRecDepth 20000 in
set_option maxHeartbeats 1000000 in
theorem dne_d (w : World) : Calls Try.prog 39 #[.float .f64 (wD true 9218868437227405312)] w fun e w' => e = .returned (.float .f64 (wD true 9218868437227405312)) ∧ Grown w w' := by
  have hpl := place_d true 9218868437227405312 (by omega)
  obtain ⟨I, hI⟩ : ∃ I : Int, I = 9218868437227405312 := ⟨_, rfl⟩
  have hinf : ∀ w : World, Calls Try.prog 49 #[.agg #[.int .i64 53, .int .i64 (-1074), .int .i64 971]] w fun e w' => e = .returned (.int .i64 I) ∧ w' = ((w.alloc (.cells #[.int .i64 53, .int .i64 (-1074), .int .i64 971] 74)).alloc (.cells #[.int .i64 53, .int .i64 (-1074), .int .i64 971] 74)).drew := by rw [hI]; exact infi_D
  have ep : plz true 9218868437227405312 = -I := by rw [hI]; rfl
  rw [ep] at hpl
  have d0 : wrap64 (-I) = -I := by unfold wrap64; omega
  clear hI ep
  obtain ⟨M, hM⟩ : ∃ M : Nat, M = 9218868437227405312 := ⟨_, rfl⟩
  rw [← hM] at hpl ⊢
  clear hM
  go_enter Try.func39, Try.ntmps39
  go_wp2_with (first | (go_at_call 47; refine (lay_d _).mono ?_; rintro e w' ⟨rfl, rfl⟩) | (go_at_call 49; refine (hinf _).mono ?_; rintro e w' ⟨rfl, rfl⟩) | (go_at_call 62; refine (hpl _).mono ?_; rintro e w' ⟨rfl, g1⟩))
  exact bodyPost_ret (v := .float .f64 (wD true M)) (by simp [results, Try.results39, go_sem] <;> simp only [*]) rfl ⟨rfl, (by repeat (with_reducible (first | assumption | exact Grown.refl _ | apply Grown.drew | apply Grown.alloc | apply gdrewN | (refine gtrans ?_ (by assumption)))))⟩

set_option maxRecDepth 20000 in
set_option maxHeartbeats 1000000 in
theorem place_far (n : Bool) (m : Nat) (hm : m ≤ 9218868437227405312) (w : World) : Calls Try.prog 66 #[.float .f64 (wD n m)] w fun e w' => e = .returned (.tuple #[.int .i64 (plz n m), .bool true]) ∧ Grown w w' := by
  have hpat := patt_far n m (by omega)
  obtain ⟨I, hI⟩ : ∃ I : Int, I = 9218868437227405312 := ⟨_, rfl⟩
  have hinf : ∀ w : World, Calls Try.prog 49 #[.agg #[.int .i64 53, .int .i64 (-1074), .int .i64 971]] w fun e w' => e = .returned (.int .i64 I) ∧ w' = ((w.alloc (.cells #[.int .i64 53, .int .i64 (-1074), .int .i64 971] 74)).alloc (.cells #[.int .i64 53, .int .i64 (-1074), .int .i64 971] 74)).drew := by rw [hI]; exact infi_D
  have d1 : ¬ (I < (m : Int)) := by omega
  have d2 : wrap64 (-(m : Int)) = -(m : Int) := by unfold wrap64; omega
  clear hI hm
  cases n
  · have ec : plz false m = (m : Int) := rfl
    rw [ec]
    clear ec d2
    go_enter Try.func66, Try.ntmps66
    go_wp2_with (first | (go_at_call 52; refine (lay_far _).mono ?_; rintro e w' ⟨rfl, rfl⟩) | (go_at_call 53; refine (hpat _).mono ?_; rintro e w' ⟨rfl, rfl⟩) | (go_at_call 49; refine (hinf _).mono ?_; rintro e w' ⟨rfl, rfl⟩))
    exact bodyPost_ret (v := .tuple #[.int .i64 (m : Int), .bool true]) (by simp [results, Try.results66, go_sem] <;> simp only [*]) rfl ⟨rfl, (by repeat (with_reducible (first | assumption | exact Grown.refl _ | apply Grown.drew | apply Grown.alloc | apply gdrewN | (refine gtrans ?_ (by assumption)))))⟩
  · have ec : plz true m = -(m : Int) := rfl
    rw [ec]
    clear ec
    go_enter Try.func66, Try.ntmps66
    go_wp2_with (first | (go_at_call 52; refine (lay_far _).mono ?_; rintro e w' ⟨rfl, rfl⟩) | (go_at_call 53; refine (hpat _).mono ?_; rintro e w' ⟨rfl, rfl⟩) | (go_at_call 49; refine (hinf _).mono ?_; rintro e w' ⟨rfl, rfl⟩))
    exact bodyPost_ret (v := .tuple #[.int .i64 (-(m : Int)), .bool true]) (by simp [results, Try.results66, go_sem] <;> simp only [*]) rfl ⟨rfl, (by repeat (with_reducible (first | assumption | exact Grown.refl _ | apply Grown.drew | apply Grown.alloc | apply gdrewN | (refine gtrans ?_ (by assumption)))))⟩

set_option maxRecDepth 20000 in
set_option maxHeartbeats 1000000 in
theorem placen_far (n : Bool) (m : Nat) (hm : 9218868437227405312 < m) (h2 : m < 9223372036854775808) (w : World) : Calls Try.prog 66 #[.float .f64 (wD n m)] w fun e w' => e = .returned (.tuple #[.int .i64 0, .bool false]) ∧ Grown w w' := by
  have hpat := patt_far n m h2
  obtain ⟨I, hI⟩ : ∃ I : Int, I = 9218868437227405312 := ⟨_, rfl⟩
  have hinf : ∀ w : World, Calls Try.prog 49 #[.agg #[.int .i64 53, .int .i64 (-1074), .int .i64 971]] w fun e w' => e = .returned (.int .i64 I) ∧ w' = ((w.alloc (.cells #[.int .i64 53, .int .i64 (-1074), .int .i64 971] 74)).alloc (.cells #[.int .i64 53, .int .i64 (-1074), .int .i64 971] 74)).drew := by rw [hI]; exact infi_D
  have d1 : I < (m : Int) := by omega
  clear hI hm h2
  go_enter Try.func66, Try.ntmps66
  go_wp2_with (first | (go_at_call 52; refine (lay_far _).mono ?_; rintro e w' ⟨rfl, rfl⟩) | (go_at_call 53; refine (hpat _).mono ?_; rintro e w' ⟨rfl, rfl⟩) | (go_at_call 49; refine (hinf _).mono ?_; rintro e w' ⟨rfl, rfl⟩))
  exact bodyPost_ret (v := .tuple #[.int .i64 0, .bool false]) (by simp [results, Try.results66, go_sem] <;> simp only [*]) rfl ⟨rfl, (by repeat (with_reducible (first | assumption | exact Grown.refl _ | apply Grown.drew | apply Grown.alloc | apply gdrewN | (refine gtrans ?_ (by assumption)))))⟩

set_option maxRecDepth 20000 in
set_option maxHeartbeats 1000000 in
theorem at_far (p : Int) (h1 : -9218868437227405312 ≤ p) (h2 : p ≤ 9218868437227405312) (w : World) : Calls Try.prog 67 #[.int .i64 p] w fun e w' => e = .returned (.tuple #[.float .f64 (fD p), .bool true]) ∧ Grown w w' := by
  obtain ⟨I, hI⟩ : ∃ I : Int, I = 9218868437227405312 := ⟨_, rfl⟩
  have hinf : ∀ w : World, Calls Try.prog 49 #[.agg #[.int .i64 53, .int .i64 (-1074), .int .i64 971]] w fun e w' => e = .returned (.int .i64 I) ∧ w' = ((w.alloc (.cells #[.int .i64 53, .int .i64 (-1074), .int .i64 971] 74)).alloc (.cells #[.int .i64 53, .int .i64 (-1074), .int .i64 971] 74)).drew := by rw [hI]; exact infi_D
  have d1 : ¬ (p < -I) := by omega
  have d2 : ¬ (I < p) := by omega
  have d0 : wrap64 (-I) = -I := by unfold wrap64; omega
  by_cases c : p < 0
  · have ef : fD p = wD true p.natAbs := by unfold fD; simp [c]
    rw [ef]
    have e2 : wrap64 (-p) = ((p.natAbs : Nat) : Int) := by unfold wrap64; omega
    have hfr := from_far p.natAbs (by omega)
    obtain ⟨a, ha⟩ : ∃ a : Nat, a = p.natAbs := ⟨_, rfl⟩
    rw [← ha] at e2 hfr ⊢
    have hng : Op.unary .neg (.float .f64 (wD false a)) = pure (.float .f64 (wD true a)) := by
      show pure (Value.float .f64 (Op.negFloat .f64 (wD false a))) = _
      rw [negD false a (by omega)]; rfl
    clear hI h1 h2 ef ha
    go_enter Try.func67, Try.ntmps67
    go_wp2_with (first | (go_at_call 52; refine (lay_far _).mono ?_; rintro e w' ⟨rfl, rfl⟩) | (go_at_call 76; refine (hfr _).mono ?_; rintro e w' ⟨rfl, rfl⟩) | (go_at_call 49; refine (hinf _).mono ?_; rintro e w' ⟨rfl, rfl⟩))
    exact bodyPost_ret (v := .tuple #[.float .f64 (wD true a), .bool true]) (by simp [results, Try.results67, go_sem] <;> simp only [*]) rfl ⟨rfl, (by repeat (with_reducible (first | assumption | exact Grown.refl _ | apply Grown.drew | apply Grown.alloc | apply gdrewN | (refine gtrans ?_ (by assumption)))))⟩
  · have ef : fD p = wD false p.natAbs := by unfold fD; simp [c]
    rw [ef]
    have e2 : p = ((p.natAbs : Nat) : Int) := by omega
    have hfr : ∀ w : World, Calls Try.prog 76 #[.int .i64 p] w fun e w' => e = .returned (.float .f64 (wD false p.natAbs)) ∧ w' = w := by
      have := from_far p.natAbs (by omega)
      rw [← e2] at this; exact this
    obtain ⟨a, ha⟩ : ∃ a : Nat, a = p.natAbs := ⟨_, rfl⟩
    rw [← ha] at hfr ⊢
    clear hI h1 h2 ef ha e2
    go_enter Try.func67, Try.ntmps67
    go_wp2_with (first | (go_at_call 52; refine (lay_far _).mono ?_; rintro e w' ⟨rfl, rfl⟩) | (go_at_call 76; refine (hfr _).mono ?_; rintro e w' ⟨rfl, rfl⟩) | (go_at_call 49; refine (hinf _).mono ?_; rintro e w' ⟨rfl, rfl⟩))
    exact bodyPost_ret (v := .tuple #[.float .f64 (wD false a), .bool true]) (by simp [results, Try.results67, go_sem] <;> simp only [*]) rfl ⟨rfl, (by repeat (with_reducible (first | assumption | exact Grown.refl _ | apply Grown.drew | apply Grown.alloc | apply gdrewN | (refine gtrans ?_ (by assumption)))))⟩

set_option maxRecDepth 20000 in
set_option maxHeartbeats 1000000 in
theorem atx_far (p : Int) (h : p < -9218868437227405312 ∨ 9218868437227405312 < p) (w : World) : Calls Try.prog 67 #[.int .i64 p] w fun e w' => e = .returned (.tuple #[.float .f64 (wD false 0), .bool false]) ∧ Grown w w' := by
  obtain ⟨I, hI⟩ : ∃ I : Int, I = 9218868437227405312 := ⟨_, rfl⟩
  have hinf : ∀ w : World, Calls Try.prog 49 #[.agg #[.int .i64 53, .int .i64 (-1074), .int .i64 971]] w fun e w' => e = .returned (.int .i64 I) ∧ w' = ((w.alloc (.cells #[.int .i64 53, .int .i64 (-1074), .int .i64 971] 74)).alloc (.cells #[.int .i64 53, .int .i64 (-1074), .int .i64 971] 74)).drew := by rw [hI]; exact infi_D
  have d0 : wrap64 (-I) = -I := by unfold wrap64; omega
  have ew : wD false 0 = 0 := rfl
  rw [ew]
  clear ew
  rcases h with h | h
  · have d1 : p < -I := by omega
    clear hI h
    go_enter Try.func67, Try.ntmps67
    go_wp2_with (first | (go_at_call 52; refine (lay_far _).mono ?_; rintro e w' ⟨rfl, rfl⟩) | (go_at_call 76; refine (hfr _).mono ?_; rintro e w' ⟨rfl, rfl⟩) | (go_at_call 49; refine (hinf _).mono ?_; rintro e w' ⟨rfl, rfl⟩))
    exact bodyPost_ret (v := .tuple #[.float .f64 0, .bool false]) (by simp [results, Try.results67, go_sem] <;> simp only [*]) rfl ⟨rfl, (by repeat (with_reducible (first | assumption | exact Grown.refl _ | apply Grown.drew | apply Grown.alloc | apply gdrewN | (refine gtrans ?_ (by assumption)))))⟩
  · have d1 : ¬ (p < -I) := by omega
    have d2 : I < p := by omega
    clear hI h
    go_enter Try.func67, Try.ntmps67
    go_wp2_with (first | (go_at_call 52; refine (lay_far _).mono ?_; rintro e w' ⟨rfl, rfl⟩) | (go_at_call 76; refine (hfr _).mono ?_; rintro e w' ⟨rfl, rfl⟩) | (go_at_call 49; refine (hinf _).mono ?_; rintro e w' ⟨rfl, rfl⟩))
    exact bodyPost_ret (v := .tuple #[.float .f64 0, .bool false]) (by simp [results, Try.results67, go_sem] <;> simp only [*]) rfl ⟨rfl, (by repeat (with_reducible (first | assumption | exact Grown.refl _ | apply Grown.drew | apply Grown.alloc | apply gdrewN | (refine gtrans ?_ (by assumption)))))⟩

set_option maxRecDepth 20000 in
set_option maxHeartbeats 1000000 in
theorem up_far (n : Bool) (m : Nat) (hm : m ≤ 9218868437227405312) (h2 : plz n m ≠ 9218868437227405312) (w : World) : Calls Try.prog 42 #[.float .f64 (wD n m)] w fun e w' => e = .returned (.float .f64 (fD (plz n m + 1))) ∧ Grown w w' := by
  have hpl := place_far n m hm
  obtain ⟨I, hI⟩ : ∃ I : Int, I = 9218868437227405312 := ⟨_, rfl⟩
  have hinf : ∀ w : World, Calls Try.prog 49 #[.agg #[.int .i64 53, .int .i64 (-1074), .int .i64 971]] w fun e w' => e = .returned (.int .i64 I) ∧ w' = ((w.alloc (.cells #[.int .i64 53, .int .i64 (-1074), .int .i64 971] 74)).alloc (.cells #[.int .i64 53, .int .i64 (-1074), .int .i64 971] 74)).drew := by rw [hI]; exact infi_D
  have hb := plz_bd n m
  obtain ⟨p, hp⟩ : ∃ p : Int, p = plz n m := ⟨_, rfl⟩
  rw [← hp] at hpl h2 hb ⊢
  have hat := at_far (p + 1) (by omega) (by omega)
  have d1 : (p == I) = false := by simp; omega
  have d2 : wrap64 (p + 1) = p + 1 := by unfold wrap64; omega
  have d3 : ¬ (p = I) := by omega
  clear hI hm h2 hb hp
  go_enter Try.func42, Try.ntmps42
  go_wp2_with (first | (go_at_call 52; refine (lay_far _).mono ?_; rintro e w' ⟨rfl, rfl⟩) | (go_at_call 49; refine (hinf _).mono ?_; rintro e w' ⟨rfl, rfl⟩) | (go_at_call 66; refine (hpl _).mono ?_; rintro e w' ⟨rfl, g1⟩) | (go_at_call 67; refine (hat _).mono ?_; rintro e w' ⟨rfl, g2⟩))
  exact bodyPost_ret (v := .float .f64 (fD (p + 1))) (by simp [results, Try.results42, go_sem] <;> simp only [*]) rfl ⟨rfl, (by repeat (with_reducible (first | assumption | exact Grown.refl _ | apply Grown.drew | apply Grown.alloc | apply gdrewN | (refine gtrans ?_ (by assumption)))))⟩

set_option maxRecDepth 20000 in
set_option maxHeartbeats 1000000 in
theorem upn_far (n : Bool) (m : Nat) (hm : 9218868437227405312 < m) (h2 : m < 9223372036854775808) (w : World) : Calls Try.prog 42 #[.float .f64 (wD n m)] w fun e w' => e = .returned (.float .f64 (wD n m)) ∧ Grown w w' := by
  have hpl := placen_far n m hm h2
  clear hm h2
  go_enter Try.func42, Try.ntmps42
  go_wp2_with (first | (go_at_call 66; refine (hpl _).mono ?_; rintro e w' ⟨rfl, g1⟩))
  exact bodyPost_ret (v := .float .f64 (wD n m)) (by simp [results, Try.results42, go_sem] <;> simp only [*]) rfl ⟨rfl, (by repeat (with_reducible (first | assumption | exact Grown.refl _ | apply Grown.drew | apply Grown.alloc | apply gdrewN | (refine gtrans ?_ (by assumption)))))⟩

set_option maxRecDepth 20000 in
set_option maxHeartbeats 1000000 in
theorem upe_far (w : World) : Calls Try.prog 42 #[.float .f64 (wD false 9218868437227405312)] w fun e w' => e = .returned (.float .f64 (wD false 9218868437227405312)) ∧ Grown w w' := by
  have hpl := place_far false 9218868437227405312 (by omega)
  obtain ⟨I, hI⟩ : ∃ I : Int, I = 9218868437227405312 := ⟨_, rfl⟩
  have hinf : ∀ w : World, Calls Try.prog 49 #[.agg #[.int .i64 53, .int .i64 (-1074), .int .i64 971]] w fun e w' => e = .returned (.int .i64 I) ∧ w' = ((w.alloc (.cells #[.int .i64 53, .int .i64 (-1074), .int .i64 971] 74)).alloc (.cells #[.int .i64 53, .int .i64 (-1074), .int .i64 971] 74)).drew := by rw [hI]; exact infi_D
  have ep : plz false 9218868437227405312 = I := by rw [hI]; rfl
  rw [ep] at hpl
  clear hI ep
  obtain ⟨M, hM⟩ : ∃ M : Nat, M = 9218868437227405312 := ⟨_, rfl⟩
  rw [← hM] at hpl ⊢
  clear hM
  go_enter Try.func42, Try.ntmps42
  go_wp2_with (first | (go_at_call 52; refine (lay_far _).mono ?_; rintro e w' ⟨rfl, rfl⟩) | (go_at_call 49; refine (hinf _).mono ?_; rintro e w' ⟨rfl, rfl⟩) | (go_at_call 66; refine (hpl _).mono ?_; rintro e w' ⟨rfl, g1⟩))
  exact bodyPost_ret (v := .float .f64 (wD false M)) (by simp [results, Try.results42, go_sem] <;> simp only [*]) rfl ⟨rfl, (by repeat (with_reducible (first | assumption | exact Grown.refl _ | apply Grown.drew | apply Grown.alloc | apply gdrewN | (refine gtrans ?_ (by assumption)))))⟩

set_option maxRecDepth 20000 in
set_option maxHeartbeats 1000000 in
theorem dn_far (n : Bool) (m : Nat) (hm : m ≤ 9218868437227405312) (h2 : plz n m ≠ -9218868437227405312) (w : World) : Calls Try.prog 43 #[.float .f64 (wD n m)] w fun e w' => e = .returned (.float .f64 (fD (plz n m - 1))) ∧ Grown w w' := by
  have hpl := place_far n m hm
  obtain ⟨I, hI⟩ : ∃ I : Int, I = 9218868437227405312 := ⟨_, rfl⟩
  have hinf : ∀ w : World, Calls Try.prog 49 #[.agg #[.int .i64 53, .int .i64 (-1074), .int .i64 971]] w fun e w' => e = .returned (.int .i64 I) ∧ w' = ((w.alloc (.cells #[.int .i64 53, .int .i64 (-1074), .int .i64 971] 74)).alloc (.cells #[.int .i64 53, .int .i64 (-1074), .int .i64 971] 74)).drew := by rw [hI]; exact infi_D
  have hb := plz_bd n m
  obtain ⟨p, hp⟩ : ∃ p : Int, p = plz n m := ⟨_, rfl⟩
  rw [← hp] at hpl h2 hb ⊢
  have hat := at_far (p - 1) (by omega) (by omega)
  have d1 : (p == -I) = false := by simp; omega
  have d2 : wrap64 (p - 1) = p - 1 := by unfold wrap64; omega
  have d0 : wrap64 (-I) = -I := by unfold wrap64; omega
  have d3 : ¬ (p = -I) := by omega
  clear hI hm h2 hb hp
  go_enter Try.func43, Try.ntmps43
  go_wp2_with (first | (go_at_call 52; refine (lay_far _).mono ?_; rintro e w' ⟨rfl, rfl⟩) | (go_at_call 49; refine (hinf _).mono ?_; rintro e w' ⟨rfl, rfl⟩) | (go_at_call 66; refine (hpl _).mono ?_; rintro e w' ⟨rfl, g1⟩) | (go_at_call 67; refine (hat _).mono ?_; rintro e w' ⟨rfl, g2⟩))
  exact bodyPost_ret (v := .float .f64 (fD (p - 1))) (by simp [results, Try.results43, go_sem] <;> simp only [*]) rfl ⟨rfl, (by repeat (with_reducible (first | assumption | exact Grown.refl _ | apply Grown.drew | apply Grown.alloc | apply gdrewN | (refine gtrans ?_ (by assumption)))))⟩

set_option maxRecDepth 20000 in
set_option maxHeartbeats 1000000 in
theorem dnn_far (n : Bool) (m : Nat) (hm : 9218868437227405312 < m) (h2 : m < 9223372036854775808) (w : World) : Calls Try.prog 43 #[.float .f64 (wD n m)] w fun e w' => e = .returned (.float .f64 (wD n m)) ∧ Grown w w' := by
  have hpl := placen_far n m hm h2
  clear hm h2
  go_enter Try.func43, Try.ntmps43
  go_wp2_with (first | (go_at_call 66; refine (hpl _).mono ?_; rintro e w' ⟨rfl, g1⟩))
  exact bodyPost_ret (v := .float .f64 (wD n m)) (by simp [results, Try.results43, go_sem] <;> simp only [*]) rfl ⟨rfl, (by repeat (with_reducible (first | assumption | exact Grown.refl _ | apply Grown.drew | apply Grown.alloc | apply gdrewN | (refine gtrans ?_ (by assumption)))))⟩

set_option maxRecDepth 20000 in
set_option maxHeartbeats 1000000 in
theorem dne_far (w : World) : Calls Try.prog 43 #[.float .f64 (wD true 9218868437227405312)] w fun e w' => e = .returned (.float .f64 (wD true 9218868437227405312)) ∧ Grown w w' := by
  have hpl := place_far true 9218868437227405312 (by omega)
  obtain ⟨I, hI⟩ : ∃ I : Int, I = 9218868437227405312 := ⟨_, rfl⟩
  have hinf : ∀ w : World, Calls Try.prog 49 #[.agg #[.int .i64 53, .int .i64 (-1074), .int .i64 971]] w fun e w' => e = .returned (.int .i64 I) ∧ w' = ((w.alloc (.cells #[.int .i64 53, .int .i64 (-1074), .int .i64 971] 74)).alloc (.cells #[.int .i64 53, .int .i64 (-1074), .int .i64 971] 74)).drew := by rw [hI]; exact infi_D
  have ep : plz true 9218868437227405312 = -I := by rw [hI]; rfl
  rw [ep] at hpl
  have d0 : wrap64 (-I) = -I := by unfold wrap64; omega
  clear hI ep
  obtain ⟨M, hM⟩ : ∃ M : Nat, M = 9218868437227405312 := ⟨_, rfl⟩
  rw [← hM] at hpl ⊢
  clear hM
  go_enter Try.func43, Try.ntmps43
  go_wp2_with (first | (go_at_call 52; refine (lay_far _).mono ?_; rintro e w' ⟨rfl, rfl⟩) | (go_at_call 49; refine (hinf _).mono ?_; rintro e w' ⟨rfl, rfl⟩) | (go_at_call 66; refine (hpl _).mono ?_; rintro e w' ⟨rfl, g1⟩))
  exact bodyPost_ret (v := .float .f64 (wD true M)) (by simp [results, Try.results43, go_sem] <;> simp only [*]) rfl ⟨rfl, (by repeat (with_reducible (first | assumption | exact Grown.refl _ | apply Grown.drew | apply Grown.alloc | apply gdrewN | (refine gtrans ?_ (by assumption)))))⟩

set_option maxRecDepth 20000 in
set_option maxHeartbeats 1000000 in
theorem place_s (n : Bool) (m : Nat) (hm : m ≤ 2139095040) (w : World) : Calls Try.prog 64 #[.float .f32 (wS n m)] w fun e w' => e = .returned (.tuple #[.int .i64 (plz n m), .bool true]) ∧ Grown w w' := by
  have hpat := patt_s n m (by omega)
  obtain ⟨I, hI⟩ : ∃ I : Int, I = 2139095040 := ⟨_, rfl⟩
  have hinf : ∀ w : World, Calls Try.prog 49 #[.agg #[.int .i64 24, .int .i64 (-149), .int .i64 104]] w fun e w' => e = .returned (.int .i64 I) ∧ w' = ((w.alloc (.cells #[.int .i64 24, .int .i64 (-149), .int .i64 104] 74)).alloc (.cells #[.int .i64 24, .int .i64 (-149), .int .i64 104] 74)).drew := by rw [hI]; exact infi_S
  have d1 : ¬ (I < (m : Int)) := by omega
  have d2 : wrap64 (-(m : Int)) = -(m : Int) := by unfold wrap64; omega
  clear hI hm
  cases n
  · have ec : plz false m = (m : Int) := rfl
    rw [ec]
    clear ec d2
    go_enter Try.func64, Try.ntmps64
    go_wp2_with (first | (go_at_call 54; refine (lay_s _).mono ?_; rintro e w' ⟨rfl, rfl⟩) | (go_at_call 55; refine (hpat _).mono ?_; rintro e w' ⟨rfl, rfl⟩) | (go_at_call 49; refine (hinf _).mono ?_; rintro e w' ⟨rfl, rfl⟩))
    exact bodyPost_ret (v := .tuple #[.int .i64 (m : Int), .bool true]) (by simp [results, Try.results64, go_sem] <;> simp only [*]) rfl ⟨rfl, (by repeat (with_reducible (first | assumption | exact Grown.refl _ | apply Grown.drew | apply Grown.alloc | apply gdrewN | (refine gtrans ?_ (by assumption)))))⟩
  · have ec : plz true m = -(m : Int) := rfl
    rw [ec]
    clear ec
    go_enter Try.func64, Try.ntmps64
    go_wp2_with (first | (go_at_call 54; refine (lay_s _).mono ?_; rintro e w' ⟨rfl, rfl⟩) | (go_at_call 55; refine (hpat _).mono ?_; rintro e w' ⟨rfl, rfl⟩) | (go_at_call 49; refine (hinf _).mono ?_; rintro e w' ⟨rfl, rfl⟩))
    exact bodyPost_ret (v := .tuple #[.int .i64 (-(m : Int)), .bool true]) (by simp [results, Try.results64, go_sem] <;> simp only [*]) rfl ⟨rfl, (by repeat (with_reducible (first | assumption | exact Grown.refl _ | apply Grown.drew | apply Grown.alloc | apply gdrewN | (refine gtrans ?_ (by assumption)))))⟩

set_option maxRecDepth 20000 in
set_option maxHeartbeats 1000000 in
theorem placen_s (n : Bool) (m : Nat) (hm : 2139095040 < m) (h2 : m < 2147483648) (w : World) : Calls Try.prog 64 #[.float .f32 (wS n m)] w fun e w' => e = .returned (.tuple #[.int .i64 0, .bool false]) ∧ Grown w w' := by
  have hpat := patt_s n m h2
  obtain ⟨I, hI⟩ : ∃ I : Int, I = 2139095040 := ⟨_, rfl⟩
  have hinf : ∀ w : World, Calls Try.prog 49 #[.agg #[.int .i64 24, .int .i64 (-149), .int .i64 104]] w fun e w' => e = .returned (.int .i64 I) ∧ w' = ((w.alloc (.cells #[.int .i64 24, .int .i64 (-149), .int .i64 104] 74)).alloc (.cells #[.int .i64 24, .int .i64 (-149), .int .i64 104] 74)).drew := by rw [hI]; exact infi_S
  have d1 : I < (m : Int) := by omega
  clear hI hm h2
  go_enter Try.func64, Try.ntmps64
  go_wp2_with (first | (go_at_call 54; refine (lay_s _).mono ?_; rintro e w' ⟨rfl, rfl⟩) | (go_at_call 55; refine (hpat _).mono ?_; rintro e w' ⟨rfl, rfl⟩) | (go_at_call 49; refine (hinf _).mono ?_; rintro e w' ⟨rfl, rfl⟩))
  exact bodyPost_ret (v := .tuple #[.int .i64 0, .bool false]) (by simp [results, Try.results64, go_sem] <;> simp only [*]) rfl ⟨rfl, (by repeat (with_reducible (first | assumption | exact Grown.refl _ | apply Grown.drew | apply Grown.alloc | apply gdrewN | (refine gtrans ?_ (by assumption)))))⟩

set_option maxRecDepth 20000 in
set_option maxHeartbeats 1000000 in
theorem at_s (p : Int) (h1 : -2139095040 ≤ p) (h2 : p ≤ 2139095040) (w : World) : Calls Try.prog 65 #[.int .i64 p] w fun e w' => e = .returned (.tuple #[.float .f32 (fS p), .bool true]) ∧ Grown w w' := by
  obtain ⟨I, hI⟩ : ∃ I : Int, I = 2139095040 := ⟨_, rfl⟩
  have hinf : ∀ w : World, Calls Try.prog 49 #[.agg #[.int .i64 24, .int .i64 (-149), .int .i64 104]] w fun e w' => e = .returned (.int .i64 I) ∧ w' = ((w.alloc (.cells #[.int .i64 24, .int .i64 (-149), .int .i64 104] 74)).alloc (.cells #[.int .i64 24, .int .i64 (-149), .int .i64 104] 74)).drew := by rw [hI]; exact infi_S
  have d1 : ¬ (p < -I) := by omega
  have d2 : ¬ (I < p) := by omega
  have d0 : wrap64 (-I) = -I := by unfold wrap64; omega
  by_cases c : p < 0
  · have ef : fS p = wS true p.natAbs := by unfold fS; simp [c]
    rw [ef]
    have e2 : wrap64 (-p) = ((p.natAbs : Nat) : Int) := by unfold wrap64; omega
    have hfr := from_s p.natAbs (by omega)
    obtain ⟨a, ha⟩ : ∃ a : Nat, a = p.natAbs := ⟨_, rfl⟩
    rw [← ha] at e2 hfr ⊢
    have hng : Op.unary .neg (.float .f32 (wS false a)) = pure (.float .f32 (wS true a)) := by
      show pure (Value.float .f32 (Op.negFloat .f32 (wS false a))) = _
      rw [negS false a (by omega)]; rfl
    clear hI h1 h2 ef ha
    go_enter Try.func65, Try.ntmps65
    go_wp2_with (first | (go_at_call 54; refine (lay_s _).mono ?_; rintro e w' ⟨rfl, rfl⟩) | (go_at_call 75; refine (hfr _).mono ?_; rintro e w' ⟨rfl, rfl⟩) | (go_at_call 49; refine (hinf _).mono ?_; rintro e w' ⟨rfl, rfl⟩))
    exact bodyPost_ret (v := .tuple #[.float .f32 (wS true a), .bool true]) (by simp [results, Try.results65, go_sem] <;> simp only [*]) rfl ⟨rfl, (by repeat (with_reducible (first | assumption | exact Grown.refl _ | apply Grown.drew | apply Grown.alloc | apply gdrewN | (refine gtrans ?_ (by assumption)))))⟩
  · have ef : fS p = wS false p.natAbs := by unfold fS; simp [c]
    rw [ef]
    have e2 : p = ((p.natAbs : Nat) : Int) := by omega
    have hfr : ∀ w : World, Calls Try.prog 75 #[.int .i64 p] w fun e w' => e = .returned (.float .f32 (wS false p.natAbs)) ∧ w' = w := by
      have := from_s p.natAbs (by omega)
      rw [← e2] at this; exact this
    obtain ⟨a, ha⟩ : ∃ a : Nat, a = p.natAbs := ⟨_, rfl⟩
    rw [← ha] at hfr ⊢
    clear hI h1 h2 ef ha e2
    go_enter Try.func65, Try.ntmps65
    go_wp2_with (first | (go_at_call 54; refine (lay_s _).mono ?_; rintro e w' ⟨rfl, rfl⟩) | (go_at_call 75; refine (hfr _).mono ?_; rintro e w' ⟨rfl, rfl⟩) | (go_at_call 49; refine (hinf _).mono ?_; rintro e w' ⟨rfl, rfl⟩))
    exact bodyPost_ret (v := .tuple #[.float .f32 (wS false a), .bool true]) (by simp [results, Try.results65, go_sem] <;> simp only [*]) rfl ⟨rfl, (by repeat (with_reducible (first | assumption | exact Grown.refl _ | apply Grown.drew | apply Grown.alloc | apply gdrewN | (refine gtrans ?_ (by assumption)))))⟩

set_option maxRecDepth 20000 in
set_option maxHeartbeats 1000000 in
theorem atx_s (p : Int) (h : p < -2139095040 ∨ 2139095040 < p) (w : World) : Calls Try.prog 65 #[.int .i64 p] w fun e w' => e = .returned (.tuple #[.float .f32 (wS false 0), .bool false]) ∧ Grown w w' := by
  obtain ⟨I, hI⟩ : ∃ I : Int, I = 2139095040 := ⟨_, rfl⟩
  have hinf : ∀ w : World, Calls Try.prog 49 #[.agg #[.int .i64 24, .int .i64 (-149), .int .i64 104]] w fun e w' => e = .returned (.int .i64 I) ∧ w' = ((w.alloc (.cells #[.int .i64 24, .int .i64 (-149), .int .i64 104] 74)).alloc (.cells #[.int .i64 24, .int .i64 (-149), .int .i64 104] 74)).drew := by rw [hI]; exact infi_S
  have d0 : wrap64 (-I) = -I := by unfold wrap64; omega
  have ew : wS false 0 = 0 := rfl
  rw [ew]
  clear ew
  rcases h with h | h
  · have d1 : p < -I := by omega
    clear hI h
    go_enter Try.func65, Try.ntmps65
    go_wp2_with (first | (go_at_call 54; refine (lay_s _).mono ?_; rintro e w' ⟨rfl, rfl⟩) | (go_at_call 75; refine (hfr _).mono ?_; rintro e w' ⟨rfl, rfl⟩) | (go_at_call 49; refine (hinf _).mono ?_; rintro e w' ⟨rfl, rfl⟩))
    exact bodyPost_ret (v := .tuple #[.float .f32 0, .bool false]) (by simp [results, Try.results65, go_sem] <;> simp only [*]) rfl ⟨rfl, (by repeat (with_reducible (first | assumption | exact Grown.refl _ | apply Grown.drew | apply Grown.alloc | apply gdrewN | (refine gtrans ?_ (by assumption)))))⟩
  · have d1 : ¬ (p < -I) := by omega
    have d2 : I < p := by omega
    clear hI h
    go_enter Try.func65, Try.ntmps65
    go_wp2_with (first | (go_at_call 54; refine (lay_s _).mono ?_; rintro e w' ⟨rfl, rfl⟩) | (go_at_call 75; refine (hfr _).mono ?_; rintro e w' ⟨rfl, rfl⟩) | (go_at_call 49; refine (hinf _).mono ?_; rintro e w' ⟨rfl, rfl⟩))
    exact bodyPost_ret (v := .tuple #[.float .f32 0, .bool false]) (by simp [results, Try.results65, go_sem] <;> simp only [*]) rfl ⟨rfl, (by repeat (with_reducible (first | assumption | exact Grown.refl _ | apply Grown.drew | apply Grown.alloc | apply gdrewN | (refine gtrans ?_ (by assumption)))))⟩

set_option maxRecDepth 20000 in
set_option maxHeartbeats 1000000 in
theorem up_s (n : Bool) (m : Nat) (hm : m ≤ 2139095040) (h2 : plz n m ≠ 2139095040) (w : World) : Calls Try.prog 40 #[.float .f32 (wS n m)] w fun e w' => e = .returned (.float .f32 (fS (plz n m + 1))) ∧ Grown w w' := by
  have hpl := place_s n m hm
  obtain ⟨I, hI⟩ : ∃ I : Int, I = 2139095040 := ⟨_, rfl⟩
  have hinf : ∀ w : World, Calls Try.prog 49 #[.agg #[.int .i64 24, .int .i64 (-149), .int .i64 104]] w fun e w' => e = .returned (.int .i64 I) ∧ w' = ((w.alloc (.cells #[.int .i64 24, .int .i64 (-149), .int .i64 104] 74)).alloc (.cells #[.int .i64 24, .int .i64 (-149), .int .i64 104] 74)).drew := by rw [hI]; exact infi_S
  have hb := plz_bd n m
  obtain ⟨p, hp⟩ : ∃ p : Int, p = plz n m := ⟨_, rfl⟩
  rw [← hp] at hpl h2 hb ⊢
  have hat := at_s (p + 1) (by omega) (by omega)
  have d1 : (p == I) = false := by simp; omega
  have d2 : wrap64 (p + 1) = p + 1 := by unfold wrap64; omega
  have d3 : ¬ (p = I) := by omega
  clear hI hm h2 hb hp
  go_enter Try.func40, Try.ntmps40
  go_wp2_with (first | (go_at_call 54; refine (lay_s _).mono ?_; rintro e w' ⟨rfl, rfl⟩) | (go_at_call 49; refine (hinf _).mono ?_; rintro e w' ⟨rfl, rfl⟩) | (go_at_call 64; refine (hpl _).mono ?_; rintro e w' ⟨rfl, g1⟩) | (go_at_call 65; refine (hat _).mono ?_; rintro e w' ⟨rfl, g2⟩))
  exact bodyPost_ret (v := .float .f32 (fS (p + 1))) (by simp [results, Try.results40, go_sem] <;> simp only [*]) rfl ⟨rfl, (by repeat (with_reducible (first | assumption | exact Grown.refl _ | apply Grown.drew | apply Grown.alloc | apply gdrewN | (refine gtrans ?_ (by assumption)))))⟩

set_option maxRecDepth 20000 in
set_option maxHeartbeats 1000000 in
theorem upn_s (n : Bool) (m : Nat) (hm : 2139095040 < m) (h2 : m < 2147483648) (w : World) : Calls Try.prog 40 #[.float .f32 (wS n m)] w fun e w' => e = .returned (.float .f32 (wS n m)) ∧ Grown w w' := by
  have hpl := placen_s n m hm h2
  clear hm h2
  go_enter Try.func40, Try.ntmps40
  go_wp2_with (first | (go_at_call 64; refine (hpl _).mono ?_; rintro e w' ⟨rfl, g1⟩))
  exact bodyPost_ret (v := .float .f32 (wS n m)) (by simp [results, Try.results40, go_sem] <;> simp only [*]) rfl ⟨rfl, (by repeat (with_reducible (first | assumption | exact Grown.refl _ | apply Grown.drew | apply Grown.alloc | apply gdrewN | (refine gtrans ?_ (by assumption)))))⟩

set_option maxRecDepth 20000 in
set_option maxHeartbeats 1000000 in
theorem upe_s (w : World) : Calls Try.prog 40 #[.float .f32 (wS false 2139095040)] w fun e w' => e = .returned (.float .f32 (wS false 2139095040)) ∧ Grown w w' := by
  have hpl := place_s false 2139095040 (by omega)
  obtain ⟨I, hI⟩ : ∃ I : Int, I = 2139095040 := ⟨_, rfl⟩
  have hinf : ∀ w : World, Calls Try.prog 49 #[.agg #[.int .i64 24, .int .i64 (-149), .int .i64 104]] w fun e w' => e = .returned (.int .i64 I) ∧ w' = ((w.alloc (.cells #[.int .i64 24, .int .i64 (-149), .int .i64 104] 74)).alloc (.cells #[.int .i64 24, .int .i64 (-149), .int .i64 104] 74)).drew := by rw [hI]; exact infi_S
  have ep : plz false 2139095040 = I := by rw [hI]; rfl
  rw [ep] at hpl
  clear hI ep
  obtain ⟨M, hM⟩ : ∃ M : Nat, M = 2139095040 := ⟨_, rfl⟩
  rw [← hM] at hpl ⊢
  clear hM
  go_enter Try.func40, Try.ntmps40
  go_wp2_with (first | (go_at_call 54; refine (lay_s _).mono ?_; rintro e w' ⟨rfl, rfl⟩) | (go_at_call 49; refine (hinf _).mono ?_; rintro e w' ⟨rfl, rfl⟩) | (go_at_call 64; refine (hpl _).mono ?_; rintro e w' ⟨rfl, g1⟩))
  exact bodyPost_ret (v := .float .f32 (wS false M)) (by simp [results, Try.results40, go_sem] <;> simp only [*]) rfl ⟨rfl, (by repeat (with_reducible (first | assumption | exact Grown.refl _ | apply Grown.drew | apply Grown.alloc | apply gdrewN | (refine gtrans ?_ (by assumption)))))⟩

set_option maxRecDepth 20000 in
set_option maxHeartbeats 1000000 in
theorem dn_s (n : Bool) (m : Nat) (hm : m ≤ 2139095040) (h2 : plz n m ≠ -2139095040) (w : World) : Calls Try.prog 41 #[.float .f32 (wS n m)] w fun e w' => e = .returned (.float .f32 (fS (plz n m - 1))) ∧ Grown w w' := by
  have hpl := place_s n m hm
  obtain ⟨I, hI⟩ : ∃ I : Int, I = 2139095040 := ⟨_, rfl⟩
  have hinf : ∀ w : World, Calls Try.prog 49 #[.agg #[.int .i64 24, .int .i64 (-149), .int .i64 104]] w fun e w' => e = .returned (.int .i64 I) ∧ w' = ((w.alloc (.cells #[.int .i64 24, .int .i64 (-149), .int .i64 104] 74)).alloc (.cells #[.int .i64 24, .int .i64 (-149), .int .i64 104] 74)).drew := by rw [hI]; exact infi_S
  have hb := plz_bd n m
  obtain ⟨p, hp⟩ : ∃ p : Int, p = plz n m := ⟨_, rfl⟩
  rw [← hp] at hpl h2 hb ⊢
  have hat := at_s (p - 1) (by omega) (by omega)
  have d1 : (p == -I) = false := by simp; omega
  have d2 : wrap64 (p - 1) = p - 1 := by unfold wrap64; omega
  have d0 : wrap64 (-I) = -I := by unfold wrap64; omega
  have d3 : ¬ (p = -I) := by omega
  clear hI hm h2 hb hp
  go_enter Try.func41, Try.ntmps41
  go_wp2_with (first | (go_at_call 54; refine (lay_s _).mono ?_; rintro e w' ⟨rfl, rfl⟩) | (go_at_call 49; refine (hinf _).mono ?_; rintro e w' ⟨rfl, rfl⟩) | (go_at_call 64; refine (hpl _).mono ?_; rintro e w' ⟨rfl, g1⟩) | (go_at_call 65; refine (hat _).mono ?_; rintro e w' ⟨rfl, g2⟩))
  exact bodyPost_ret (v := .float .f32 (fS (p - 1))) (by simp [results, Try.results41, go_sem] <;> simp only [*]) rfl ⟨rfl, (by repeat (with_reducible (first | assumption | exact Grown.refl _ | apply Grown.drew | apply Grown.alloc | apply gdrewN | (refine gtrans ?_ (by assumption)))))⟩

set_option maxRecDepth 20000 in
set_option maxHeartbeats 1000000 in
theorem dnn_s (n : Bool) (m : Nat) (hm : 2139095040 < m) (h2 : m < 2147483648) (w : World) : Calls Try.prog 41 #[.float .f32 (wS n m)] w fun e w' => e = .returned (.float .f32 (wS n m)) ∧ Grown w w' := by
  have hpl := placen_s n m hm h2
  clear hm h2
  go_enter Try.func41, Try.ntmps41
  go_wp2_with (first | (go_at_call 64; refine (hpl _).mono ?_; rintro e w' ⟨rfl, g1⟩))
  exact bodyPost_ret (v := .float .f32 (wS n m)) (by simp [results, Try.results41, go_sem] <;> simp only [*]) rfl ⟨rfl, (by repeat (with_reducible (first | assumption | exact Grown.refl _ | apply Grown.drew | apply Grown.alloc | apply gdrewN | (refine gtrans ?_ (by assumption)))))⟩

set_option maxRecDepth 20000 in
set_option maxHeartbeats 1000000 in
theorem dne_s (w : World) : Calls Try.prog 41 #[.float .f32 (wS true 2139095040)] w fun e w' => e = .returned (.float .f32 (wS true 2139095040)) ∧ Grown w w' := by
  have hpl := place_s true 2139095040 (by omega)
  obtain ⟨I, hI⟩ : ∃ I : Int, I = 2139095040 := ⟨_, rfl⟩
  have hinf : ∀ w : World, Calls Try.prog 49 #[.agg #[.int .i64 24, .int .i64 (-149), .int .i64 104]] w fun e w' => e = .returned (.int .i64 I) ∧ w' = ((w.alloc (.cells #[.int .i64 24, .int .i64 (-149), .int .i64 104] 74)).alloc (.cells #[.int .i64 24, .int .i64 (-149), .int .i64 104] 74)).drew := by rw [hI]; exact infi_S
  have ep : plz true 2139095040 = -I := by rw [hI]; rfl
  rw [ep] at hpl
  have d0 : wrap64 (-I) = -I := by unfold wrap64; omega
  clear hI ep
  obtain ⟨M, hM⟩ : ∃ M : Nat, M = 2139095040 := ⟨_, rfl⟩
  rw [← hM] at hpl ⊢
  clear hM
  go_enter Try.func41, Try.ntmps41
  go_wp2_with (first | (go_at_call 54; refine (lay_s _).mono ?_; rintro e w' ⟨rfl, rfl⟩) | (go_at_call 49; refine (hinf _).mono ?_; rintro e w' ⟨rfl, rfl⟩) | (go_at_call 64; refine (hpl _).mono ?_; rintro e w' ⟨rfl, g1⟩))
  exact bodyPost_ret (v := .float .f32 (wS true M)) (by simp [results, Try.results41, go_sem] <;> simp only [*]) rfl ⟨rfl, (by repeat (with_reducible (first | assumption | exact Grown.refl _ | apply Grown.drew | apply Grown.alloc | apply gdrewN | (refine gtrans ?_ (by assumption)))))⟩

set_option maxRecDepth 20000 in
set_option maxHeartbeats 1000000 in
theorem place_near (n : Bool) (m : Nat) (hm : m ≤ 2139095040) (w : World) : Calls Try.prog 68 #[.float .f32 (wS n m)] w fun e w' => e = .returned (.tuple #[.int .i64 (plz n m), .bool true]) ∧ Grown w w' := by
  have hpat := patt_near n m (by omega)
  obtain ⟨I, hI⟩ : ∃ I : Int, I = 2139095040 := ⟨_, rfl⟩
  have hinf : ∀ w : World, Calls Try.prog 49 #[.agg #[.int .i64 24, .int .i64 (-149), .int .i64 104]] w fun e w' => e = .returned (.int .i64 I) ∧ w' = ((w.alloc (.cells #[.int .i64 24, .int .i64 (-149), .int .i64 104] 74)).alloc (.cells #[.int .i64 24, .int .i64 (-149), .int .i64 104] 74)).drew := by rw [hI]; exact infi_S
  have d1 : ¬ (I < (m : Int)) := by omega
  have d2 : wrap64 (-(m : Int)) = -(m : Int) := by unfold wrap64; omega
  clear hI hm
  cases n
  · have ec : plz false m = (m : Int) := rfl
    rw [ec]
    clear ec d2
    go_enter Try.func68, Try.ntmps68
    go_wp2_with (first | (go_at_call 57; refine (lay_near _).mono ?_; rintro e w' ⟨rfl, rfl⟩) | (go_at_call 58; refine (hpat _).mono ?_; rintro e w' ⟨rfl, rfl⟩) | (go_at_call 49; refine (hinf _).mono ?_; rintro e w' ⟨rfl, rfl⟩))
    exact bodyPost_ret (v := .tuple #[.int .i64 (m : Int), .bool true]) (by simp [results, Try.results68, go_sem] <;> simp only [*]) rfl ⟨rfl, (by repeat (with_reducible (first | assumption | exact Grown.refl _ | apply Grown.drew | apply Grown.alloc | apply gdrewN | (refine gtrans ?_ (by assumption)))))⟩
  · have ec : plz true m = -(m : Int) := rfl
    rw [ec]
    clear ec
    go_enter Try.func68, Try.ntmps68
    go_wp2_with (first | (go_at_call 57; refine (lay_near _).mono ?_; rintro e w' ⟨rfl, rfl⟩) | (go_at_call 58; refine (hpat _).mono ?_; rintro e w' ⟨rfl, rfl⟩) | (go_at_call 49; refine (hinf _).mono ?_; rintro e w' ⟨rfl, rfl⟩))
    exact bodyPost_ret (v := .tuple #[.int .i64 (-(m : Int)), .bool true]) (by simp [results, Try.results68, go_sem] <;> simp only [*]) rfl ⟨rfl, (by repeat (with_reducible (first | assumption | exact Grown.refl _ | apply Grown.drew | apply Grown.alloc | apply gdrewN | (refine gtrans ?_ (by assumption)))))⟩

set_option maxRecDepth 20000 in
set_option maxHeartbeats 1000000 in
theorem placen_near (n : Bool) (m : Nat) (hm : 2139095040 < m) (h2 : m < 2147483648) (w : World) : Calls Try.prog 68 #[.float .f32 (wS n m)] w fun e w' => e = .returned (.tuple #[.int .i64 0, .bool false]) ∧ Grown w w' := by
  have hpat := patt_near n m h2
  obtain ⟨I, hI⟩ : ∃ I : Int, I = 2139095040 := ⟨_, rfl⟩
  have hinf : ∀ w : World, Calls Try.prog 49 #[.agg #[.int .i64 24, .int .i64 (-149), .int .i64 104]] w fun e w' => e = .returned (.int .i64 I) ∧ w' = ((w.alloc (.cells #[.int .i64 24, .int .i64 (-149), .int .i64 104] 74)).alloc (.cells #[.int .i64 24, .int .i64 (-149), .int .i64 104] 74)).drew := by rw [hI]; exact infi_S
  have d1 : I < (m : Int) := by omega
  clear hI hm h2
  go_enter Try.func68, Try.ntmps68
  go_wp2_with (first | (go_at_call 57; refine (lay_near _).mono ?_; rintro e w' ⟨rfl, rfl⟩) | (go_at_call 58; refine (hpat _).mono ?_; rintro e w' ⟨rfl, rfl⟩) | (go_at_call 49; refine (hinf _).mono ?_; rintro e w' ⟨rfl, rfl⟩))
  exact bodyPost_ret (v := .tuple #[.int .i64 0, .bool false]) (by simp [results, Try.results68, go_sem] <;> simp only [*]) rfl ⟨rfl, (by repeat (with_reducible (first | assumption | exact Grown.refl _ | apply Grown.drew | apply Grown.alloc | apply gdrewN | (refine gtrans ?_ (by assumption)))))⟩

set_option maxRecDepth 20000 in
set_option maxHeartbeats 1000000 in
theorem at_near (p : Int) (h1 : -2139095040 ≤ p) (h2 : p ≤ 2139095040) (w : World) : Calls Try.prog 69 #[.int .i64 p] w fun e w' => e = .returned (.tuple #[.float .f32 (fS p), .bool true]) ∧ Grown w w' := by
  obtain ⟨I, hI⟩ : ∃ I : Int, I = 2139095040 := ⟨_, rfl⟩
  have hinf : ∀ w : World, Calls Try.prog 49 #[.agg #[.int .i64 24, .int .i64 (-149), .int .i64 104]] w fun e w' => e = .returned (.int .i64 I) ∧ w' = ((w.alloc (.cells #[.int .i64 24, .int .i64 (-149), .int .i64 104] 74)).alloc (.cells #[.int .i64 24, .int .i64 (-149), .int .i64 104] 74)).drew := by rw [hI]; exact infi_S
  have d1 : ¬ (p < -I) := by omega
  have d2 : ¬ (I < p) := by omega
  have d0 : wrap64 (-I) = -I := by unfold wrap64; omega
  by_cases c : p < 0
  · have ef : fS p = wS true p.natAbs := by unfold fS; simp [c]
    rw [ef]
    have e2 : wrap64 (-p) = ((p.natAbs : Nat) : Int) := by unfold wrap64; omega
    have hfr := from_near p.natAbs (by omega)
    obtain ⟨a, ha⟩ : ∃ a : Nat, a = p.natAbs := ⟨_, rfl⟩
    rw [← ha] at e2 hfr ⊢
    have hng : Op.unary .neg (.float .f32 (wS false a)) = pure (.float .f32 (wS true a)) := by
      show pure (Value.float .f32 (Op.negFloat .f32 (wS false a))) = _
      rw [negS false a (by omega)]; rfl
    clear hI h1 h2 ef ha
    go_enter Try.func69, Try.ntmps69
    go_wp2_with (first | (go_at_call 57; refine (lay_near _).mono ?_; rintro e w' ⟨rfl, rfl⟩) | (go_at_call 77; refine (hfr _).mono ?_; rintro e w' ⟨rfl, rfl⟩) | (go_at_call 49; refine (hinf _).mono ?_; rintro e w' ⟨rfl, rfl⟩))
    exact bodyPost_ret (v := .tuple #[.float .f32 (wS true a), .bool true]) (by simp [results, Try.results69, go_sem] <;> simp only [*]) rfl ⟨rfl, (by repeat (with_reducible (first | assumption | exact Grown.refl _ | apply Grown.drew | apply Grown.alloc | apply gdrewN | (refine gtrans ?_ (by assumption)))))⟩
  · have ef : fS p = wS false p.natAbs := by unfold fS; simp [c]
    rw [ef]
    have e2 : p = ((p.natAbs : Nat) : Int) := by omega
    have hfr : ∀ w : World, Calls Try.prog 77 #[.int .i64 p] w fun e w' => e = .returned (.float .f32 (wS false p.natAbs)) ∧ w' = w := by
      have := from_near p.natAbs (by omega)
      rw [← e2] at this; exact this
    obtain ⟨a, ha⟩ : ∃ a : Nat, a = p.natAbs := ⟨_, rfl⟩
    rw [← ha] at hfr ⊢
    clear hI h1 h2 ef ha e2
    go_enter Try.func69, Try.ntmps69
    go_wp2_with (first | (go_at_call 57; refine (lay_near _).mono ?_; rintro e w' ⟨rfl, rfl⟩) | (go_at_call 77; refine (hfr _).mono ?_; rintro e w' ⟨rfl, rfl⟩) | (go_at_call 49; refine (hinf _).mono ?_; rintro e w' ⟨rfl, rfl⟩))
    exact bodyPost_ret (v := .tuple #[.float .f32 (wS false a), .bool true]) (by simp [results, Try.results69, go_sem] <;> simp only [*]) rfl ⟨rfl, (by repeat (with_reducible (first | assumption | exact Grown.refl _ | apply Grown.drew | apply Grown.alloc | apply gdrewN | (refine gtrans ?_ (by assumption)))))⟩

set_option maxRecDepth 20000 in
set_option maxHeartbeats 1000000 in
theorem atx_near (p : Int) (h : p < -2139095040 ∨ 2139095040 < p) (w : World) : Calls Try.prog 69 #[.int .i64 p] w fun e w' => e = .returned (.tuple #[.float .f32 (wS false 0), .bool false]) ∧ Grown w w' := by
  obtain ⟨I, hI⟩ : ∃ I : Int, I = 2139095040 := ⟨_, rfl⟩
  have hinf : ∀ w : World, Calls Try.prog 49 #[.agg #[.int .i64 24, .int .i64 (-149), .int .i64 104]] w fun e w' => e = .returned (.int .i64 I) ∧ w' = ((w.alloc (.cells #[.int .i64 24, .int .i64 (-149), .int .i64 104] 74)).alloc (.cells #[.int .i64 24, .int .i64 (-149), .int .i64 104] 74)).drew := by rw [hI]; exact infi_S
  have d0 : wrap64 (-I) = -I := by unfold wrap64; omega
  have ew : wS false 0 = 0 := rfl
  rw [ew]
  clear ew
  rcases h with h | h
  · have d1 : p < -I := by omega
    clear hI h
    go_enter Try.func69, Try.ntmps69
    go_wp2_with (first | (go_at_call 57; refine (lay_near _).mono ?_; rintro e w' ⟨rfl, rfl⟩) | (go_at_call 77; refine (hfr _).mono ?_; rintro e w' ⟨rfl, rfl⟩) | (go_at_call 49; refine (hinf _).mono ?_; rintro e w' ⟨rfl, rfl⟩))
    exact bodyPost_ret (v := .tuple #[.float .f32 0, .bool false]) (by simp [results, Try.results69, go_sem] <;> simp only [*]) rfl ⟨rfl, (by repeat (with_reducible (first | assumption | exact Grown.refl _ | apply Grown.drew | apply Grown.alloc | apply gdrewN | (refine gtrans ?_ (by assumption)))))⟩
  · have d1 : ¬ (p < -I) := by omega
    have d2 : I < p := by omega
    clear hI h
    go_enter Try.func69, Try.ntmps69
    go_wp2_with (first | (go_at_call 57; refine (lay_near _).mono ?_; rintro e w' ⟨rfl, rfl⟩) | (go_at_call 77; refine (hfr _).mono ?_; rintro e w' ⟨rfl, rfl⟩) | (go_at_call 49; refine (hinf _).mono ?_; rintro e w' ⟨rfl, rfl⟩))
    exact bodyPost_ret (v := .tuple #[.float .f32 0, .bool false]) (by simp [results, Try.results69, go_sem] <;> simp only [*]) rfl ⟨rfl, (by repeat (with_reducible (first | assumption | exact Grown.refl _ | apply Grown.drew | apply Grown.alloc | apply gdrewN | (refine gtrans ?_ (by assumption)))))⟩

set_option maxRecDepth 20000 in
set_option maxHeartbeats 1000000 in
theorem up_near (n : Bool) (m : Nat) (hm : m ≤ 2139095040) (h2 : plz n m ≠ 2139095040) (w : World) : Calls Try.prog 44 #[.float .f32 (wS n m)] w fun e w' => e = .returned (.float .f32 (fS (plz n m + 1))) ∧ Grown w w' := by
  have hpl := place_near n m hm
  obtain ⟨I, hI⟩ : ∃ I : Int, I = 2139095040 := ⟨_, rfl⟩
  have hinf : ∀ w : World, Calls Try.prog 49 #[.agg #[.int .i64 24, .int .i64 (-149), .int .i64 104]] w fun e w' => e = .returned (.int .i64 I) ∧ w' = ((w.alloc (.cells #[.int .i64 24, .int .i64 (-149), .int .i64 104] 74)).alloc (.cells #[.int .i64 24, .int .i64 (-149), .int .i64 104] 74)).drew := by rw [hI]; exact infi_S
  have hb := plz_bd n m
  obtain ⟨p, hp⟩ : ∃ p : Int, p = plz n m := ⟨_, rfl⟩
  rw [← hp] at hpl h2 hb ⊢
  have hat := at_near (p + 1) (by omega) (by omega)
  have d1 : (p == I) = false := by simp; omega
  have d2 : wrap64 (p + 1) = p + 1 := by unfold wrap64; omega
  have d3 : ¬ (p = I) := by omega
  clear hI hm h2 hb hp
  go_enter Try.func44, Try.ntmps44
  go_wp2_with (first | (go_at_call 57; refine (lay_near _).mono ?_; rintro e w' ⟨rfl, rfl⟩) | (go_at_call 49; refine (hinf _).mono ?_; rintro e w' ⟨rfl, rfl⟩) | (go_at_call 68; refine (hpl _).mono ?_; rintro e w' ⟨rfl, g1⟩) | (go_at_call 69; refine (hat _).mono ?_; rintro e w' ⟨rfl, g2⟩))
  exact bodyPost_ret (v := .float .f32 (fS (p + 1))) (by simp [results, Try.results44, go_sem] <;> simp only [*]) rfl ⟨rfl, (by repeat (with_reducible (first | assumption | exact Grown.refl _ | apply Grown.drew | apply Grown.alloc | apply gdrewN | (refine gtrans ?_ (by assumption)))))⟩

set_option maxRecDepth 20000 in
set_option maxHeartbeats 1000000 in
theorem upn_near (n : Bool) (m : Nat) (hm : 2139095040 < m) (h2 : m < 2147483648) (w : World) : Calls Try.prog 44 #[.float .f32 (wS n m)] w fun e w' => e = .returned (.float .f32 (wS n m)) ∧ Grown w w' := by
  have hpl := placen_near n m hm h2
  clear hm h2
  go_enter Try.func44, Try.ntmps44
  go_wp2_with (first | (go_at_call 68; refine (hpl _).mono ?_; rintro e w' ⟨rfl, g1⟩))
  exact bodyPost_ret (v := .float .f32 (wS n m)) (by simp [results, Try.results44, go_sem] <;> simp only [*]) rfl ⟨rfl, (by repeat (with_reducible (first | assumption | exact Grown.refl _ | apply Grown.drew | apply Grown.alloc | apply gdrewN | (refine gtrans ?_ (by assumption)))))⟩

set_option maxRecDepth 20000 in
set_option maxHeartbeats 1000000 in
theorem upe_near (w : World) : Calls Try.prog 44 #[.float .f32 (wS false 2139095040)] w fun e w' => e = .returned (.float .f32 (wS false 2139095040)) ∧ Grown w w' := by
  have hpl := place_near false 2139095040 (by omega)
  obtain ⟨I, hI⟩ : ∃ I : Int, I = 2139095040 := ⟨_, rfl⟩
  have hinf : ∀ w : World, Calls Try.prog 49 #[.agg #[.int .i64 24, .int .i64 (-149), .int .i64 104]] w fun e w' => e = .returned (.int .i64 I) ∧ w' = ((w.alloc (.cells #[.int .i64 24, .int .i64 (-149), .int .i64 104] 74)).alloc (.cells #[.int .i64 24, .int .i64 (-149), .int .i64 104] 74)).drew := by rw [hI]; exact infi_S
  have ep : plz false 2139095040 = I := by rw [hI]; rfl
  rw [ep] at hpl
  clear hI ep
  obtain ⟨M, hM⟩ : ∃ M : Nat, M = 2139095040 := ⟨_, rfl⟩
  rw [← hM] at hpl ⊢
  clear hM
  go_enter Try.func44, Try.ntmps44
  go_wp2_with (first | (go_at_call 57; refine (lay_near _).mono ?_; rintro e w' ⟨rfl, rfl⟩) | (go_at_call 49; refine (hinf _).mono ?_; rintro e w' ⟨rfl, rfl⟩) | (go_at_call 68; refine (hpl _).mono ?_; rintro e w' ⟨rfl, g1⟩))
  exact bodyPost_ret (v := .float .f32 (wS false M)) (by simp [results, Try.results44, go_sem] <;> simp only [*]) rfl ⟨rfl, (by repeat (with_reducible (first | assumption | exact Grown.refl _ | apply Grown.drew | apply Grown.alloc | apply gdrewN | (refine gtrans ?_ (by assumption)))))⟩

set_option maxRecDepth 20000 in
set_option maxHeartbeats 1000000 in
theorem dn_near (n : Bool) (m : Nat) (hm : m ≤ 2139095040) (h2 : plz n m ≠ -2139095040) (w : World) : Calls Try.prog 45 #[.float .f32 (wS n m)] w fun e w' => e = .returned (.float .f32 (fS (plz n m - 1))) ∧ Grown w w' := by
  have hpl := place_near n m hm
  obtain ⟨I, hI⟩ : ∃ I : Int, I = 2139095040 := ⟨_, rfl⟩
  have hinf : ∀ w : World, Calls Try.prog 49 #[.agg #[.int .i64 24, .int .i64 (-149), .int .i64 104]] w fun e w' => e = .returned (.int .i64 I) ∧ w' = ((w.alloc (.cells #[.int .i64 24, .int .i64 (-149), .int .i64 104] 74)).alloc (.cells #[.int .i64 24, .int .i64 (-149), .int .i64 104] 74)).drew := by rw [hI]; exact infi_S
  have hb := plz_bd n m
  obtain ⟨p, hp⟩ : ∃ p : Int, p = plz n m := ⟨_, rfl⟩
  rw [← hp] at hpl h2 hb ⊢
  have hat := at_near (p - 1) (by omega) (by omega)
  have d1 : (p == -I) = false := by simp; omega
  have d2 : wrap64 (p - 1) = p - 1 := by unfold wrap64; omega
  have d0 : wrap64 (-I) = -I := by unfold wrap64; omega
  have d3 : ¬ (p = -I) := by omega
  clear hI hm h2 hb hp
  go_enter Try.func45, Try.ntmps45
  go_wp2_with (first | (go_at_call 57; refine (lay_near _).mono ?_; rintro e w' ⟨rfl, rfl⟩) | (go_at_call 49; refine (hinf _).mono ?_; rintro e w' ⟨rfl, rfl⟩) | (go_at_call 68; refine (hpl _).mono ?_; rintro e w' ⟨rfl, g1⟩) | (go_at_call 69; refine (hat _).mono ?_; rintro e w' ⟨rfl, g2⟩))
  exact bodyPost_ret (v := .float .f32 (fS (p - 1))) (by simp [results, Try.results45, go_sem] <;> simp only [*]) rfl ⟨rfl, (by repeat (with_reducible (first | assumption | exact Grown.refl _ | apply Grown.drew | apply Grown.alloc | apply gdrewN | (refine gtrans ?_ (by assumption)))))⟩

set_option maxRecDepth 20000 in
set_option maxHeartbeats 1000000 in
theorem dnn_near (n : Bool) (m : Nat) (hm : 2139095040 < m) (h2 : m < 2147483648) (w : World) : Calls Try.prog 45 #[.float .f32 (wS n m)] w fun e w' => e = .returned (.float .f32 (wS n m)) ∧ Grown w w' := by
  have hpl := placen_near n m hm h2
  clear hm h2
  go_enter Try.func45, Try.ntmps45
  go_wp2_with (first | (go_at_call 68; refine (hpl _).mono ?_; rintro e w' ⟨rfl, g1⟩))
  exact bodyPost_ret (v := .float .f32 (wS n m)) (by simp [results, Try.results45, go_sem] <;> simp only [*]) rfl ⟨rfl, (by repeat (with_reducible (first | assumption | exact Grown.refl _ | apply Grown.drew | apply Grown.alloc | apply gdrewN | (refine gtrans ?_ (by assumption)))))⟩

set_option maxRecDepth 20000 in
set_option maxHeartbeats 1000000 in
theorem dne_near (w : World) : Calls Try.prog 45 #[.float .f32 (wS true 2139095040)] w fun e w' => e = .returned (.float .f32 (wS true 2139095040)) ∧ Grown w w' := by
  have hpl := place_near true 2139095040 (by omega)
  obtain ⟨I, hI⟩ : ∃ I : Int, I = 2139095040 := ⟨_, rfl⟩
  have hinf : ∀ w : World, Calls Try.prog 49 #[.agg #[.int .i64 24, .int .i64 (-149), .int .i64 104]] w fun e w' => e = .returned (.int .i64 I) ∧ w' = ((w.alloc (.cells #[.int .i64 24, .int .i64 (-149), .int .i64 104] 74)).alloc (.cells #[.int .i64 24, .int .i64 (-149), .int .i64 104] 74)).drew := by rw [hI]; exact infi_S
  have ep : plz true 2139095040 = -I := by rw [hI]; rfl
  rw [ep] at hpl
  have d0 : wrap64 (-I) = -I := by unfold wrap64; omega
  clear hI ep
  obtain ⟨M, hM⟩ : ∃ M : Nat, M = 2139095040 := ⟨_, rfl⟩
  rw [← hM] at hpl ⊢
  clear hM
  go_enter Try.func45, Try.ntmps45
  go_wp2_with (first | (go_at_call 57; refine (lay_near _).mono ?_; rintro e w' ⟨rfl, rfl⟩) | (go_at_call 49; refine (hinf _).mono ?_; rintro e w' ⟨rfl, rfl⟩) | (go_at_call 68; refine (hpl _).mono ?_; rintro e w' ⟨rfl, g1⟩))
  exact bodyPost_ret (v := .float .f32 (wS true M)) (by simp [results, Try.results45, go_sem] <;> simp only [*]) rfl ⟨rfl, (by repeat (with_reducible (first | assumption | exact Grown.refl _ | apply Grown.drew | apply Grown.alloc | apply gdrewN | (refine gtrans ?_ (by assumption)))))⟩

end Go.Proofs.Ytkjcdhbhhiaaiaa
