import Derived.Test.YtnjlcfpkhgmjeaaGreatDoorKQA
namespace Go.Proofs.YtnjlcfpkhgmjeaaGreatDoor
open Go.RowKit
namespace Fq
set_option maxRecDepth 20000 in
set_option maxHeartbeats 1000000 in
theorem place_d (n : Bool) (m : Nat) (hm : m ≤ 9218868437227405312) (w : World) : Calls Tryz.prog 97 #[.float .f64 (wD n m)] w fun e w' => e = .returned (.tuple #[.int .i64 (plz n m), .bool true]) ∧ Grown w w' := by
  have hpat := patt_d n m (by omega)
  obtain ⟨I, hI⟩ : ∃ I : Int, I = 9218868437227405312 := ⟨_, rfl⟩
  have hinf : ∀ w : World, Calls Tryz.prog 74 #[.agg #[.int .i64 53, .int .i64 (-1074), .int .i64 971]] w fun e w' => e = .returned (.int .i64 I) ∧ w' = ((w.alloc (.cells #[.int .i64 53, .int .i64 (-1074), .int .i64 971] 97)).alloc (.cells #[.int .i64 53, .int .i64 (-1074), .int .i64 971] 97)).drew := by rw [hI]; exact infi_D
  have d1 : ¬ (I < (m : Int)) := by omega
  have d2 : wrap64 (-(m : Int)) = -(m : Int) := by unfold wrap64; omega
  clear hI hm
  cases n
  · have ec : plz false m = (m : Int) := rfl
    rw [ec]
    clear ec d2
    go_enter Tryz.func97, Tryz.ntmps97
    go_wp2_with (first | (go_at_call 72; refine (lay_d _).mono ?_; rintro e w' ⟨rfl, rfl⟩) | (go_at_call 73; refine (hpat _).mono ?_; rintro e w' ⟨rfl, rfl⟩) | (go_at_call 74; refine (hinf _).mono ?_; rintro e w' ⟨rfl, rfl⟩))
    exact bodyPost_ret (v := .tuple #[.int .i64 (m : Int), .bool true]) (by simp [results, Tryz.results97, go_sem] <;> simp only [*]) rfl ⟨rfl, (by repeat (with_reducible (first | assumption | exact Grown.refl _ | apply Grown.drew | apply Grown.alloc | apply gdrewN | (refine gtrans ?_ (by assumption)))))⟩
  · have ec : plz true m = -(m : Int) := rfl
    rw [ec]
    clear ec
    go_enter Tryz.func97, Tryz.ntmps97
    go_wp2_with (first | (go_at_call 72; refine (lay_d _).mono ?_; rintro e w' ⟨rfl, rfl⟩) | (go_at_call 73; refine (hpat _).mono ?_; rintro e w' ⟨rfl, rfl⟩) | (go_at_call 74; refine (hinf _).mono ?_; rintro e w' ⟨rfl, rfl⟩))
    exact bodyPost_ret (v := .tuple #[.int .i64 (-(m : Int)), .bool true]) (by simp [results, Tryz.results97, go_sem] <;> simp only [*]) rfl ⟨rfl, (by repeat (with_reducible (first | assumption | exact Grown.refl _ | apply Grown.drew | apply Grown.alloc | apply gdrewN | (refine gtrans ?_ (by assumption)))))⟩

set_option maxRecDepth 20000 in
set_option maxHeartbeats 1000000 in
theorem at_d (p : Int) (h1 : -9218868437227405312 ≤ p) (h2 : p ≤ 9218868437227405312) (w : World) : Calls Tryz.prog 98 #[.int .i64 p] w fun e w' => e = .returned (.tuple #[.float .f64 (fD p), .bool true]) ∧ Grown w w' := by
  obtain ⟨I, hI⟩ : ∃ I : Int, I = 9218868437227405312 := ⟨_, rfl⟩
  have hinf : ∀ w : World, Calls Tryz.prog 74 #[.agg #[.int .i64 53, .int .i64 (-1074), .int .i64 971]] w fun e w' => e = .returned (.int .i64 I) ∧ w' = ((w.alloc (.cells #[.int .i64 53, .int .i64 (-1074), .int .i64 971] 97)).alloc (.cells #[.int .i64 53, .int .i64 (-1074), .int .i64 971] 97)).drew := by rw [hI]; exact infi_D
  have d1 : ¬ (p < -I) := by omega
  have d2 : ¬ (I < p) := by omega
  have d0 : wrap64 (-I) = -I := by unfold wrap64; omega
  by_cases c : p < 0
  · have ef : fD p = wD true p.natAbs := by unfold fD; simp [c]
    rw [ef]
    have e2 : wrap64 (-p) = ((p.natAbs : Nat) : Int) := by unfold wrap64; omega
    have hfr := from_d p.natAbs (by omega)
    obtain ⟨a, ha⟩ : ∃ a : Nat, a = p.natAbs := ⟨_, rfl⟩
    rw [← ha] at e2 hfr ⊢
    have hng : Op.unary .neg (.float .f64 (wD false a)) = pure (.float .f64 (wD true a)) := by
      show pure (Value.float .f64 (Op.negFloat .f64 (wD false a))) = _
      rw [negD false a (by omega)]; rfl
    clear hI h1 h2 ef ha
    go_enter Tryz.func98, Tryz.ntmps98
    go_wp2_with (first | (go_at_call 72; refine (lay_d _).mono ?_; rintro e w' ⟨rfl, rfl⟩) | (go_at_call 116; refine (hfr _).mono ?_; rintro e w' ⟨rfl, rfl⟩) | (go_at_call 74; refine (hinf _).mono ?_; rintro e w' ⟨rfl, rfl⟩))
    exact bodyPost_ret (v := .tuple #[.float .f64 (wD true a), .bool true]) (by simp [results, Tryz.results98, go_sem] <;> simp only [*]) rfl ⟨rfl, (by repeat (with_reducible (first | assumption | exact Grown.refl _ | apply Grown.drew | apply Grown.alloc | apply gdrewN | (refine gtrans ?_ (by assumption)))))⟩
  · have ef : fD p = wD false p.natAbs := by unfold fD; simp [c]
    rw [ef]
    have e2 : p = ((p.natAbs : Nat) : Int) := by omega
    have hfr : ∀ w : World, Calls Tryz.prog 116 #[.int .i64 p] w fun e w' => e = .returned (.float .f64 (wD false p.natAbs)) ∧ w' = w := by
      have := from_d p.natAbs (by omega)
      rw [← e2] at this; exact this
    obtain ⟨a, ha⟩ : ∃ a : Nat, a = p.natAbs := ⟨_, rfl⟩
    rw [← ha] at hfr ⊢
    clear hI h1 h2 ef ha e2
    go_enter Tryz.func98, Tryz.ntmps98
    go_wp2_with (first | (go_at_call 72; refine (lay_d _).mono ?_; rintro e w' ⟨rfl, rfl⟩) | (go_at_call 116; refine (hfr _).mono ?_; rintro e w' ⟨rfl, rfl⟩) | (go_at_call 74; refine (hinf _).mono ?_; rintro e w' ⟨rfl, rfl⟩))
    exact bodyPost_ret (v := .tuple #[.float .f64 (wD false a), .bool true]) (by simp [results, Tryz.results98, go_sem] <;> simp only [*]) rfl ⟨rfl, (by repeat (with_reducible (first | assumption | exact Grown.refl _ | apply Grown.drew | apply Grown.alloc | apply gdrewN | (refine gtrans ?_ (by assumption)))))⟩

set_option maxRecDepth 20000 in
set_option maxHeartbeats 1000000 in
theorem up_d (n : Bool) (m : Nat) (hm : m ≤ 9218868437227405312) (h2 : plz n m ≠ 9218868437227405312) (w : World) : Calls Tryz.prog 61 #[.float .f64 (wD n m)] w fun e w' => e = .returned (.float .f64 (fD (plz n m + 1))) ∧ Grown w w' := by
  have hpl := place_d n m hm
  obtain ⟨I, hI⟩ : ∃ I : Int, I = 9218868437227405312 := ⟨_, rfl⟩
  have hinf : ∀ w : World, Calls Tryz.prog 74 #[.agg #[.int .i64 53, .int .i64 (-1074), .int .i64 971]] w fun e w' => e = .returned (.int .i64 I) ∧ w' = ((w.alloc (.cells #[.int .i64 53, .int .i64 (-1074), .int .i64 971] 97)).alloc (.cells #[.int .i64 53, .int .i64 (-1074), .int .i64 971] 97)).drew := by rw [hI]; exact infi_D
  have hb := plz_bd n m
  obtain ⟨p, hp⟩ : ∃ p : Int, p = plz n m := ⟨_, rfl⟩
  rw [← hp] at hpl h2 hb ⊢
  have hat := at_d (p + 1) (by omega) (by omega)
  have d1 : (p == I) = false := by simp; omega
  have d2 : wrap64 (p + 1) = p + 1 := by unfold wrap64; omega
  have d3 : ¬ (p = I) := by omega
  clear hI hm h2 hb hp
  go_enter Tryz.func61, Tryz.ntmps61
  go_wp2_with (first | (go_at_call 72; refine (lay_d _).mono ?_; rintro e w' ⟨rfl, rfl⟩) | (go_at_call 74; refine (hinf _).mono ?_; rintro e w' ⟨rfl, rfl⟩) | (go_at_call 97; refine (hpl _).mono ?_; rintro e w' ⟨rfl, g1⟩) | (go_at_call 98; refine (hat _).mono ?_; rintro e w' ⟨rfl, g2⟩))
  exact bodyPost_ret (v := .float .f64 (fD (p + 1))) (by simp [results, Tryz.results61, go_sem] <;> simp only [*]) rfl ⟨rfl, (by repeat (with_reducible (first | assumption | exact Grown.refl _ | apply Grown.drew | apply Grown.alloc | apply gdrewN | (refine gtrans ?_ (by assumption)))))⟩

set_option maxRecDepth 20000 in
set_option maxHeartbeats 1000000 in
theorem dn_d (n : Bool) (m : Nat) (hm : m ≤ 9218868437227405312) (h2 : plz n m ≠ -9218868437227405312) (w : World) : Calls Tryz.prog 60 #[.float .f64 (wD n m)] w fun e w' => e = .returned (.float .f64 (fD (plz n m - 1))) ∧ Grown w w' := by
  have hpl := place_d n m hm
  obtain ⟨I, hI⟩ : ∃ I : Int, I = 9218868437227405312 := ⟨_, rfl⟩
  have hinf : ∀ w : World, Calls Tryz.prog 74 #[.agg #[.int .i64 53, .int .i64 (-1074), .int .i64 971]] w fun e w' => e = .returned (.int .i64 I) ∧ w' = ((w.alloc (.cells #[.int .i64 53, .int .i64 (-1074), .int .i64 971] 97)).alloc (.cells #[.int .i64 53, .int .i64 (-1074), .int .i64 971] 97)).drew := by rw [hI]; exact infi_D
  have hb := plz_bd n m
  obtain ⟨p, hp⟩ : ∃ p : Int, p = plz n m := ⟨_, rfl⟩
  rw [← hp] at hpl h2 hb ⊢
  have hat := at_d (p - 1) (by omega) (by omega)
  have d1 : (p == -I) = false := by simp; omega
  have d2 : wrap64 (p - 1) = p - 1 := by unfold wrap64; omega
  have d0 : wrap64 (-I) = -I := by unfold wrap64; omega
  have d3 : ¬ (p = -I) := by omega
  clear hI hm h2 hb hp
  go_enter Tryz.func60, Tryz.ntmps60
  go_wp2_with (first | (go_at_call 72; refine (lay_d _).mono ?_; rintro e w' ⟨rfl, rfl⟩) | (go_at_call 74; refine (hinf _).mono ?_; rintro e w' ⟨rfl, rfl⟩) | (go_at_call 97; refine (hpl _).mono ?_; rintro e w' ⟨rfl, g1⟩) | (go_at_call 98; refine (hat _).mono ?_; rintro e w' ⟨rfl, g2⟩))
  exact bodyPost_ret (v := .float .f64 (fD (p - 1))) (by simp [results, Tryz.results60, go_sem] <;> simp only [*]) rfl ⟨rfl, (by repeat (with_reducible (first | assumption | exact Grown.refl _ | apply Grown.drew | apply Grown.alloc | apply gdrewN | (refine gtrans ?_ (by assumption)))))⟩

end Fq
end Go.Proofs.YtnjlcfpkhgmjeaaGreatDoor
