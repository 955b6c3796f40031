import Derived.Test.YtjkbapnndoldgaaKQA
namespace Go.Proofs.Ytjkbapnndoldgaa
open Go.RowKit
namespace Fq
set_option maxRecDepth 20000 in
set_option maxHeartbeats 1000000 in
theorem place_s (n : Bool) (m : Nat) (hm : m ≤ 2139095040) (w : World) : Calls Try.prog 88 #[.float .f32 (wS n m)] w fun e w' => e = .returned (.tuple #[.int .i64 (plz n m), .bool true]) ∧ Grown w w' := by
  have hpat := patt_s n m (by omega)
  obtain ⟨I, hI⟩ : ∃ I : Int, I = 2139095040 := ⟨_, rfl⟩
  have hinf : ∀ w : World, Calls Try.prog 91 #[.agg #[.int .i64 24, .int .i64 (-149), .int .i64 104]] w fun e w' => e = .returned (.int .i64 I) ∧ w' = ((w.alloc (.cells #[.int .i64 24, .int .i64 (-149), .int .i64 104] 124)).alloc (.cells #[.int .i64 24, .int .i64 (-149), .int .i64 104] 124)).drew := by rw [hI]; exact infi_S
  have d1 : ¬ (I < (m : Int)) := by omega
  have d2 : wrap64 (-(m : Int)) = -(m : Int) := by unfold wrap64; omega
  clear hI hm
  cases n
  · have ec : plz false m = (m : Int) := rfl
    rw [ec]
    clear ec d2
    go_enter Try.func88, Try.ntmps88
    go_wp2_with (first | (go_at_call 90; refine (lay_s _).mono ?_; rintro e w' ⟨rfl, rfl⟩) | (go_at_call 89; refine (hpat _).mono ?_; rintro e w' ⟨rfl, rfl⟩) | (go_at_call 91; refine (hinf _).mono ?_; rintro e w' ⟨rfl, rfl⟩))
    exact bodyPost_ret (v := .tuple #[.int .i64 (m : Int), .bool true]) (by simp [results, Try.results88, go_sem] <;> simp only [*]) rfl ⟨rfl, (by repeat (with_reducible (first | assumption | exact Grown.refl _ | apply Grown.drew | apply Grown.alloc | apply gdrewN | (refine gtrans ?_ (by assumption)))))⟩
  · have ec : plz true m = -(m : Int) := rfl
    rw [ec]
    clear ec
    go_enter Try.func88, Try.ntmps88
    go_wp2_with (first | (go_at_call 90; refine (lay_s _).mono ?_; rintro e w' ⟨rfl, rfl⟩) | (go_at_call 89; refine (hpat _).mono ?_; rintro e w' ⟨rfl, rfl⟩) | (go_at_call 91; refine (hinf _).mono ?_; rintro e w' ⟨rfl, rfl⟩))
    exact bodyPost_ret (v := .tuple #[.int .i64 (-(m : Int)), .bool true]) (by simp [results, Try.results88, go_sem] <;> simp only [*]) rfl ⟨rfl, (by repeat (with_reducible (first | assumption | exact Grown.refl _ | apply Grown.drew | apply Grown.alloc | apply gdrewN | (refine gtrans ?_ (by assumption)))))⟩

set_option maxRecDepth 20000 in
set_option maxHeartbeats 1000000 in
theorem at_s (p : Int) (h1 : -2139095040 ≤ p) (h2 : p ≤ 2139095040) (w : World) : Calls Try.prog 92 #[.int .i64 p] w fun e w' => e = .returned (.tuple #[.float .f32 (fS p), .bool true]) ∧ Grown w w' := by
  obtain ⟨I, hI⟩ : ∃ I : Int, I = 2139095040 := ⟨_, rfl⟩
  have hinf : ∀ w : World, Calls Try.prog 91 #[.agg #[.int .i64 24, .int .i64 (-149), .int .i64 104]] w fun e w' => e = .returned (.int .i64 I) ∧ w' = ((w.alloc (.cells #[.int .i64 24, .int .i64 (-149), .int .i64 104] 124)).alloc (.cells #[.int .i64 24, .int .i64 (-149), .int .i64 104] 124)).drew := by rw [hI]; exact infi_S
  have d1 : ¬ (p < -I) := by omega
  have d2 : ¬ (I < p) := by omega
  have d0 : wrap64 (-I) = -I := by unfold wrap64; omega
  by_cases c : p < 0
  · have ef : fS p = wS true p.natAbs := by unfold fS; simp [c]
    rw [ef]
    have e2 : wrap64 (-p) = ((p.natAbs : Nat) : Int) := by unfold wrap64; omega
    have hfr := from_s p.natAbs (by omega)
    obtain ⟨a, ha⟩ : ∃ a : Nat, a = p.natAbs := ⟨_, rfl⟩
    rw [← ha] at e2 hfr ⊢
    have hng : Op.unary .neg (.float .f32 (wS false a)) = pure (.float .f32 (wS true a)) := by
      show pure (Value.float .f32 (Op.negFloat .f32 (wS false a))) = _
      rw [negS false a (by omega)]; rfl
    clear hI h1 h2 ef ha
    go_enter Try.func92, Try.ntmps92
    go_wp2_with (first | (go_at_call 90; refine (lay_s _).mono ?_; rintro e w' ⟨rfl, rfl⟩) | (go_at_call 112; refine (hfr _).mono ?_; rintro e w' ⟨rfl, rfl⟩) | (go_at_call 91; refine (hinf _).mono ?_; rintro e w' ⟨rfl, rfl⟩))
    exact bodyPost_ret (v := .tuple #[.float .f32 (wS true a), .bool true]) (by simp [results, Try.results92, go_sem] <;> simp only [*]) rfl ⟨rfl, (by repeat (with_reducible (first | assumption | exact Grown.refl _ | apply Grown.drew | apply Grown.alloc | apply gdrewN | (refine gtrans ?_ (by assumption)))))⟩
  · have ef : fS p = wS false p.natAbs := by unfold fS; simp [c]
    rw [ef]
    have e2 : p = ((p.natAbs : Nat) : Int) := by omega
    have hfr : ∀ w : World, Calls Try.prog 112 #[.int .i64 p] w fun e w' => e = .returned (.float .f32 (wS false p.natAbs)) ∧ w' = w := by
      have := from_s p.natAbs (by omega)
      rw [← e2] at this; exact this
    obtain ⟨a, ha⟩ : ∃ a : Nat, a = p.natAbs := ⟨_, rfl⟩
    rw [← ha] at hfr ⊢
    clear hI h1 h2 ef ha e2
    go_enter Try.func92, Try.ntmps92
    go_wp2_with (first | (go_at_call 90; refine (lay_s _).mono ?_; rintro e w' ⟨rfl, rfl⟩) | (go_at_call 112; refine (hfr _).mono ?_; rintro e w' ⟨rfl, rfl⟩) | (go_at_call 91; refine (hinf _).mono ?_; rintro e w' ⟨rfl, rfl⟩))
    exact bodyPost_ret (v := .tuple #[.float .f32 (wS false a), .bool true]) (by simp [results, Try.results92, go_sem] <;> simp only [*]) rfl ⟨rfl, (by repeat (with_reducible (first | assumption | exact Grown.refl _ | apply Grown.drew | apply Grown.alloc | apply gdrewN | (refine gtrans ?_ (by assumption)))))⟩

set_option maxRecDepth 20000 in
set_option maxHeartbeats 1000000 in
theorem up_s (n : Bool) (m : Nat) (hm : m ≤ 2139095040) (h2 : plz n m ≠ 2139095040) (w : World) : Calls Try.prog 66 #[.float .f32 (wS n m)] w fun e w' => e = .returned (.float .f32 (fS (plz n m + 1))) ∧ Grown w w' := by
  have hpl := place_s n m hm
  obtain ⟨I, hI⟩ : ∃ I : Int, I = 2139095040 := ⟨_, rfl⟩
  have hinf : ∀ w : World, Calls Try.prog 91 #[.agg #[.int .i64 24, .int .i64 (-149), .int .i64 104]] w fun e w' => e = .returned (.int .i64 I) ∧ w' = ((w.alloc (.cells #[.int .i64 24, .int .i64 (-149), .int .i64 104] 124)).alloc (.cells #[.int .i64 24, .int .i64 (-149), .int .i64 104] 124)).drew := by rw [hI]; exact infi_S
  have hb := plz_bd n m
  obtain ⟨p, hp⟩ : ∃ p : Int, p = plz n m := ⟨_, rfl⟩
  rw [← hp] at hpl h2 hb ⊢
  have hat := at_s (p + 1) (by omega) (by omega)
  have d1 : (p == I) = false := by simp; omega
  have d2 : wrap64 (p + 1) = p + 1 := by unfold wrap64; omega
  have d3 : ¬ (p = I) := by omega
  clear hI hm h2 hb hp
  go_enter Try.func66, Try.ntmps66
  go_wp2_with (first | (go_at_call 90; refine (lay_s _).mono ?_; rintro e w' ⟨rfl, rfl⟩) | (go_at_call 91; refine (hinf _).mono ?_; rintro e w' ⟨rfl, rfl⟩) | (go_at_call 88; refine (hpl _).mono ?_; rintro e w' ⟨rfl, g1⟩) | (go_at_call 92; refine (hat _).mono ?_; rintro e w' ⟨rfl, g2⟩))
  exact bodyPost_ret (v := .float .f32 (fS (p + 1))) (by simp [results, Try.results66, go_sem] <;> simp only [*]) rfl ⟨rfl, (by repeat (with_reducible (first | assumption | exact Grown.refl _ | apply Grown.drew | apply Grown.alloc | apply gdrewN | (refine gtrans ?_ (by assumption)))))⟩

set_option maxRecDepth 20000 in
set_option maxHeartbeats 1000000 in
theorem dn_s (n : Bool) (m : Nat) (hm : m ≤ 2139095040) (h2 : plz n m ≠ -2139095040) (w : World) : Calls Try.prog 65 #[.float .f32 (wS n m)] w fun e w' => e = .returned (.float .f32 (fS (plz n m - 1))) ∧ Grown w w' := by
  have hpl := place_s n m hm
  obtain ⟨I, hI⟩ : ∃ I : Int, I = 2139095040 := ⟨_, rfl⟩
  have hinf : ∀ w : World, Calls Try.prog 91 #[.agg #[.int .i64 24, .int .i64 (-149), .int .i64 104]] w fun e w' => e = .returned (.int .i64 I) ∧ w' = ((w.alloc (.cells #[.int .i64 24, .int .i64 (-149), .int .i64 104] 124)).alloc (.cells #[.int .i64 24, .int .i64 (-149), .int .i64 104] 124)).drew := by rw [hI]; exact infi_S
  have hb := plz_bd n m
  obtain ⟨p, hp⟩ : ∃ p : Int, p = plz n m := ⟨_, rfl⟩
  rw [← hp] at hpl h2 hb ⊢
  have hat := at_s (p - 1) (by omega) (by omega)
  have d1 : (p == -I) = false := by simp; omega
  have d2 : wrap64 (p - 1) = p - 1 := by unfold wrap64; omega
  have d0 : wrap64 (-I) = -I := by unfold wrap64; omega
  have d3 : ¬ (p = -I) := by omega
  clear hI hm h2 hb hp
  go_enter Try.func65, Try.ntmps65
  go_wp2_with (first | (go_at_call 90; refine (lay_s _).mono ?_; rintro e w' ⟨rfl, rfl⟩) | (go_at_call 91; refine (hinf _).mono ?_; rintro e w' ⟨rfl, rfl⟩) | (go_at_call 88; refine (hpl _).mono ?_; rintro e w' ⟨rfl, g1⟩) | (go_at_call 92; refine (hat _).mono ?_; rintro e w' ⟨rfl, g2⟩))
  exact bodyPost_ret (v := .float .f32 (fS (p - 1))) (by simp [results, Try.results65, go_sem] <;> simp only [*]) rfl ⟨rfl, (by repeat (with_reducible (first | assumption | exact Grown.refl _ | apply Grown.drew | apply Grown.alloc | apply gdrewN | (refine gtrans ?_ (by assumption)))))⟩

set_option maxRecDepth 20000 in
set_option maxHeartbeats 1000000 in
theorem plain_s (n : Bool) (m : Nat) (h2 : m < 2147483648) (w : World) : Calls Try.prog 55 #[.float .f32 (wS n m)] w fun e w' => e = .returned (.float .f32 (wS (n && !(m == 0)) m)) ∧ w' = w := by
  have ho := eqzS n m h2
  by_cases c : m = 0
  · subst c
    have ew : wS (n && !((0 : Nat) == 0)) 0 = 0 := by simp [wS]
    rw [ew]
    clear ew
    have ho2 : (FloatKind.f32.format.order (wS n 0) 0 == some .eq) = true := by rw [ho]; rfl
    clear ho
    go_enter Try.func55, Try.ntmps55
    go_wp2
    exact bodyPost_ret (v := .float .f32 0) (by simp [results, Try.results55, go_sem] <;> simp only [*]) rfl ⟨rfl, rfl⟩
  · have ew : (n && !(m == 0)) = n := by simp [c]
    rw [ew]
    clear ew
    have ho2 : (FloatKind.f32.format.order (wS n m) 0 == some .eq) = false := by rw [ho]; simp [c]
    clear ho c
    go_enter Try.func55, Try.ntmps55
    go_wp2
    exact bodyPost_ret (v := .float .f32 (wS n m)) (by simp [results, Try.results55, go_sem] <;> simp only [*]) rfl ⟨rfl, rfl⟩

end Fq
end Go.Proofs.Ytjkbapnndoldgaa
