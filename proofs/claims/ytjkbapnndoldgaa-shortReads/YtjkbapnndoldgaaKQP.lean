import Derived.Test.YtjkbapnndoldgaaKQA
namespace Go.Proofs.Ytjkbapnndoldgaa
open Go.RowKit
namespace Fq
set_option maxRecDepth 20000 in
set_option maxHeartbeats 400000 in
theorem isnan_int (x : Int) (w : World) : Calls Try.prog 87 #[.int .i64 x] w fun e w' => e = .returned (.bool false) ∧ w' = w := by
  go_enter Try.func87, Try.ntmps87
  go_wp2
  exact bodyPost_ret (v := .bool false) (by simp [results, Try.results87, go_sem] <;> simp only [*]) rfl ⟨rfl, rfl⟩

set_option maxRecDepth 20000 in
set_option maxHeartbeats 400000 in
theorem compare_int (x y : Int) (w : World) : Calls Try.prog 60 #[.int .i64 x, .int .i64 y] w fun e w' => e = .returned (.int .i64 (cmpz x y)) ∧ w' = w := by
  rcases (by omega : x < y ∨ y < x ∨ x = y) with c | c | c
  · have ec : cmpz x y = -1 := by unfold cmpz; simp [c]
    rw [ec]; clear ec
    go_enter Try.func60, Try.ntmps60
    go_wp2_with (first | (go_at_call 87; refine (isnan_int _ _).mono ?_; rintro e w' ⟨rfl, rfl⟩))
    exact bodyPost_ret (v := .int .i64 (-1)) (by simp [results, Try.results60, go_sem] <;> simp only [*]) rfl ⟨rfl, rfl⟩
  · have d : ¬ (x < y) := by omega
    have ec : cmpz x y = 1 := by unfold cmpz; simp [c, d]
    rw [ec]; clear ec
    go_enter Try.func60, Try.ntmps60
    go_wp2_with (first | (go_at_call 87; refine (isnan_int _ _).mono ?_; rintro e w' ⟨rfl, rfl⟩))
    exact bodyPost_ret (v := .int .i64 1) (by simp [results, Try.results60, go_sem] <;> simp only [*]) rfl ⟨rfl, rfl⟩
  · subst c
    have d : ¬ (x < x) := by omega
    have ec : cmpz x x = 0 := by unfold cmpz; simp
    rw [ec]; clear ec
    go_enter Try.func60, Try.ntmps60
    go_wp2_with (first | (go_at_call 87; refine (isnan_int _ _).mono ?_; rintro e w' ⟨rfl, rfl⟩))
    exact bodyPost_ret (v := .int .i64 0) (by simp [results, Try.results60, go_sem] <;> simp only [*]) rfl ⟨rfl, rfl⟩

set_option maxRecDepth 20000 in
set_option maxHeartbeats 1000000 in
theorem place_s (n : Bool) (m : Nat) (hm : m ≤ 2139095040) (w : World) : Calls Try.prog 88 #[.float .f32 (wS n m)] w fun e w' => e = .returned (.tuple #[.int .i64 (plz n m), .bool true]) ∧ Grown w w' := by
  have hpat := patt_s n m (by omega)
  obtain ⟨I, hI⟩ : ∃ I : Int, I = 2139095040 := ⟨_, rfl⟩
  have hinf : ∀ w : World, Calls Try.prog 91 #[.agg #[.int .i64 24, .int .i64 (-149), .int .i64 104]] w fun e w' => e = .returned (.int .i64 I) ∧ w' = ((w.alloc (.cells #[.int .i64 24, .int .i64 (-149), .int .i64 104] 124)).alloc (.cells #[.int .i64 24, .int .i64 (-149), .int .i64 104] 124)).drew := by rw [hI]; exact infi_S
  have d1 : ¬ (I < (m : Int)) := by omega
  have d2 : wrap64 (-(m : Int)) = -(m : Int) := by unfold wrap64; omega
  clear hI hm
  cases n
  · have ec : plz false m = (m : Int) := rfl
    rw [ec]
    clear ec d2
    go_enter Try.func88, Try.ntmps88
    go_wp2_with (first | (go_at_call 90; refine (lay_s _).mono ?_; rintro e w' ⟨rfl, rfl⟩) | (go_at_call 89; refine (hpat _).mono ?_; rintro e w' ⟨rfl, rfl⟩) | (go_at_call 91; refine (hinf _).mono ?_; rintro e w' ⟨rfl, rfl⟩))
    exact bodyPost_ret (v := .tuple #[.int .i64 (m : Int), .bool true]) (by simp [results, Try.results88, go_sem] <;> simp only [*]) rfl ⟨rfl, (by repeat (with_reducible (first | assumption | exact Grown.refl _ | apply Grown.drew | apply Grown.alloc | apply gdrewN | (refine gtrans ?_ (by assumption)))))⟩
  · have ec : plz true m = -(m : Int) := rfl
    rw [ec]
    clear ec
    go_enter Try.func88, Try.ntmps88
    go_wp2_with (first | (go_at_call 90; refine (lay_s _).mono ?_; rintro e w' ⟨rfl, rfl⟩) | (go_at_call 89; refine (hpat _).mono ?_; rintro e w' ⟨rfl, rfl⟩) | (go_at_call 91; refine (hinf _).mono ?_; rintro e w' ⟨rfl, rfl⟩))
    exact bodyPost_ret (v := .tuple #[.int .i64 (-(m : Int)), .bool true]) (by simp [results, Try.results88, go_sem] <;> simp only [*]) rfl ⟨rfl, (by repeat (with_reducible (first | assumption | exact Grown.refl _ | apply Grown.drew | apply Grown.alloc | apply gdrewN | (refine gtrans ?_ (by assumption)))))⟩

set_option maxRecDepth 20000 in
set_option maxHeartbeats 1000000 in
theorem placen_s (n : Bool) (m : Nat) (hm : 2139095040 < m) (h2 : m < 2147483648) (w : World) : Calls Try.prog 88 #[.float .f32 (wS n m)] w fun e w' => e = .returned (.tuple #[.int .i64 0, .bool false]) ∧ Grown w w' := by
  have hpat := patt_s n m h2
  obtain ⟨I, hI⟩ : ∃ I : Int, I = 2139095040 := ⟨_, rfl⟩
  have hinf : ∀ w : World, Calls Try.prog 91 #[.agg #[.int .i64 24, .int .i64 (-149), .int .i64 104]] w fun e w' => e = .returned (.int .i64 I) ∧ w' = ((w.alloc (.cells #[.int .i64 24, .int .i64 (-149), .int .i64 104] 124)).alloc (.cells #[.int .i64 24, .int .i64 (-149), .int .i64 104] 124)).drew := by rw [hI]; exact infi_S
  have d1 : I < (m : Int) := by omega
  clear hI hm h2
  go_enter Try.func88, Try.ntmps88
  go_wp2_with (first | (go_at_call 90; refine (lay_s _).mono ?_; rintro e w' ⟨rfl, rfl⟩) | (go_at_call 89; refine (hpat _).mono ?_; rintro e w' ⟨rfl, rfl⟩) | (go_at_call 91; refine (hinf _).mono ?_; rintro e w' ⟨rfl, rfl⟩))
  exact bodyPost_ret (v := .tuple #[.int .i64 0, .bool false]) (by simp [results, Try.results88, go_sem] <;> simp only [*]) rfl ⟨rfl, (by repeat (with_reducible (first | assumption | exact Grown.refl _ | apply Grown.drew | apply Grown.alloc | apply gdrewN | (refine gtrans ?_ (by assumption)))))⟩

set_option maxRecDepth 20000 in
set_option maxHeartbeats 1000000 in
theorem plain_s (n : Bool) (m : Nat) (h2 : m < 2147483648) (w : World) : Calls Try.prog 55 #[.float .f32 (wS n m)] w fun e w' => e = .returned (.float .f32 (wS (n && !(m == 0)) m)) ∧ w' = w := by
  have ho := eqzS n m h2
  by_cases c : m = 0
  · subst c
    have ew : wS (n && !((0 : Nat) == 0)) 0 = 0 := by simp [wS]
    rw [ew]
    clear ew
    have ho2 : (FloatKind.f32.format.order (wS n 0) 0 == some .eq) = true := by rw [ho]; rfl
    clear ho
    go_enter Try.func55, Try.ntmps55
    go_wp2
    exact bodyPost_ret (v := .float .f32 0) (by simp [results, Try.results55, go_sem] <;> simp only [*]) rfl ⟨rfl, rfl⟩
  · have ew : (n && !(m == 0)) = n := by simp [c]
    rw [ew]
    clear ew
    have ho2 : (FloatKind.f32.format.order (wS n m) 0 == some .eq) = false := by rw [ho]; simp [c]
    clear ho c
    go_enter Try.func55, Try.ntmps55
    go_wp2
    exact bodyPost_ret (v := .float .f32 (wS n m)) (by simp [results, Try.results55, go_sem] <;> simp only [*]) rfl ⟨rfl, rfl⟩

set_option maxRecDepth 20000 in
set_option maxHeartbeats 1000000 in
theorem rank_s (n : Bool) (m : Nat) (h2 : m < 2147483648) (w : World) : Calls Try.prog 61 #[.float .f32 (wS n m)] w fun e w' => e = .returned (.int .i64 (rkS n m)) ∧ Grown w w' := by
  have hpat := patt_s n m h2
  by_cases c : 2139095040 < m
  · have hpl := placen_s n m c h2
    have er : rkS n m = 9223372036854775807 := by unfold rkS rkG; simp [c]
    rw [er]
    clear er c h2
    go_enter Try.func61, Try.ntmps61
    go_wp2_with (first | (go_at_call 88; refine (hpl _).mono ?_; rintro e w' ⟨rfl, g1⟩) | (go_at_call 89; refine (hpat _).mono ?_; rintro e w' ⟨rfl, rfl⟩))
    exact bodyPost_ret (v := .int .i64 9223372036854775807) (by simp [results, Try.results61, go_sem] <;> simp only [*]) rfl ⟨rfl, (by repeat (with_reducible (first | assumption | exact Grown.refl _ | apply Grown.drew | apply Grown.alloc | apply gdrewN | (refine gtrans ?_ (by assumption)))))⟩
  · have hpl := place_s n m (by omega)
    have hb := plz_bd n m
    have er : rkS n m = plz n m - (if n then 1 else 0) := by unfold rkS rkG; simp [c]
    rw [er]
    clear er
    obtain ⟨p, hp⟩ : ∃ p : Int, p = plz n m := ⟨_, rfl⟩
    rw [← hp] at hpl hb ⊢
    have d2 : wrap64 (p - 1) = p - 1 := by unfold wrap64; omega
    have d3 : p - 0 = p := by omega
    clear h2 c hb hp
    cases n
    · simp only [Bool.false_eq_true, if_false, d3]
      go_enter Try.func61, Try.ntmps61
      go_wp2_with (first | (go_at_call 88; refine (hpl _).mono ?_; rintro e w' ⟨rfl, g1⟩) | (go_at_call 89; refine (hpat _).mono ?_; rintro e w' ⟨rfl, rfl⟩))
      exact bodyPost_ret (v := .int .i64 p) (by simp [results, Try.results61, go_sem] <;> simp only [*]) rfl ⟨rfl, (by repeat (with_reducible (first | assumption | exact Grown.refl _ | apply Grown.drew | apply Grown.alloc | apply gdrewN | (refine gtrans ?_ (by assumption)))))⟩
    · simp only [if_true]
      go_enter Try.func61, Try.ntmps61
      go_wp2_with (first | (go_at_call 88; refine (hpl _).mono ?_; rintro e w' ⟨rfl, g1⟩) | (go_at_call 89; refine (hpat _).mono ?_; rintro e w' ⟨rfl, rfl⟩))
      exact bodyPost_ret (v := .int .i64 (p - 1)) (by simp [results, Try.results61, go_sem] <;> simp only [*]) rfl ⟨rfl, (by repeat (with_reducible (first | assumption | exact Grown.refl _ | apply Grown.drew | apply Grown.alloc | apply gdrewN | (refine gtrans ?_ (by assumption)))))⟩

set_option maxRecDepth 20000 in
set_option maxHeartbeats 400000 in
theorem order_s (n n' : Bool) (m m' : Nat) (h2 : m < 2147483648) (h3 : m' < 2147483648) (w : World) : Calls Try.prog 36 #[.float .f32 (wS n m), .float .f32 (wS n' m')] w fun e w' => e = .returned (.int .i64 (cmpz (rkS n m) (rkS n' m'))) ∧ Grown w w' := by
  have hr1 := rank_s n m h2
  have hr2 := rank_s n' m' h3
  obtain ⟨x, hx⟩ : ∃ x : Nat, x = wS n m := ⟨_, rfl⟩
  obtain ⟨y, hy⟩ : ∃ y : Nat, y = wS n' m' := ⟨_, rfl⟩
  rw [← hx] at hr1 ⊢
  rw [← hy] at hr2 ⊢
  clear hx hy
  go_enter Try.func36, Try.ntmps36
  go_wp2_with fail
  refine (hr1 _).mono ?_; rintro e w' ⟨rfl, g1⟩
  go_wp2_with fail
  refine (hr2 _).mono ?_; rintro e w' ⟨rfl, g2⟩
  go_wp2_with (first | (go_at_call 60; refine (compare_int _ _ _).mono ?_; rintro e w' ⟨rfl, rfl⟩))
  exact bodyPost_ret (v := .int .i64 (cmpz (rkS n m) (rkS n' m'))) (by simp [results, Try.results36, go_sem] <;> simp only [*]) rfl ⟨rfl, (by repeat (with_reducible (first | assumption | exact Grown.refl _ | apply Grown.drew | apply Grown.alloc | apply gdrewN | (refine gtrans ?_ (by assumption)))))⟩

end Fq
end Go.Proofs.Ytjkbapnndoldgaa
