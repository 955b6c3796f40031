import Derived.Test.YtpmcdhhlhiobiacProg
import Derived.Test.YtpmcdhhlhiobiacM
import Derived.Test.YtpmcdhhlhiobiacM2
import Derived.Test.YtpmcdhhlhiobiacA
import Derived.Test.YtpmcdhhlhiobiacP
import Derived.WalkKit
import Derived.ProofKit
import Derived.RowKit3
import Derived.Deep.RegionHeld3
import Derived.WalkSpells
import Derived.StillTactics
import Derived.Laws.FloatArith
import Derived.Deep.QuietTactic
import Derived.BigQuiet
namespace Go.Proofs.Ytpmcdhhlhiobiac
open Go.RowKit
set_option maxRecDepth 20000 in
set_option maxHeartbeats 4000000 in
theorem follows_s (n n' : Bool) (m m' : Nat) (h1 : m < 2147483648) (h2 : m' < 2147483648) (w : World) : Calls Try.prog 18 #[.float .f32 (wS n m), .float .f32 (wS n' m')] w fun e w' => e = .returned (.bool true) ∧ Grown w w' := by
  by_cases c1 : 2139095040 < m
  · have hu := upn_s n m c1 h1
    have hd := dnn_s n m c1 h1
    have oXX := ordS_nanl n m (wS n m) c1 h1
    obtain ⟨X, hX⟩ : ∃ x : Nat, x = wS n m := ⟨_, rfl⟩
    obtain ⟨Y, hY⟩ : ∃ x : Nat, x = wS n' m' := ⟨_, rfl⟩
    rw [← hX] at hu hd oXX ⊢
    rw [← hY]
    clear hX hY c1 h1 h2
    go_enter Try.func18, Try.ntmps18
    go_wp2_with (first | (go_at_call_of 48 (Value.float FloatKind.f32 X); refine (hu _).mono ?_; rintro e w' ⟨rfl, g1⟩) | (go_at_call_of 15 (Value.float FloatKind.f32 X); refine (hd _).mono ?_; rintro e w' ⟨rfl, g1⟩))
    exact bodyPost_ret (v := .bool true) (by simp [results, Try.results18, go_sem] <;> simp only [*]) rfl ⟨rfl, (by repeat (with_reducible (first | assumption | exact Grown.refl _ | apply Grown.drew | apply Grown.alloc | apply gdrewN | (refine gtrans ?_ (by assumption)))))⟩
  have hm : m ≤ 2139095040 := by omega
  have hb := exfS n m hm
  have oXX : FloatKind.f32.format.order (wS n m) (wS n m) = some .eq := by rw [ordS n n m m hm hm, cmp_eq rfl]
  -- what y is to x, to its neighbours
  have hy : ((FloatKind.f32.format.order (wS n m) (wS n' m') == some .lt) = false ∧ (FloatKind.f32.format.order (wS n' m') (wS n m) == some .lt) = false) ∨
      ((FloatKind.f32.format.order (wS n m) (wS n' m') == some .lt) = true ∧ (FloatKind.f32.format.order (wS n' m') (wS n m) == some .lt) = false ∧ plz n m < plz n' m' ∧ m' ≤ 2139095040) ∨
      ((FloatKind.f32.format.order (wS n m) (wS n' m') == some .lt) = false ∧ (FloatKind.f32.format.order (wS n' m') (wS n m) == some .lt) = true ∧ plz n' m' < plz n m ∧ m' ≤ 2139095040) := by
    by_cases c : 2139095040 < m'
    · left; rw [ordS_nanr n' m' _ c h2, ordS_nanl n' m' _ c h2]; exact ⟨rfl, rfl⟩
    · have hm' : m' ≤ 2139095040 := by omega
      rw [ordS n n' m m' hm hm', ordS n' n m' m hm' hm]
      rcases (by omega : plz n m < plz n' m' ∨ plz n m = plz n' m' ∨ plz n' m' < plz n m) with d | d | d
      · right; left; rw [cmp_lt d, cmp_gt d]; exact ⟨rfl, rfl, d, hm'⟩
      · left; rw [cmp_eq d, cmp_eq d.symm]; exact ⟨rfl, rfl⟩
      · right; right; rw [cmp_lt d, cmp_gt d]; exact ⟨rfl, rfl, d, hm'⟩
  have hq : m' ≤ 2139095040 → -2139095040 ≤ plz n' m' ∧ plz n' m' ≤ 2139095040 := exfS n' m'
  have hz := eqzS n m h1
  have mz : (m == 0) = decide (plz n m = 0) := by
    by_cases c : m = 0
    · subst c; cases n <;> rfl
    · have e : (m == 0) = false := by simp [c]
      rw [e, decide_eq_false]
      have : plz n m = if n then -(m : Int) else m := rfl
      split at this <;> omega
  rw [mz] at hz
  -- the next one above
  have hU : plz n m ≠ 2139095040 → (∀ w : World, Calls Try.prog 48 #[.float .f32 (wS n m)] w fun e w' => e = .returned (.float .f32 (fS (plz n m + 1))) ∧ Grown w w') ∧ (∀ w : World, Calls Try.prog 15 #[.float .f32 (fS (plz n m + 1))] w fun e w' => e = .returned (.float .f32 (fS (plz n m))) ∧ Grown w w') ∧ FloatKind.f32.format.order (fS (plz n m + 1)) (wS n m) = some .gt ∧ FloatKind.f32.format.order (fS (plz n m)) (wS n m) = some .eq := by
    intro d
    refine ⟨up_s n m hm d, ?_, ?_, ?_⟩
    · have h := dn_s (decide (plz n m + 1 < 0)) (plz n m + 1).natAbs (by omega) (by rw [fS_back]; omega)
      rw [fS_back, show plz n m + 1 - 1 = plz n m from by omega] at h
      exact h
    · rw [ordfwS _ n m (by omega) (by omega) hm, cmp_gt (by omega)]
    · rw [ordfwS _ n m (by omega) (by omega) hm, cmp_eq rfl]
  have hD : plz n m ≠ -2139095040 → (∀ w : World, Calls Try.prog 15 #[.float .f32 (wS n m)] w fun e w' => e = .returned (.float .f32 (fS (plz n m - 1))) ∧ Grown w w') ∧ (∀ w : World, Calls Try.prog 48 #[.float .f32 (fS (plz n m - 1))] w fun e w' => e = .returned (.float .f32 (fS (plz n m))) ∧ Grown w w') ∧ FloatKind.f32.format.order (fS (plz n m - 1)) (wS n m) = some .lt ∧ FloatKind.f32.format.order (fS (plz n m)) (wS n m) = some .eq := by
    intro d
    refine ⟨dn_s n m hm d, ?_, ?_, ?_⟩
    · have h := up_s (decide (plz n m - 1 < 0)) (plz n m - 1).natAbs (by omega) (by rw [fS_back]; omega)
      rw [fS_back, show plz n m - 1 + 1 = plz n m from by omega] at h
      exact h
    · rw [ordfwS _ n m (by omega) (by omega) hm, cmp_lt (by omega)]
    · rw [ordfwS _ n m (by omega) (by omega) hm, cmp_eq rfl]
  have hUY : plz n m ≠ 2139095040 → plz n m < plz n' m' → m' ≤ 2139095040 → (FloatKind.f32.format.order (fS (plz n m + 1)) (wS n' m') == some .gt) = false := by
    intro d1 d2 d3
    rw [ordfwS _ n' m' (by omega) (by omega) d3]
    rcases (by omega : plz n m + 1 < plz n' m' ∨ plz n m + 1 = plz n' m') with d | d
    · rw [cmp_lt d]; rfl
    · rw [cmp_eq d]; rfl
  have hDY : plz n m ≠ -2139095040 → plz n' m' < plz n m → m' ≤ 2139095040 → (FloatKind.f32.format.order (fS (plz n m - 1)) (wS n' m') == some .lt) = false := by
    intro d1 d2 d3
    rw [ordfwS _ n' m' (by omega) (by omega) d3]
    rcases (by omega : plz n' m' < plz n m - 1 ∨ plz n m - 1 = plz n' m') with d | d
    · rw [cmp_gt d]; rfl
    · rw [cmp_eq d]; rfl
  obtain ⟨P, hP⟩ : ∃ P : Int, P = plz n m := ⟨_, rfl⟩
  obtain ⟨Q, hQ⟩ : ∃ Q : Int, Q = plz n' m' := ⟨_, rfl⟩
  rw [← hP] at hU hD hUY hDY hz hb
  rw [← hQ] at hUY hDY hq
  rw [← hP, ← hQ] at hy
  have hz0 : P = 0 → (FloatKind.f32.format.order (fS (P + 1)) 0 == some .eq) = false ∧ (FloatKind.f32.format.order (fS (P - 1)) 0 == some .eq) = false := by
    intro c; subst c; exact ⟨by decide +kernel, by decide +kernel⟩
  obtain ⟨Y, hY⟩ : ∃ x : Nat, x = wS n' m' := ⟨_, rfl⟩
  rw [← hY] at hy hUY hDY ⊢
  clear hY
  by_cases c2 : P = 2139095040
  · have d1 : n = false ∧ m = 2139095040 := by
      rw [hP] at c2; unfold plz at c2; cases n <;> simp at c2 ⊢ <;> omega
    obtain ⟨rfl, rfl⟩ := d1
    have hu := upe_s
    have hadd : ∀ w : World, (binOp .add 32 (.float .f32 (wS false 2139095040)) (.float .f32 (wS false 2139095040))).run Try.prog w = .ok (.float .f32 (wS false 2139095040)) w := fun w => run_float_arith w .add 32 .f32 _ _ _ (by decide +kernel)
    obtain ⟨hd, hud, oDX, oZX⟩ := hD (by omega)
    have d0 : decide (P = 0) = false := by simp; omega
    rw [d0] at hz
    have hDY2 := hDY (by omega)
    obtain ⟨X, hX⟩ : ∃ x : Nat, x = wS false 2139095040 := ⟨_, rfl⟩
    obtain ⟨D, hDw⟩ : ∃ x : Nat, x = fS (P - 1) := ⟨_, rfl⟩
    obtain ⟨Z, hZ⟩ : ∃ x : Nat, x = fS P := ⟨_, rfl⟩
    rw [← hX] at hu hadd hd oDX oZX hz hy oXX ⊢
    rw [← hDw] at hd hud oDX hDY2
    rw [← hZ] at hud oZX
    have hlt : ¬ (P < Q ∧ m' ≤ 2139095040) := by intro h; have := hq h.2; omega
    clear hU hD hUY hDY hX hDw hZ mz hP hQ c1 c2 h1 h2 hm hb d0 hz0 hq
    rcases hy with ⟨y1, y2⟩ | ⟨y1, y2, y3, y4⟩ | ⟨y1, y2, y3, y4⟩
    · clear hDY2 hlt
      go_enter Try.func18, Try.ntmps18
      go_wp2_with (first | (go_at_call_of 48 (Value.float FloatKind.f32 X); refine (hu _).mono ?_; rintro e w' ⟨rfl, g1⟩) | (go_at_call_of 15 (Value.float FloatKind.f32 X); refine (hd _).mono ?_; rintro e w' ⟨rfl, g1⟩) | (go_at_call_of 48 (Value.float FloatKind.f32 D); refine (hud _).mono ?_; rintro e w' ⟨rfl, g1⟩))
      exact bodyPost_ret (v := .bool true) (by simp [results, Try.results18, go_sem] <;> simp only [*]) rfl ⟨rfl, (by repeat (with_reducible (first | assumption | exact Grown.refl _ | apply Grown.drew | apply Grown.alloc | apply gdrewN | (refine gtrans ?_ (by assumption)))))⟩
    · exact absurd ⟨y3, y4⟩ hlt
    · have y5 := hDY2 y3 y4
      clear hDY2 hlt y3 y4
      go_enter Try.func18, Try.ntmps18
      go_wp2_with (first | (go_at_call_of 48 (Value.float FloatKind.f32 X); refine (hu _).mono ?_; rintro e w' ⟨rfl, g1⟩) | (go_at_call_of 15 (Value.float FloatKind.f32 X); refine (hd _).mono ?_; rintro e w' ⟨rfl, g1⟩) | (go_at_call_of 48 (Value.float FloatKind.f32 D); refine (hud _).mono ?_; rintro e w' ⟨rfl, g1⟩))
      exact bodyPost_ret (v := .bool true) (by simp [results, Try.results18, go_sem] <;> simp only [*]) rfl ⟨rfl, (by repeat (with_reducible (first | assumption | exact Grown.refl _ | apply Grown.drew | apply Grown.alloc | apply gdrewN | (refine gtrans ?_ (by assumption)))))⟩
  by_cases c3 : P = -2139095040
  · have d1 : n = true ∧ m = 2139095040 := by
      rw [hP] at c3; unfold plz at c3; cases n <;> simp at c3 ⊢ <;> omega
    obtain ⟨rfl, rfl⟩ := d1
    have hd := dne_s
    have hadd : ∀ w : World, (binOp .add 32 (.float .f32 (wS true 2139095040)) (.float .f32 (wS true 2139095040))).run Try.prog w = .ok (.float .f32 (wS true 2139095040)) w := fun w => run_float_arith w .add 32 .f32 _ _ _ (by decide +kernel)
    obtain ⟨hu, hdu, oUX, oZX⟩ := hU (by omega)
    have d0 : decide (P = 0) = false := by simp; omega
    rw [d0] at hz
    have hUY2 := hUY (by omega)
    obtain ⟨X, hX⟩ : ∃ x : Nat, x = wS true 2139095040 := ⟨_, rfl⟩
    obtain ⟨U, hUw⟩ : ∃ x : Nat, x = fS (P + 1) := ⟨_, rfl⟩
    obtain ⟨Z, hZ⟩ : ∃ x : Nat, x = fS P := ⟨_, rfl⟩
    rw [← hX] at hd hadd hu oUX oZX hz hy oXX ⊢
    rw [← hUw] at hu hdu oUX hUY2
    rw [← hZ] at hdu oZX
    have hgt : ¬ (Q < P ∧ m' ≤ 2139095040) := by intro h; have := hq h.2; omega
    clear hU hD hUY hDY hX hUw hZ mz hP hQ c1 c2 c3 h1 h2 hm hb d0 hz0 hq
    rcases hy with ⟨y1, y2⟩ | ⟨y1, y2, y3, y4⟩ | ⟨y1, y2, y3, y4⟩
    · clear hUY2 hgt
      go_enter Try.func18, Try.ntmps18
      go_wp2_with (first | (go_at_call_of 48 (Value.float FloatKind.f32 X); refine (hu _).mono ?_; rintro e w' ⟨rfl, g1⟩) | (go_at_call_of 15 (Value.float FloatKind.f32 X); refine (hd _).mono ?_; rintro e w' ⟨rfl, g1⟩) | (go_at_call_of 15 (Value.float FloatKind.f32 U); refine (hdu _).mono ?_; rintro e w' ⟨rfl, g1⟩))
      exact bodyPost_ret (v := .bool true) (by simp [results, Try.results18, go_sem] <;> simp only [*]) rfl ⟨rfl, (by repeat (with_reducible (first | assumption | exact Grown.refl _ | apply Grown.drew | apply Grown.alloc | apply gdrewN | (refine gtrans ?_ (by assumption)))))⟩
    · have y5 := hUY2 y3 y4
      clear hUY2 hgt y3 y4
      go_enter Try.func18, Try.ntmps18
      go_wp2_with (first | (go_at_call_of 48 (Value.float FloatKind.f32 X); refine (hu _).mono ?_; rintro e w' ⟨rfl, g1⟩) | (go_at_call_of 15 (Value.float FloatKind.f32 X); refine (hd _).mono ?_; rintro e w' ⟨rfl, g1⟩) | (go_at_call_of 15 (Value.float FloatKind.f32 U); refine (hdu _).mono ?_; rintro e w' ⟨rfl, g1⟩))
      exact bodyPost_ret (v := .bool true) (by simp [results, Try.results18, go_sem] <;> simp only [*]) rfl ⟨rfl, (by repeat (with_reducible (first | assumption | exact Grown.refl _ | apply Grown.drew | apply Grown.alloc | apply gdrewN | (refine gtrans ?_ (by assumption)))))⟩
    · exact absurd ⟨y3, y4⟩ hgt
  obtain ⟨hu, hdu, oUX, oZX⟩ := hU (by omega)
  obtain ⟨hd, hud, oDX, _⟩ := hD (by omega)
  have hUY2 := hUY (by omega)
  have hDY2 := hDY (by omega)
  obtain ⟨X, hX⟩ : ∃ x : Nat, x = wS n m := ⟨_, rfl⟩
  obtain ⟨U, hUw⟩ : ∃ x : Nat, x = fS (P + 1) := ⟨_, rfl⟩
  obtain ⟨D, hDw⟩ : ∃ x : Nat, x = fS (P - 1) := ⟨_, rfl⟩
  obtain ⟨Z, hZ⟩ : ∃ x : Nat, x = fS P := ⟨_, rfl⟩
  rw [← hX] at hd hu oUX oDX oZX hz hy oXX ⊢
  rw [← hUw] at hu hdu oUX hUY2 hz0
  rw [← hDw] at hd hud oDX hDY2 hz0
  rw [← hZ] at hdu hud oZX
  clear hU hD hUY hDY hX hUw hDw hZ mz hP hQ c1 c2 c3 h1 h2 hm hb hq
  by_cases c4 : P = 0
  · obtain ⟨z1, z2⟩ := hz0 c4
    have hz2 : (FloatKind.f32.format.order X 0 == some .eq) = true := by rw [hz]; simp [c4]
    clear hz hz0 c4
    rcases hy with ⟨y1, y2⟩ | ⟨y1, y2, y3, y4⟩ | ⟨y1, y2, y3, y4⟩
    · clear hUY2 hDY2
      go_enter Try.func18, Try.ntmps18
      go_wp2_with (first | (go_at_call_of 48 (Value.float FloatKind.f32 X); refine (hu _).mono ?_; rintro e w' ⟨rfl, g1⟩) | (go_at_call_of 15 (Value.float FloatKind.f32 X); refine (hd _).mono ?_; rintro e w' ⟨rfl, g1⟩) | (go_at_call_of 15 (Value.float FloatKind.f32 U); refine (hdu _).mono ?_; rintro e w' ⟨rfl, g1⟩) | (go_at_call_of 48 (Value.float FloatKind.f32 D); refine (hud _).mono ?_; rintro e w' ⟨rfl, g1⟩))
      exact bodyPost_ret (v := .bool true) (by simp [results, Try.results18, go_sem] <;> simp only [*]) rfl ⟨rfl, (by repeat (with_reducible (first | assumption | exact Grown.refl _ | apply Grown.drew | apply Grown.alloc | apply gdrewN | (refine gtrans ?_ (by assumption)))))⟩
    · have y5 := hUY2 y3 y4
      clear hUY2 hDY2 y3 y4
      go_enter Try.func18, Try.ntmps18
      go_wp2_with (first | (go_at_call_of 48 (Value.float FloatKind.f32 X); refine (hu _).mono ?_; rintro e w' ⟨rfl, g1⟩) | (go_at_call_of 15 (Value.float FloatKind.f32 X); refine (hd _).mono ?_; rintro e w' ⟨rfl, g1⟩) | (go_at_call_of 15 (Value.float FloatKind.f32 U); refine (hdu _).mono ?_; rintro e w' ⟨rfl, g1⟩) | (go_at_call_of 48 (Value.float FloatKind.f32 D); refine (hud _).mono ?_; rintro e w' ⟨rfl, g1⟩))
      exact bodyPost_ret (v := .bool true) (by simp [results, Try.results18, go_sem] <;> simp only [*]) rfl ⟨rfl, (by repeat (with_reducible (first | assumption | exact Grown.refl _ | apply Grown.drew | apply Grown.alloc | apply gdrewN | (refine gtrans ?_ (by assumption)))))⟩
    · have y5 := hDY2 y3 y4
      clear hUY2 hDY2 y3 y4
      go_enter Try.func18, Try.ntmps18
      go_wp2_with (first | (go_at_call_of 48 (Value.float FloatKind.f32 X); refine (hu _).mono ?_; rintro e w' ⟨rfl, g1⟩) | (go_at_call_of 15 (Value.float FloatKind.f32 X); refine (hd _).mono ?_; rintro e w' ⟨rfl, g1⟩) | (go_at_call_of 15 (Value.float FloatKind.f32 U); refine (hdu _).mono ?_; rintro e w' ⟨rfl, g1⟩) | (go_at_call_of 48 (Value.float FloatKind.f32 D); refine (hud _).mono ?_; rintro e w' ⟨rfl, g1⟩))
      exact bodyPost_ret (v := .bool true) (by simp [results, Try.results18, go_sem] <;> simp only [*]) rfl ⟨rfl, (by repeat (with_reducible (first | assumption | exact Grown.refl _ | apply Grown.drew | apply Grown.alloc | apply gdrewN | (refine gtrans ?_ (by assumption)))))⟩
  · have hz2 : (FloatKind.f32.format.order X 0 == some .eq) = false := by rw [hz]; simp [c4]
    clear hz hz0 c4
    rcases hy with ⟨y1, y2⟩ | ⟨y1, y2, y3, y4⟩ | ⟨y1, y2, y3, y4⟩
    · clear hUY2 hDY2
      go_enter Try.func18, Try.ntmps18
      go_wp2_with (first | (go_at_call_of 48 (Value.float FloatKind.f32 X); refine (hu _).mono ?_; rintro e w' ⟨rfl, g1⟩) | (go_at_call_of 15 (Value.float FloatKind.f32 X); refine (hd _).mono ?_; rintro e w' ⟨rfl, g1⟩) | (go_at_call_of 15 (Value.float FloatKind.f32 U); refine (hdu _).mono ?_; rintro e w' ⟨rfl, g1⟩) | (go_at_call_of 48 (Value.float FloatKind.f32 D); refine (hud _).mono ?_; rintro e w' ⟨rfl, g1⟩))
      exact bodyPost_ret (v := .bool true) (by simp [results, Try.results18, go_sem] <;> simp only [*]) rfl ⟨rfl, (by repeat (with_reducible (first | assumption | exact Grown.refl _ | apply Grown.drew | apply Grown.alloc | apply gdrewN | (refine gtrans ?_ (by assumption)))))⟩
    · have y5 := hUY2 y3 y4
      clear hUY2 hDY2 y3 y4
      go_enter Try.func18, Try.ntmps18
      go_wp2_with (first | (go_at_call_of 48 (Value.float FloatKind.f32 X); refine (hu _).mono ?_; rintro e w' ⟨rfl, g1⟩) | (go_at_call_of 15 (Value.float FloatKind.f32 X); refine (hd _).mono ?_; rintro e w' ⟨rfl, g1⟩) | (go_at_call_of 15 (Value.float FloatKind.f32 U); refine (hdu _).mono ?_; rintro e w' ⟨rfl, g1⟩) | (go_at_call_of 48 (Value.float FloatKind.f32 D); refine (hud _).mono ?_; rintro e w' ⟨rfl, g1⟩))
      exact bodyPost_ret (v := .bool true) (by simp [results, Try.results18, go_sem] <;> simp only [*]) rfl ⟨rfl, (by repeat (with_reducible (first | assumption | exact Grown.refl _ | apply Grown.drew | apply Grown.alloc | apply gdrewN | (refine gtrans ?_ (by assumption)))))⟩
    · have y5 := hDY2 y3 y4
      clear hUY2 hDY2 y3 y4
      go_enter Try.func18, Try.ntmps18
      go_wp2_with (first | (go_at_call_of 48 (Value.float FloatKind.f32 X); refine (hu _).mono ?_; rintro e w' ⟨rfl, g1⟩) | (go_at_call_of 15 (Value.float FloatKind.f32 X); refine (hd _).mono ?_; rintro e w' ⟨rfl, g1⟩) | (go_at_call_of 15 (Value.float FloatKind.f32 U); refine (hdu _).mono ?_; rintro e w' ⟨rfl, g1⟩) | (go_at_call_of 48 (Value.float FloatKind.f32 D); refine (hud _).mono ?_; rintro e w' ⟨rfl, g1⟩))
      exact bodyPost_ret (v := .bool true) (by simp [results, Try.results18, go_sem] <;> simp only [*]) rfl ⟨rfl, (by repeat (with_reducible (first | assumption | exact Grown.refl _ | apply Grown.drew | apply Grown.alloc | apply gdrewN | (refine gtrans ?_ (by assumption)))))⟩

end Go.Proofs.Ytpmcdhhlhiobiac
