import Derived.Test.YtbdeppdjelcioaaDoorProg
import Derived.Test.YtbdeppdjelcioaaDoorM
import Derived.Test.YtbdeppdjelcioaaDoorM5
import Derived.Test.YtbdeppdjelcioaaDoorA
import Derived.Test.YtbdeppdjelcioaaDoorBT
import Derived.Test.YtbdeppdjelcioaaDoorMJ
import Derived.Test.YtbdeppdjelcioaaDoorMG
import Derived.Test.YtbdeppdjelcioaaDoorUd
import Derived.Test.YtbdeppdjelcioaaDoorJd
import Derived.WalkKit
import Derived.ProofKit
import Derived.RowKit3
import Derived.Deep.RegionHeld3
import Derived.WalkSpells
import Derived.StillTactics
import Derived.Laws.FloatArith
import Derived.Deep.QuietTactic
import Derived.BigQuiet
namespace Go.Proofs.YtbdeppdjelcioaaDoor
open Go.RowKit
set_option maxRecDepth 20000 in
set_option maxHeartbeats 1500000 in
theorem back_d (n : Bool) (m : Nat) (hm : m < 9223372036854775808) (w : World) (hT : Tab w) :
    Calls Tryd.prog 28 #[.float .f64 (wD n m)] w fun e w' => e = .returned (.bool true) ∧ Grown w w' := by
  by_cases ci : m < 9218868437227405312
  · have hsp := split_d n m ci
    obtain ⟨v1, v2, v3, v4, v5⟩ := vlsgD m ci
    have hxx : (FloatKind.f64.format.order (wD n m) (wD n m) != some .eq) = false := by rw [ordD _ _ _ _ (by omega) (by omega), cmp_eq rfl]; rfl
    have hxx2 : (FloatKind.f64.format.order (wD n m) (wD n m) == some .eq) = true := by rw [ordD _ _ _ _ (by omega) (by omega), cmp_eq rfl]; rfl
    have hlt : (FloatKind.f64.format.order (wD n m) 0 == some .lt) = (n && !(m == 0)) := by
      have e : FloatKind.f64.format.order (wD n m) (wD false 0) = some (compare (plz n m) (plz false 0)) := ordD n false m 0 (by omega) (by omega)
      have e2 : wD false 0 = 0 := rfl
      rw [e2] at e
      rw [e]
      have p0 : plz false 0 = 0 := rfl
      have p1 : plz n m = if n then -(m : Int) else m := rfl
      rw [p0, p1]
      by_cases c : m = 0
      · subst c; cases n <;> rfl
      · have hc : (m == 0) = false := by simp [c]
        rw [hc]
        cases n
        · rw [cmp_gt (by simp only [Bool.false_eq_true, if_false]; omega)]; rfl
        · rw [cmp_lt (by simp only [if_true]; omega)]; rfl
    have heq := eqzD n m (by omega)
    by_cases c : m = 0
    · subst c
      have e1 : sgD 0 = 0 := v3.1 rfl
      have e2 : epD 0 = -1074 := by decide
      rw [e1, e2] at hsp
      have e3 : (n && !((0 : Nat) == 0)) = false := by cases n <;> rfl
      rw [e3] at hsp hlt
      have hj1 : ∀ w', Grown w w' → Calls Tryd.prog 19 #[.bool false, .int .u64 0, .int .i64 (-1074)] w' fun e w'' => e = .returned (.tuple #[.float .f64 0, .int .i64 0]) ∧ Grown w' w'' := fun w' _ => (joinz_d false (-1074) w').mono (fun e w'' h => ⟨h.1, h.2 ▸ Grown.refl _⟩)
      have hj2 : ∀ w', Grown w w' → Calls Tryd.prog 19 #[.bool false, .int .u64 0, .int .i64 (-1075)] w' fun e w'' => e = .returned (.tuple #[.float .f64 0, .int .i64 0]) ∧ Grown w' w'' := fun w' _ => (joinz_d false (-1075) w').mono (fun e w'' h => ⟨h.1, h.2 ▸ Grown.refl _⟩)
      have h0x : FloatKind.f64.format.order 0 (wD n 0) = some .eq := by
        have e : FloatKind.f64.format.order (wD false 0) (wD n 0) = some (compare (plz false 0) (plz n 0)) := ordD false n 0 0 (by omega) (by omega)
        have e2 : wD false 0 = 0 := rfl
        rw [e2] at e
        rw [e, cmp_eq (by cases n <;> rfl)]
      have h1 : (FloatKind.f64.format.order 0 (wD n 0) != some .eq) = false := by rw [h0x]; rfl
      have h2 : (FloatKind.f64.format.order 0 (wD n 0) == some .eq) = true := by rw [h0x]; rfl
      have h3 : (FloatKind.f64.format.order (wD n 0) 0 == some .eq) = true := heq
      simp only [Int.ofNat_zero] at hsp
      obtain ⟨X, hX⟩ : ∃ X : Nat, X = wD n 0 := ⟨_, rfl⟩
      rw [← hX] at hsp hlt h1 h2 h3 ⊢
      clear hX hxx hxx2 heq h0x v1 v2 v3 v4 v5 e1 e2 e3 hT hm ci
      go_enter Tryd.func28, Tryd.ntmps28
      go_wp2_with fail
      refine (hsp _).mono ?_; rintro e w1 ⟨rfl, g1⟩
      go_wp2_with fail
      refine (hj1 _ g1).mono ?_; rintro e w2 ⟨rfl, g2⟩
      go_wp2_with fail
      refine (hj2 _ (gtrans g1 g2)).mono ?_; rintro e w3 ⟨rfl, g3⟩
      go_wp2
      exact bodyPost_ret (v := .bool true) (by simp [results, Tryd.results28, go_sem] <;> simp only [*]) rfl ⟨rfl, (by repeat (with_reducible (first | assumption | exact Grown.refl _ | apply Grown.drew | apply Grown.alloc | apply gdrewN | (refine gtrans ?_ (by assumption)))))⟩
    · have hs0 : sgD m ≠ 0 := fun hh => c (v3.2 hh)
      obtain ⟨o, k, ho, hok⟩ := odd_pow (sgD m) hs0
      obtain ⟨j1, j2, j3⟩ := jok_ofD m ci o k ho hok
      have hj1 : ∀ w', Grown w w' → _ := fun w' g => join_d (n && !(m == 0)) o k ho (by rw [← hok]; omega) (epD m) (by omega) (by omega) j1 w' (hT.grown g)
      have hk1 : o * 2 ^ (k + 1) = 2 * sgD m := by rw [hok, Nat.pow_succ, ← Nat.mul_assoc, Nat.mul_comm 2]
      have he1 : epD m - 1 + ((k + 1 : Nat) : Int) = epD m + k := by omega
      have hj2 : ∀ w', Grown w w' → _ := fun w' g => join_d (n && !(m == 0)) o (k + 1) ho (by rw [hk1]; omega) (epD m - 1) (by omega) (by omega) (by rw [he1]; exact j1) w' (hT.grown g)
      rw [← hok, j2] at hj1
      rw [he1, j2, hk1] at hj2
      have hc : (m == 0) = false := by simp [c]
      rw [hc] at hsp hlt hj1 hj2 heq
      simp only [Bool.not_false, Bool.and_true] at hsp hlt hj1 hj2
      obtain ⟨s, hs⟩ : ∃ s : Nat, s = sgD m := ⟨_, rfl⟩
      obtain ⟨x, hx⟩ : ∃ x : Int, x = epD m := ⟨_, rfl⟩
      rw [← hs, ← hx] at hsp hj1 hj2
      have f1 : IntKind.u64.wrap (2 * (s : Int)) = ((2 * s : Nat) : Int) := by rw [wrapU (by omega) (by omega)]; omega
      have f2 : wrap64 (x - 1) = x - 1 := wrapI (by omega) (by omega)
      have f3 : ((s : Int) == 0) = false := by simp; omega
      obtain ⟨s2, hs2⟩ : ∃ s2 : Int, s2 = ((2 * s : Nat) : Int) := ⟨_, rfl⟩
      rw [← hs2] at f1 hj2
      obtain ⟨X, hX⟩ : ∃ X : Nat, X = wD n m := ⟨_, rfl⟩
      rw [← hX] at hsp hj1 hj2 hxx hxx2 hlt heq ⊢
      clear hX hs hx hs2 v1 v2 v3 v4 v5 hs0 hok ho j1 j2 j3 hk1 he1 hc c hT hm ci
      cases n
      · go_enter Tryd.func28, Tryd.ntmps28
        go_wp2_with fail
        refine (hsp _).mono ?_; rintro e w1 ⟨rfl, g1⟩
        go_wp2_with fail
        refine (hj1 _ g1).mono ?_; rintro e w2 ⟨rfl, g2⟩
        go_wp2_with fail
        refine (hj2 _ (gtrans g1 g2)).mono ?_; rintro e w3 ⟨rfl, g3⟩
        go_wp2
        exact bodyPost_ret (v := .bool true) (by simp [results, Tryd.results28, go_sem] <;> simp only [*]) rfl ⟨rfl, (by repeat (with_reducible (first | assumption | exact Grown.refl _ | apply Grown.drew | apply Grown.alloc | apply gdrewN | (refine gtrans ?_ (by assumption)))))⟩
      · go_enter Tryd.func28, Tryd.ntmps28
        go_wp2_with fail
        refine (hsp _).mono ?_; rintro e w1 ⟨rfl, g1⟩
        go_wp2_with fail
        refine (hj1 _ g1).mono ?_; rintro e w2 ⟨rfl, g2⟩
        go_wp2_with fail
        refine (hj2 _ (gtrans g1 g2)).mono ?_; rintro e w3 ⟨rfl, g3⟩
        go_wp2
        exact bodyPost_ret (v := .bool true) (by simp [results, Tryd.results28, go_sem] <;> simp only [*]) rfl ⟨rfl, (by repeat (with_reducible (first | assumption | exact Grown.refl _ | apply Grown.drew | apply Grown.alloc | apply gdrewN | (refine gtrans ?_ (by assumption)))))⟩
  · have hsp := splitx_d n m (by omega) hm
    by_cases cn : 9218868437227405312 < m
    · have h1 : (FloatKind.f64.format.order (wD n m) (wD n m) != some .eq) = true := by rw [ordD_nanl n m _ cn hm]; rfl
      obtain ⟨X, hX⟩ : ∃ X : Nat, X = wD n m := ⟨_, rfl⟩
      rw [← hX] at hsp h1 ⊢
      clear hX hT hm ci cn
      go_enter Tryd.func28, Tryd.ntmps28
      go_wp2_with (first | (go_at_call 64; refine (hsp _).mono ?_; rintro e w' ⟨rfl, g1⟩))
      exact bodyPost_ret (v := .bool true) (by simp [results, Tryd.results28, go_sem] <;> simp only [*]) rfl ⟨rfl, (by repeat (with_reducible (first | assumption | exact Grown.refl _ | apply Grown.drew | apply Grown.alloc | apply gdrewN | (refine gtrans ?_ (by assumption)))))⟩
    · have hmI : m = 9218868437227405312 := by omega
      subst hmI
      have h1 : (FloatKind.f64.format.order (wD n 9218868437227405312) (wD n 9218868437227405312) != some .eq) = false := by rw [ordD _ _ _ _ (by omega) (by omega), cmp_eq rfl]; rfl
      have h4 : (FloatKind.f64.format.order (wD n 9218868437227405312) 0 != some .eq) = true := by
        have e := eqzD n 9218868437227405312 (by omega)
        cases h : (FloatKind.f64.format.order (wD n 9218868437227405312) 0 == some .eq)
        · simp only [bne, h]; rfl
        · rw [h] at e; simp at e
      have hadd : ∀ w : World, (binOp .add 22 (.float .f64 (wD n 9218868437227405312)) (.float .f64 (wD n 9218868437227405312))).run Tryd.prog w = .ok (.float .f64 (wD n 9218868437227405312)) w := by
        cases n
        · exact fun w => run_float_arith w .add 22 .f64 _ _ _ (by decide +kernel)
        · exact fun w => run_float_arith w .add 22 .f64 _ _ _ (by decide +kernel)
      have h5 : (FloatKind.f64.format.order (wD n 9218868437227405312) (wD n 9218868437227405312) == some .eq) = true := by rw [ordD _ _ _ _ (by omega) (by omega), cmp_eq rfl]; rfl
      obtain ⟨X, hX⟩ : ∃ X : Nat, X = wD n 9218868437227405312 := ⟨_, rfl⟩
      rw [← hX] at hsp h1 h4 h5 hadd ⊢
      clear hT hm ci cn hX
      go_enter Tryd.func28, Tryd.ntmps28
      go_wp2_with (first | (go_at_call 64; refine (hsp _).mono ?_; rintro e w' ⟨rfl, g1⟩))
      exact bodyPost_ret (v := .bool true) (by simp [results, Tryd.results28, go_sem] <;> simp only [*]) rfl ⟨rfl, (by repeat (with_reducible (first | assumption | exact Grown.refl _ | apply Grown.drew | apply Grown.alloc | apply gdrewN | (refine gtrans ?_ (by assumption)))))⟩
end Go.Proofs.YtbdeppdjelcioaaDoor
