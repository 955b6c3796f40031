import Derived.Test.YtbdeppdjelcioaaDoorProg
import Derived.Test.YtbdeppdjelcioaaDoorM
import Derived.Test.YtbdeppdjelcioaaDoorM5
import Derived.Test.YtbdeppdjelcioaaDoorA
import Derived.Test.YtbdeppdjelcioaaDoorBT
import Derived.Test.YtbdeppdjelcioaaDoorMJ
import Derived.Test.YtbdeppdjelcioaaDoorMG
import Derived.Test.YtbdeppdjelcioaaDoorUnear
import Derived.Test.YtbdeppdjelcioaaDoorJnear
import Derived.WalkKit
import Derived.ProofKit
import Derived.RowKit3
import Derived.Deep.RegionHeld3
import Derived.WalkSpells
import Derived.StillTactics
import Derived.Laws.FloatArith
import Derived.Deep.QuietTactic
import Derived.BigQuiet
namespace Go.Proofs.YtbdeppdjelcioaaDoor
open Go.RowKit
set_option maxRecDepth 20000 in
set_option maxHeartbeats 4000000 in
theorem again_near (neg : Bool) (s : Nat) (hs : s < 18446744073709551616) (e : Int) (he1 : -9223372036854775808 ≤ e) (he2 : e < 9223372036854775808) (w : World) (hT : Tab w) :
    Calls Tryd.prog 37 #[.bool neg, .int .u64 (s : Int), .int .i64 e, .int .u64 8388608, .int .i64 (-149)] w fun e w' => e = .returned (.bool true) ∧ Grown w w' := by
  obtain ⟨B, hB⟩ : ∃ B : Int, B = 8388608 := ⟨_, rfl⟩
  rw [← hB]
  have d2 : IntKind.u64.wrap (2 * B) = 2 * B := wrapU (by omega) (by omega)
  have z0 : (FloatKind.f32.format.order 0 0 == some .eq) = true := eqzS false 0 (by omega)
  by_cases c0 : s = 0
  · subst c0
    have hjo := joinz_near neg e w
    have e1 : ¬ (2 * B ≤ 0) := by omega
    have e2 : (0 : Int) < B := by omega
    by_cases c1 : e = -149
    · subst c1
      have hsp := split_near false 0 (by omega)
      have v1 : wS false 0 = 0 := rfl
      have v2 : sgS 0 = 0 := by decide
      have v3 : epS 0 = -149 := by decide
      rw [v1, v2, v3] at hsp
      simp only [Bool.false_and, Int.ofNat_zero] at hsp
      cases neg
      · clear hB hs he1 he2 hT v1 v2 v3
        go_enter Tryd.func37, Tryd.ntmps37
        go_wp2_with (first | (go_at_call 26; refine (hjo).mono ?_; rintro e w' ⟨rfl, g1⟩) | (go_at_call 68; refine (hsp _).mono ?_; rintro e w' ⟨rfl, g2⟩))
        exact bodyPost_ret (v := .bool true) (by simp [results, Tryd.results37, go_sem] <;> first | (simp only [*]; done) | omega) rfl ⟨rfl, (by repeat (with_reducible (first | assumption | exact Grown.refl _ | apply Grown.drew | apply Grown.alloc | apply gdrewN | (refine gtrans ?_ (by assumption)))))⟩
      · clear hB hs he1 he2 hT v1 v2 v3
        go_enter Tryd.func37, Tryd.ntmps37
        go_wp2_with (first | (go_at_call 26; refine (hjo).mono ?_; rintro e w' ⟨rfl, g1⟩) | (go_at_call 68; refine (hsp _).mono ?_; rintro e w' ⟨rfl, g2⟩))
        exact bodyPost_ret (v := .bool true) (by simp [results, Tryd.results37, go_sem] <;> first | (simp only [*]; done) | omega) rfl ⟨rfl, (by repeat (with_reducible (first | assumption | exact Grown.refl _ | apply Grown.drew | apply Grown.alloc | apply gdrewN | (refine gtrans ?_ (by assumption)))))⟩
    · have e3 : (e != -149) = true := by simp; exact c1
      clear hB hs he1 he2 hT
      have hsp : ∀ w : World, True := fun _ => trivial
      go_enter Tryd.func37, Tryd.ntmps37
      go_wp2_with (first | (go_at_call 26; refine (hjo).mono ?_; rintro e w' ⟨rfl, g1⟩))
      exact bodyPost_ret (v := .bool true) (by simp [results, Tryd.results37, go_sem] <;> simp only [*]) rfl ⟨rfl, (by repeat (with_reducible (first | assumption | exact Grown.refl _ | apply Grown.drew | apply Grown.alloc | apply gdrewN | (refine gtrans ?_ (by assumption)))))⟩
  obtain ⟨o, k, ho, hok⟩ := odd_pow s c0
  by_cases cj : jokS o (e + k) = true
  · have hjo := join_near neg o k ho (by rw [← hok]; exact hs) e he1 he2 cj w hT
    have hp := Nat.two_pow_pos k
    have ho64 : o < 18446744073709551616 := by
      have := Nat.le_mul_of_pos_right o hp
      omega
    obtain ⟨r1, r2, r3, r4⟩ := jrS_spec o (by omega) ho64 (e + k) cj
    rw [← hok] at hjo
    obtain ⟨J, hJ⟩ : ∃ J, J = jrS o (e + k) := ⟨_, rfl⟩
    rw [← hJ] at hjo r1 r2 r3
    have hsp := split_near neg J r2
    obtain ⟨V, hV⟩ : ∃ V : Nat, V = wS neg J := ⟨_, rfl⟩
    rw [← hV] at hjo hsp
    by_cases c1 : 2 * B ≤ (s : Int)
    · clear hB hs he1 he2 hT hV hJ r1 r2 r3 r4 ho hok cj hp ho64 c0 hsp
      go_enter Tryd.func37, Tryd.ntmps37
      go_wp2_with (first | (go_at_call 26; refine (hjo).mono ?_; rintro e w' ⟨rfl, g1⟩))
      exact bodyPost_ret (v := .bool true) (by simp [results, Tryd.results37, go_sem] <;> simp only [*]) rfl ⟨rfl, (by repeat (with_reducible (first | assumption | exact Grown.refl _ | apply Grown.drew | apply Grown.alloc | apply gdrewN | (refine gtrans ?_ (by assumption)))))⟩
    by_cases c2 : (s : Int) < B
    · by_cases c3 : e = -149
      · have hu := uniqS J r2 s e (by omega) (by omega) (by omega) (Or.inr c3) (by rw [r3, hok, Nat.mul_assoc, ← Nat.pow_add]; congr 2; omega)
        obtain ⟨u1, u2⟩ := hu
        have u3 : (J == 0) = false := by simp; omega
        rw [u1, u2, u3] at hsp
        have c5 : (0 : Int) < (s : Int) := by omega
        subst c3
        cases neg
        · simp only [Bool.false_and] at hsp
          clear hB hs he1 he2 hT hV hJ r1 r2 r3 r4 ho hok cj hp ho64 c0 u1 u2 u3
          go_enter Tryd.func37, Tryd.ntmps37
          go_wp2_with (first | (go_at_call 26; refine (hjo).mono ?_; rintro e w' ⟨rfl, g1⟩) | (go_at_call 68; refine (hsp _).mono ?_; rintro e w' ⟨rfl, g2⟩))
          exact bodyPost_ret (v := .bool true) (by simp [results, Tryd.results37, go_sem] <;> first | (simp only [*]; done) | omega) rfl ⟨rfl, (by repeat (with_reducible (first | assumption | exact Grown.refl _ | apply Grown.drew | apply Grown.alloc | apply gdrewN | (refine gtrans ?_ (by assumption)))))⟩
        · simp only [Bool.true_and, Bool.not_false] at hsp
          clear hB hs he1 he2 hT hV hJ r1 r2 r3 r4 ho hok cj hp ho64 c0 u1 u2 u3
          go_enter Tryd.func37, Tryd.ntmps37
          go_wp2_with (first | (go_at_call 26; refine (hjo).mono ?_; rintro e w' ⟨rfl, g1⟩) | (go_at_call 68; refine (hsp _).mono ?_; rintro e w' ⟨rfl, g2⟩))
          exact bodyPost_ret (v := .bool true) (by simp [results, Tryd.results37, go_sem] <;> first | (simp only [*]; done) | omega) rfl ⟨rfl, (by repeat (with_reducible (first | assumption | exact Grown.refl _ | apply Grown.drew | apply Grown.alloc | apply gdrewN | (refine gtrans ?_ (by assumption)))))⟩
      · have e3 : (e != -149) = true := by simp; exact c3
        clear hB hs he1 he2 hT hV hJ r1 r2 r3 r4 ho hok cj hp ho64 c0 hsp
        go_enter Tryd.func37, Tryd.ntmps37
        go_wp2_with (first | (go_at_call 26; refine (hjo).mono ?_; rintro e w' ⟨rfl, g1⟩))
        exact bodyPost_ret (v := .bool true) (by simp [results, Tryd.results37, go_sem] <;> simp only [*]) rfl ⟨rfl, (by repeat (with_reducible (first | assumption | exact Grown.refl _ | apply Grown.drew | apply Grown.alloc | apply gdrewN | (refine gtrans ?_ (by assumption)))))⟩
    · by_cases c3 : e < -149
      · clear hB hs he1 he2 hT hV hJ r1 r2 r3 r4 ho hok cj hp ho64 c0 hsp
        go_enter Tryd.func37, Tryd.ntmps37
        go_wp2_with (first | (go_at_call 26; refine (hjo).mono ?_; rintro e w' ⟨rfl, g1⟩))
        exact bodyPost_ret (v := .bool true) (by simp [results, Tryd.results37, go_sem] <;> simp only [*]) rfl ⟨rfl, (by repeat (with_reducible (first | assumption | exact Grown.refl _ | apply Grown.drew | apply Grown.alloc | apply gdrewN | (refine gtrans ?_ (by assumption)))))⟩
      · have hu := uniqS J r2 s e (by omega) (by omega) (by omega) (Or.inl (by omega)) (by rw [r3, hok, Nat.mul_assoc, ← Nat.pow_add]; congr 2; omega)
        obtain ⟨u1, u2⟩ := hu
        have u3 : (J == 0) = false := by simp; omega
        rw [u1, u2, u3] at hsp
        have c5 : (0 : Int) < (s : Int) := by omega
        cases neg
        · simp only [Bool.false_and] at hsp
          clear hB hs he1 he2 hT hV hJ r1 r2 r3 r4 ho hok cj hp ho64 c0 u1 u2 u3
          go_enter Tryd.func37, Tryd.ntmps37
          go_wp2_with (first | (go_at_call 26; refine (hjo).mono ?_; rintro e w' ⟨rfl, g1⟩) | (go_at_call 68; refine (hsp _).mono ?_; rintro e w' ⟨rfl, g2⟩))
          exact bodyPost_ret (v := .bool true) (by simp [results, Tryd.results37, go_sem] <;> first | (simp only [*]; done) | omega) rfl ⟨rfl, (by repeat (with_reducible (first | assumption | exact Grown.refl _ | apply Grown.drew | apply Grown.alloc | apply gdrewN | (refine gtrans ?_ (by assumption)))))⟩
        · simp only [Bool.true_and, Bool.not_false] at hsp
          clear hB hs he1 he2 hT hV hJ r1 r2 r3 r4 ho hok cj hp ho64 c0 u1 u2 u3
          go_enter Tryd.func37, Tryd.ntmps37
          go_wp2_with (first | (go_at_call 26; refine (hjo).mono ?_; rintro e w' ⟨rfl, g1⟩) | (go_at_call 68; refine (hsp _).mono ?_; rintro e w' ⟨rfl, g2⟩))
          exact bodyPost_ret (v := .bool true) (by simp [results, Tryd.results37, go_sem] <;> first | (simp only [*]; done) | omega) rfl ⟨rfl, (by repeat (with_reducible (first | assumption | exact Grown.refl _ | apply Grown.drew | apply Grown.alloc | apply gdrewN | (refine gtrans ?_ (by assumption)))))⟩
  · have hjo := joinx_near neg o k ho (by rw [← hok]; exact hs) e he1 he2 (by simpa using cj) w hT
    rw [← hok] at hjo
    clear hB hs he1 he2 hT ho hok cj c0
    go_enter Tryd.func37, Tryd.ntmps37
    go_wp2_with (first | (go_at_call 26; refine (hjo).mono ?_; rintro e w' ⟨rfl, g1⟩))
    exact bodyPost_ret (v := .bool true) (by simp [results, Tryd.results37, go_sem] <;> simp only [*]) rfl ⟨rfl, (by repeat (with_reducible (first | assumption | exact Grown.refl _ | apply Grown.drew | apply Grown.alloc | apply gdrewN | (refine gtrans ?_ (by assumption)))))⟩
end Go.Proofs.YtbdeppdjelcioaaDoor
