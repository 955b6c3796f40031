import Derived.Test.YtbdeppdjelcioaaDoorProg
import Derived.Test.YtbdeppdjelcioaaDoorM
import Derived.Test.YtbdeppdjelcioaaDoorA
import Derived.Test.YtbdeppdjelcioaaDoorP
import Derived.WalkKit
import Derived.ProofKit
import Derived.RowKit3
import Derived.Deep.RegionHeld3
import Derived.WalkSpells
import Derived.StillTactics
import Derived.Laws.FloatArith
import Derived.Deep.QuietTactic
import Derived.BigQuiet
namespace Go.Proofs.YtbdeppdjelcioaaDoor
open Go.RowKit
set_option maxRecDepth 20000 in
set_option maxHeartbeats 1000000 in
theorem steps_s (n n' : Bool) (m m' : Nat) (h1 : m < 2147483648) (h2 : m' < 2147483648) (w : World) : Calls Tryd.prog 18 #[.float .f32 (wS n m), .float .f32 (wS n' m')] w fun e w' => e = .returned (.tuple #[.int .i64 (sti 2139095040 n m n' m'), .bool (stb 2139095040 n m n' m')]) ∧ Grown w w' := by
  obtain ⟨x, hx⟩ : ∃ x : Nat, x = wS n m := ⟨_, rfl⟩
  obtain ⟨y, hy⟩ : ∃ y : Nat, y = wS n' m' := ⟨_, rfl⟩
  by_cases c1 : 2139095040 < m
  · have q1 := placen_s n m c1 h1
    have es : sti 2139095040 n m n' m' = 0 := by unfold sti; simp [c1]
    have et : stb 2139095040 n m n' m' = false := by unfold stb; simp [c1]
    rw [es, et]
    obtain ⟨P2, b2, q2⟩ : ∃ (P2 : Int) (b2 : Bool), ∀ w : World, Calls Tryd.prog 50 #[.float .f32 (wS n' m')] w fun e w' => e = .returned (.tuple #[.int .i64 P2, .bool b2]) ∧ Grown w w' := by
      by_cases c2 : 2139095040 < m'
      · exact ⟨_, _, placen_s n' m' c2 h2⟩
      · exact ⟨_, _, place_s n' m' (by omega)⟩
    rw [← hx] at q1 ⊢
    rw [← hy] at q2 ⊢
    clear hx hy h1 h2 c1 es et
    go_enter Tryd.func18, Tryd.ntmps18
    go_wp2_with fail
    refine (q1 _).mono ?_; rintro e w1 ⟨rfl, g1⟩
    go_wp2_with fail
    refine (q2 _).mono ?_; rintro e w2 ⟨rfl, g2⟩
    go_wp2
    exact bodyPost_ret (v := .tuple #[.int .i64 0, .bool false]) (by simp [results, Tryd.results18, go_sem] <;> simp only [*]) rfl ⟨rfl, (by repeat (with_reducible (first | assumption | exact Grown.refl _ | apply Grown.drew | apply Grown.alloc | apply gdrewN | (refine gtrans ?_ (by assumption)))))⟩
  by_cases c2 : 2139095040 < m'
  · have q1 := place_s n m (by omega)
    have q2 := placen_s n' m' c2 h2
    have es : sti 2139095040 n m n' m' = 0 := by unfold sti; simp [c2]
    have et : stb 2139095040 n m n' m' = false := by unfold stb; simp [c2]
    rw [es, et]
    rw [← hx] at q1 ⊢
    rw [← hy] at q2 ⊢
    clear hx hy h1 h2 c1 c2 es et
    go_enter Tryd.func18, Tryd.ntmps18
    go_wp2_with fail
    refine (q1 _).mono ?_; rintro e w1 ⟨rfl, g1⟩
    go_wp2_with fail
    refine (q2 _).mono ?_; rintro e w2 ⟨rfl, g2⟩
    go_wp2
    exact bodyPost_ret (v := .tuple #[.int .i64 0, .bool false]) (by simp [results, Tryd.results18, go_sem] <;> simp only [*]) rfl ⟨rfl, (by repeat (with_reducible (first | assumption | exact Grown.refl _ | apply Grown.drew | apply Grown.alloc | apply gdrewN | (refine gtrans ?_ (by assumption)))))⟩
  have q1 := place_s n m (by omega)
  have q2 := place_s n' m' (by omega)
  have b1 : -2139095040 ≤ plz n m ∧ plz n m ≤ 2139095040 := by have := plz_bd n m; omega
  have b2 : -2139095040 ≤ plz n' m' ∧ plz n' m' ≤ 2139095040 := by have := plz_bd n' m'; omega
  have es : sti 2139095040 n m n' m' = stv (plz n m) (plz n' m') := by unfold sti; simp [c1, c2]
  have et : stb 2139095040 n m n' m' = sto (plz n m) (plz n' m') := by unfold stb; simp [c1, c2]
  rw [es, et]
  rw [← hx] at q1 ⊢
  rw [← hy] at q2 ⊢
  obtain ⟨P, hP⟩ : ∃ P : Int, P = plz n m := ⟨_, rfl⟩
  obtain ⟨Q, hQ⟩ : ∃ Q : Int, Q = plz n' m' := ⟨_, rfl⟩
  rw [← hP] at q1 b1 ⊢
  rw [← hQ] at q2 b2 ⊢
  have eo := sto_def P Q
  have ev := stv_def P Q
  obtain ⟨D, hD⟩ : ∃ D : Int, wrap64 (Q - P) = D := ⟨_, rfl⟩
  have hD2 := wrapQ (x := Q - P) (by omega) (by omega)
  rw [hD] at hD2
  obtain ⟨V, hV⟩ : ∃ V : Int, V = stv P Q := ⟨_, rfl⟩
  obtain ⟨O, hO⟩ : ∃ O : Bool, O = sto P Q := ⟨_, rfl⟩
  rw [← hV, ← hO]
  rw [← hV] at ev
  rw [← hO] at eo
  clear hx hy h1 h2 c1 c2 es et hP hQ hV hO
  by_cases cw : Q - P < -9223372036854775808 ∨ 9223372036854775807 < Q - P
  · obtain rfl : O = false := by rw [eo]; simp; omega
    obtain rfl : V = 0 := by rw [ev]; simp; omega
    by_cases c : Q < P
    · have d1 : decide (D < 0) = false := by simp; omega
      have d2 : decide (Q < P) = true := by simp; omega
      clear eo ev hD2 cw b1 b2 c
      go_enter Tryd.func18, Tryd.ntmps18
      go_wp2_with fail
      refine (q1 _).mono ?_; rintro e w1 ⟨rfl, g1⟩
      go_wp2_with fail
      refine (q2 _).mono ?_; rintro e w2 ⟨rfl, g2⟩
      go_wp2
      exact bodyPost_ret (v := .tuple #[.int .i64 0, .bool false]) (by simp [results, Tryd.results18, go_sem] <;> simp only [*]) rfl ⟨rfl, (by repeat (with_reducible (first | assumption | exact Grown.refl _ | apply Grown.drew | apply Grown.alloc | apply gdrewN | (refine gtrans ?_ (by assumption)))))⟩
    · have d1 : decide (D < 0) = true := by simp; omega
      have d2 : decide (Q < P) = false := by simp; omega
      clear eo ev hD2 cw b1 b2 c
      go_enter Tryd.func18, Tryd.ntmps18
      go_wp2_with fail
      refine (q1 _).mono ?_; rintro e w1 ⟨rfl, g1⟩
      go_wp2_with fail
      refine (q2 _).mono ?_; rintro e w2 ⟨rfl, g2⟩
      go_wp2
      exact bodyPost_ret (v := .tuple #[.int .i64 0, .bool false]) (by simp [results, Tryd.results18, go_sem] <;> simp only [*]) rfl ⟨rfl, (by repeat (with_reducible (first | assumption | exact Grown.refl _ | apply Grown.drew | apply Grown.alloc | apply gdrewN | (refine gtrans ?_ (by assumption)))))⟩
  · obtain rfl : O = true := by rw [eo]; simp; omega
    obtain rfl : V = D := by rw [ev]; split <;> omega
    by_cases c : Q < P
    · have d1 : decide (V < 0) = true := by simp; omega
      have d2 : decide (Q < P) = true := by simp; omega
      clear eo ev hD2 cw b1 b2 c
      go_enter Tryd.func18, Tryd.ntmps18
      go_wp2_with fail
      refine (q1 _).mono ?_; rintro e w1 ⟨rfl, g1⟩
      go_wp2_with fail
      refine (q2 _).mono ?_; rintro e w2 ⟨rfl, g2⟩
      go_wp2
      exact bodyPost_ret (v := .tuple #[.int .i64 V, .bool true]) (by simp [results, Tryd.results18, go_sem] <;> simp only [*]) rfl ⟨rfl, (by repeat (with_reducible (first | assumption | exact Grown.refl _ | apply Grown.drew | apply Grown.alloc | apply gdrewN | (refine gtrans ?_ (by assumption)))))⟩
    · have d1 : decide (V < 0) = false := by simp; omega
      have d2 : decide (Q < P) = false := by simp; omega
      clear eo ev hD2 cw b1 b2 c
      go_enter Tryd.func18, Tryd.ntmps18
      go_wp2_with fail
      refine (q1 _).mono ?_; rintro e w1 ⟨rfl, g1⟩
      go_wp2_with fail
      refine (q2 _).mono ?_; rintro e w2 ⟨rfl, g2⟩
      go_wp2
      exact bodyPost_ret (v := .tuple #[.int .i64 V, .bool true]) (by simp [results, Tryd.results18, go_sem] <;> simp only [*]) rfl ⟨rfl, (by repeat (with_reducible (first | assumption | exact Grown.refl _ | apply Grown.drew | apply Grown.alloc | apply gdrewN | (refine gtrans ?_ (by assumption)))))⟩

end Go.Proofs.YtbdeppdjelcioaaDoor
