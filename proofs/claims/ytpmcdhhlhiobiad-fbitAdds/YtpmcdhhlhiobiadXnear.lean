import Derived.Test.YtpmcdhhlhiobiadProg
import Derived.Test.YtpmcdhhlhiobiadM
import Derived.Test.YtpmcdhhlhiobiadM2
import Derived.Test.YtpmcdhhlhiobiadM3
import Derived.Test.YtpmcdhhlhiobiadA
import Derived.Test.YtpmcdhhlhiobiadP
import Derived.Test.YtpmcdhhlhiobiadTnear
import Derived.WalkKit
import Derived.ProofKit
import Derived.RowKit3
import Derived.Deep.RegionHeld3
import Derived.WalkSpells
import Derived.StillTactics
import Derived.Laws.FloatArith
import Derived.Deep.QuietTactic
import Derived.BigQuiet
namespace Go.Proofs.Ytpmcdhhlhiobiad
open Go.RowKit
set_option maxRecDepth 20000 in
set_option maxHeartbeats 6000000 in
theorem measured_near (n n' n2 : Bool) (m m' m2 : Nat) (h1 : m < 2147483648) (h2 : m' < 2147483648) (h3 : m2 < 2147483648) (w : World) : Calls Try.prog 10 #[.float .f32 (wS n m), .float .f32 (wS n' m'), .float .f32 (wS n2 m2)] w fun e w' => e = .returned (.bool true) ∧ Grown w w' := by
  have s1 := steps_near n n' m m' h1 h2
  have s2 := steps_near n' n m' m h2 h1
  by_cases c1 : 2139095040 < m
  · have oXX := ordS_nanl n m (wS n m) c1 h1
    have e1 : sti 2139095040 n m n' m' = 0 := by unfold sti; simp [c1]
    have e2 : stb 2139095040 n m n' m' = false := by unfold stb; simp [c1]
    have e3 : sti 2139095040 n' m' n m = 0 := by unfold sti; simp [c1]
    have e4 : stb 2139095040 n' m' n m = false := by unfold stb; simp [c1]
    rw [e1, e2] at s1
    rw [e3, e4] at s2
    obtain ⟨X, hX⟩ : ∃ x : Nat, x = wS n m := ⟨_, rfl⟩
    obtain ⟨Y, hY⟩ : ∃ x : Nat, x = wS n' m' := ⟨_, rfl⟩
    obtain ⟨Z, hZ⟩ : ∃ x : Nat, x = wS n2 m2 := ⟨_, rfl⟩
    rw [← hX] at s1 s2 oXX ⊢
    rw [← hY] at s1 s2 ⊢
    rw [← hZ]
    clear hX hY hZ c1 h1 h2 h3 e1 e2 e3 e4
    go_enter Try.func10, Try.ntmps10
    go_wp2_with fail
    refine (s1 _).mono ?_; rintro e w1 ⟨rfl, g1⟩
    go_wp2_with fail
    refine (s2 _).mono ?_; rintro e w2 ⟨rfl, g2⟩
    go_wp2
    exact bodyPost_ret (v := .bool true) (by simp [results, Try.results10, go_sem] <;> simp only [*]) rfl ⟨rfl, (by repeat (with_reducible (first | assumption | exact Grown.refl _ | apply Grown.drew | apply Grown.alloc | apply gdrewN | (refine gtrans ?_ (by assumption)))))⟩
  have hm : m ≤ 2139095040 := by omega
  have oXX : FloatKind.f32.format.order (wS n m) (wS n m) = some .eq := by rw [ordS n n m m hm hm, cmp_eq rfl]
  by_cases c2 : 2139095040 < m'
  · have oYY := ordS_nanl n' m' (wS n' m') c2 h2
    have e1 : sti 2139095040 n m n' m' = 0 := by unfold sti; simp [c2]
    have e2 : stb 2139095040 n m n' m' = false := by unfold stb; simp [c2]
    have e3 : sti 2139095040 n' m' n m = 0 := by unfold sti; simp [c2]
    have e4 : stb 2139095040 n' m' n m = false := by unfold stb; simp [c2]
    rw [e1, e2] at s1
    rw [e3, e4] at s2
    obtain ⟨X, hX⟩ : ∃ x : Nat, x = wS n m := ⟨_, rfl⟩
    obtain ⟨Y, hY⟩ : ∃ x : Nat, x = wS n' m' := ⟨_, rfl⟩
    obtain ⟨Z, hZ⟩ : ∃ x : Nat, x = wS n2 m2 := ⟨_, rfl⟩
    rw [← hX] at s1 s2 oXX ⊢
    rw [← hY] at s1 s2 oYY ⊢
    rw [← hZ]
    clear hX hY hZ c1 c2 h1 h2 h3 e1 e2 e3 e4 hm
    go_enter Try.func10, Try.ntmps10
    go_wp2_with fail
    refine (s1 _).mono ?_; rintro e w1 ⟨rfl, g1⟩
    go_wp2_with fail
    refine (s2 _).mono ?_; rintro e w2 ⟨rfl, g2⟩
    go_wp2
    exact bodyPost_ret (v := .bool true) (by simp [results, Try.results10, go_sem] <;> simp only [*]) rfl ⟨rfl, (by repeat (with_reducible (first | assumption | exact Grown.refl _ | apply Grown.drew | apply Grown.alloc | apply gdrewN | (refine gtrans ?_ (by assumption)))))⟩
  have hm' : m' ≤ 2139095040 := by omega
  have oYY : FloatKind.f32.format.order (wS n' m') (wS n' m') = some .eq := by rw [ordS n' n' m' m' hm' hm', cmp_eq rfl]
  have oXY : FloatKind.f32.format.order (wS n m) (wS n' m') = some (compare (plz n m) (plz n' m')) := ordS n n' m m' hm hm'
  have b1 := exfS n m hm
  have b2 := exfS n' m' hm'
  have e1 : sti 2139095040 n m n' m' = stv (plz n m) (plz n' m') := by unfold sti; simp [c1, c2]
  have e2 : stb 2139095040 n m n' m' = sto (plz n m) (plz n' m') := by unfold stb; simp [c1, c2]
  have e3 : sti 2139095040 n' m' n m = stv (plz n' m') (plz n m) := by unfold sti; simp [c1, c2]
  have e4 : stb 2139095040 n' m' n m = sto (plz n' m') (plz n m) := by unfold stb; simp [c1, c2]
  rw [e1, e2] at s1
  rw [e3, e4] at s2
  obtain ⟨U, V3, O3, hup, s3, f3⟩ : ∃ (U : Nat) (V3 : Int) (O3 : Bool), (∀ w : World, Calls Try.prog 23 #[.float .f32 (wS n m)] w fun e w' => e = .returned (.float .f32 U) ∧ Grown w w') ∧ (∀ w : World, Calls Try.prog 22 #[.float .f32 U, .float .f32 (wS n' m')] w fun e w' => e = .returned (.tuple #[.int .i64 V3, .bool O3]) ∧ Grown w w') ∧ (plz n m < plz n' m' → O3 = true → V3 = plz n' m' - plz n m - 1) := by
    by_cases d : plz n m = 2139095040
    · have d1 : n = false ∧ m = 2139095040 := by
        unfold plz at d; cases n <;> simp at d ⊢ <;> omega
      obtain ⟨rfl, rfl⟩ := d1
      exact ⟨_, _, _, upe_near, s1, fun h => absurd h (by omega)⟩
    · have s := steps_near (decide (plz n m + 1 < 0)) n' (plz n m + 1).natAbs m' (by omega) h2
      refine ⟨_, _, _, up_near n m hm d, s, fun h ho => ?_⟩
      have t1 : sti 2139095040 (decide (plz n m + 1 < 0)) (plz n m + 1).natAbs n' m' = stv (plz n m + 1) (plz n' m') := by
        unfold sti; rw [fS_back, if_neg (by omega)]
      have t2 : stb 2139095040 (decide (plz n m + 1 < 0)) (plz n m + 1).natAbs n' m' = sto (plz n m + 1) (plz n' m') := by
        unfold stb; rw [fS_back, if_neg (by omega)]
      rw [t2] at ho
      rw [t1]
      rcases stvo (plz n m + 1) (plz n' m') with ⟨q1, q2, q3, q4⟩ | ⟨q1, q2, q3⟩
      · rw [q2]; omega
      · rw [q1] at ho; cases ho
  obtain ⟨V4, O4, V5, O5, s4, s5, f4⟩ : ∃ (V4 : Int) (O4 : Bool) (V5 : Int) (O5 : Bool), (∀ w : World, Calls Try.prog 22 #[.float .f32 (wS n' m'), .float .f32 (wS n2 m2)] w fun e w' => e = .returned (.tuple #[.int .i64 V4, .bool O4]) ∧ Grown w w') ∧ (∀ w : World, Calls Try.prog 22 #[.float .f32 (wS n m), .float .f32 (wS n2 m2)] w fun e w' => e = .returned (.tuple #[.int .i64 V5, .bool O5]) ∧ Grown w w') ∧ (O4 = true → O5 = true → plz n' m' - plz n m + V4 = V5 ∧ -9223372036854775808 ≤ V5 ∧ V5 ≤ 9223372036854775807) := by
    refine ⟨_, _, _, _, steps_near n' n2 m' m2 h2 h3, steps_near n n2 m m2 h1 h3, ?_⟩
    by_cases c3 : 2139095040 < m2
    · intro h; unfold stb at h; simp [c3] at h
    · have t1 : sti 2139095040 n' m' n2 m2 = stv (plz n' m') (plz n2 m2) := by unfold sti; simp [c2, c3]
      have t2 : stb 2139095040 n' m' n2 m2 = sto (plz n' m') (plz n2 m2) := by unfold stb; simp [c2, c3]
      have t3 : sti 2139095040 n m n2 m2 = stv (plz n m) (plz n2 m2) := by unfold sti; simp [c1, c3]
      have t4 : stb 2139095040 n m n2 m2 = sto (plz n m) (plz n2 m2) := by unfold stb; simp [c1, c3]
      rw [t1, t2, t3, t4]
      intro x1 x2
      rcases stvo (plz n' m') (plz n2 m2) with ⟨q1, q2, q3, q4⟩ | ⟨q1, q2, q3⟩
      · rcases stvo (plz n m) (plz n2 m2) with ⟨r1, r2, r3, r4⟩ | ⟨r1, r2, r3⟩
        · rw [q2, r2]; omega
        · rw [r1] at x2; cases x2
      · rw [q1] at x1; cases x1
  obtain ⟨P, hP⟩ : ∃ P : Int, P = plz n m := ⟨_, rfl⟩
  obtain ⟨Q, hQ⟩ : ∃ Q : Int, Q = plz n' m' := ⟨_, rfl⟩
  obtain ⟨X, hX⟩ : ∃ x : Nat, x = wS n m := ⟨_, rfl⟩
  obtain ⟨Y, hY⟩ : ∃ x : Nat, x = wS n' m' := ⟨_, rfl⟩
  obtain ⟨Z, hZ⟩ : ∃ x : Nat, x = wS n2 m2 := ⟨_, rfl⟩
  rw [← hP, ← hQ] at s1 s2 f3 f4 oXY
  rw [← hP] at b1
  rw [← hQ] at b2
  rw [← hX] at s1 s2 s5 hup oXX oXY ⊢
  rw [← hY] at s1 s2 s3 s4 oYY oXY ⊢
  rw [← hZ] at s4 s5 ⊢
  clear hP hQ hX hY hZ e1 e2 e3 e4 c1 c2 h1 h2 h3 hm hm'
  rcases stvo P Q with ⟨u1, u2, u3, u4⟩ | ⟨u1, u2, u3⟩
  · rw [u1, u2] at s1
    obtain ⟨V2, O2, s2, f2⟩ : ∃ (V2 : Int) (O2 : Bool), (∀ w : World, Calls Try.prog 22 #[.float .f32 Y, .float .f32 X] w fun e w' => e = .returned (.tuple #[.int .i64 V2, .bool O2]) ∧ Grown w w') ∧ (O2 = true → V2 = P - Q ∧ -9223372036854775808 ≤ V2 ∧ V2 ≤ 9223372036854775807) := by
      refine ⟨_, _, s2, fun h => ?_⟩
      rcases stvo Q P with ⟨q1, q2, q3, q4⟩ | ⟨q1, q2, q3⟩
      · rw [q2]; omega
      · rw [q1] at h; cases h
    obtain ⟨V, hV⟩ : ∃ V : Int, V = Q - P := ⟨_, rfl⟩
    rw [← hV] at s1 f4
    have k2 : O2 = true → (V != wrap64 (-V2)) = false := by
      intro h; have := f2 h; rw [wrapI (by omega) (by omega)]; simp; omega
    have k3 : P < Q → O3 = true → (V3 != wrap64 (V - 1)) = false := by
      intro h h'; have := f3 h h'; rw [wrapI (by omega) (by omega)]; simp; omega
    have k4 : O4 = true → O5 = true → (wrap64 (V + V4) == V5) = true := by
      intro h h'; have := f4 h h'; rw [wrapI (by omega) (by omega)]; simp; omega
    have kr : (P < Q ∧ FloatKind.f32.format.order X Y = some .lt ∧ decide (0 < V) = true ∧ decide (V < 0) = false) ∨ (¬ P < Q ∧ FloatKind.f32.format.order X Y = some .eq ∧ decide (0 < V) = false ∧ decide (V < 0) = false) ∨ (¬ P < Q ∧ FloatKind.f32.format.order X Y = some .gt ∧ decide (0 < V) = false ∧ decide (V < 0) = true) := by
      rcases (by omega : P < Q ∨ P = Q ∨ Q < P) with d | d | d
      · left; rw [oXY, cmp_lt d]; exact ⟨d, rfl, by simp; omega, by simp; omega⟩
      · right; left; rw [oXY, cmp_eq d]; exact ⟨by omega, rfl, by simp; omega, by simp; omega⟩
      · right; right; rw [oXY, cmp_gt d]; exact ⟨by omega, rfl, by simp; omega, by simp; omega⟩
    clear f2 f3 f4 u1 u2 u3 u4 hV oXY b1 b2
    have k2' : O2 = false ∨ (O2 = true ∧ (V != wrap64 (-V2)) = false) := by
      cases O2
      · exact Or.inl rfl
      · exact Or.inr ⟨rfl, k2 rfl⟩
    have k4' : O4 = false ∨ (O4 = true ∧ O5 = false) ∨ (O4 = true ∧ O5 = true ∧ (wrap64 (V + V4) == V5) = true) := by
      cases O4
      · exact Or.inl rfl
      · cases O5
        · exact Or.inr (Or.inl ⟨rfl, rfl⟩)
        · exact Or.inr (Or.inr ⟨rfl, rfl, k4 rfl rfl⟩)
    clear k2 k4
    rcases kr with ⟨d0, d1, d2, d3⟩ | ⟨d0, d1, d2, d3⟩ | ⟨d0, d1, d2, d3⟩
    · have k3' : O3 = false ∨ (O3 = true ∧ (V3 != wrap64 (V - 1)) = false) := by
        cases O3
        · exact Or.inl rfl
        · exact Or.inr ⟨rfl, k3 d0 rfl⟩
      clear k3 d0
      rcases k2' with rfl | ⟨rfl, k2⟩
      all_goals
        rcases k3' with rfl | ⟨rfl, k3⟩
      all_goals
        rcases k4' with rfl | ⟨rfl, rfl⟩ | ⟨rfl, rfl, k4⟩
      all_goals
        go_enter Try.func10, Try.ntmps10
        go_wp2_with fail
        refine (s1 _).mono ?_; rintro e w1 ⟨rfl, g1⟩
        go_wp2_with fail
        refine (s2 _).mono ?_; rintro e w2 ⟨rfl, g2⟩
        go_wp2_with fail
        refine (hup _).mono ?_; rintro e w3 ⟨rfl, g3⟩
        go_wp2_with fail
        refine (s3 _).mono ?_; rintro e w4 ⟨rfl, g4⟩
        go_wp2_with fail
        refine (s4 _).mono ?_; rintro e w5 ⟨rfl, g5⟩
        go_wp2_with fail
        refine (s5 _).mono ?_; rintro e w6 ⟨rfl, g6⟩
        go_wp2
        exact bodyPost_ret (v := .bool true) (by simp [results, Try.results10, go_sem] <;> simp only [*]) rfl ⟨rfl, (by repeat (with_reducible (first | assumption | exact Grown.refl _ | apply Grown.drew | apply Grown.alloc | apply gdrewN | (refine gtrans ?_ (by assumption)))))⟩
    · clear k3 d0
      cases O3
      all_goals
        rcases k2' with rfl | ⟨rfl, k2⟩
      all_goals
        rcases k4' with rfl | ⟨rfl, rfl⟩ | ⟨rfl, rfl, k4⟩
      all_goals
        go_enter Try.func10, Try.ntmps10
        go_wp2_with fail
        refine (s1 _).mono ?_; rintro e w1 ⟨rfl, g1⟩
        go_wp2_with fail
        refine (s2 _).mono ?_; rintro e w2 ⟨rfl, g2⟩
        go_wp2_with fail
        refine (hup _).mono ?_; rintro e w3 ⟨rfl, g3⟩
        go_wp2_with fail
        refine (s3 _).mono ?_; rintro e w4 ⟨rfl, g4⟩
        go_wp2_with fail
        refine (s4 _).mono ?_; rintro e w5 ⟨rfl, g5⟩
        go_wp2_with fail
        refine (s5 _).mono ?_; rintro e w6 ⟨rfl, g6⟩
        go_wp2
        exact bodyPost_ret (v := .bool true) (by simp [results, Try.results10, go_sem] <;> simp only [*]) rfl ⟨rfl, (by repeat (with_reducible (first | assumption | exact Grown.refl _ | apply Grown.drew | apply Grown.alloc | apply gdrewN | (refine gtrans ?_ (by assumption)))))⟩
    · clear k3 d0
      cases O3
      all_goals
        rcases k2' with rfl | ⟨rfl, k2⟩
      all_goals
        rcases k4' with rfl | ⟨rfl, rfl⟩ | ⟨rfl, rfl, k4⟩
      all_goals
        go_enter Try.func10, Try.ntmps10
        go_wp2_with fail
        refine (s1 _).mono ?_; rintro e w1 ⟨rfl, g1⟩
        go_wp2_with fail
        refine (s2 _).mono ?_; rintro e w2 ⟨rfl, g2⟩
        go_wp2_with fail
        refine (hup _).mono ?_; rintro e w3 ⟨rfl, g3⟩
        go_wp2_with fail
        refine (s3 _).mono ?_; rintro e w4 ⟨rfl, g4⟩
        go_wp2_with fail
        refine (s4 _).mono ?_; rintro e w5 ⟨rfl, g5⟩
        go_wp2_with fail
        refine (s5 _).mono ?_; rintro e w6 ⟨rfl, g6⟩
        go_wp2
        exact bodyPost_ret (v := .bool true) (by simp [results, Try.results10, go_sem] <;> simp only [*]) rfl ⟨rfl, (by repeat (with_reducible (first | assumption | exact Grown.refl _ | apply Grown.drew | apply Grown.alloc | apply gdrewN | (refine gtrans ?_ (by assumption)))))⟩
  · rw [u1, u2] at s1
    obtain ⟨V2, O2, s2⟩ : ∃ (V2 : Int) (O2 : Bool), (∀ w : World, Calls Try.prog 22 #[.float .f32 Y, .float .f32 X] w fun e w' => e = .returned (.tuple #[.int .i64 V2, .bool O2]) ∧ Grown w w') := ⟨_, _, s2⟩
    clear f3 f4 u1 u2 u3 b1 b2 oXY
    go_enter Try.func10, Try.ntmps10
    go_wp2_with fail
    refine (s1 _).mono ?_; rintro e w1 ⟨rfl, g1⟩
    go_wp2_with fail
    refine (s2 _).mono ?_; rintro e w2 ⟨rfl, g2⟩
    go_wp2_with fail
    refine (hup _).mono ?_; rintro e w3 ⟨rfl, g3⟩
    go_wp2_with fail
    refine (s3 _).mono ?_; rintro e w4 ⟨rfl, g4⟩
    go_wp2_with fail
    refine (s4 _).mono ?_; rintro e w5 ⟨rfl, g5⟩
    go_wp2_with fail
    refine (s5 _).mono ?_; rintro e w6 ⟨rfl, g6⟩
    go_wp2
    exact bodyPost_ret (v := .bool true) (by simp [results, Try.results10, go_sem] <;> simp only [*]) rfl ⟨rfl, (by repeat (with_reducible (first | assumption | exact Grown.refl _ | apply Grown.drew | apply Grown.alloc | apply gdrewN | (refine gtrans ?_ (by assumption)))))⟩

end Go.Proofs.Ytpmcdhhlhiobiad
