import Derived.Test.YtkjcdhbhhiaaiaaProg
import Derived.Test.YtkjcdhbhhiaaiaaM
import Derived.Test.YtkjcdhbhhiaaiaaM5
import Derived.Test.YtkjcdhbhhiaaiaaM6
import Derived.Test.YtkjcdhbhhiaaiaaM7
import Derived.Test.YtkjcdhbhhiaaiaaM8
import Derived.Test.YtkjcdhbhhiaaiaaA
import Derived.Test.YtkjcdhbhhiaaiaaRS
import Derived.Test.YtkjcdhbhhiaaiaaJRS
import Derived.WalkKit
import Derived.ProofKit
import Derived.RowKit3
import Derived.Deep.RegionHeld3
import Derived.WalkSpells
import Derived.StillTactics
import Derived.Laws.FloatArith
import Derived.Deep.QuietTactic
import Derived.BigQuiet
import Derived.Below
namespace Go.Proofs.Ytkjcdhbhhiaaiaa
open Go.RowKit
open Ieee
set_option maxRecDepth 20000 in
set_option maxHeartbeats 400000 in
theorem rjoin0_S (neg : Bool) (x0 : Int) (w : World) :
    Calls Try.prog 32 #[.bool false, .bool neg, .int .u64 0, .int .i64 x0] w fun e w' => e = .returned (.tuple #[.int .u64 0, .bool true]) ∧ w' = w := by
  go_enter Try.func32, Try.ntmps32
  go_wp2
  exact bodyPost_ret (v := .tuple #[.int .u64 0, .bool true]) (by simp [results, Try.results32, go_sem] <;> simp only [*]) rfl ⟨rfl, rfl⟩
set_option maxRecDepth 20000 in
set_option maxHeartbeats 4000000 in
theorem rfrom_S (z : Int) (h1 : -9223372036854775808 ≤ z) (h2 : z < 9223372036854775808) (w : World) :
    Calls Try.prog 13 #[.bool false, .int .i64 z] w fun e w' => e = .returned (.tuple #[.int .u64 ((wS (decide (z < 0)) (zr single z) : Nat) : Int), .bool (exqS z)]) ∧ Grown w w' := by
  obtain ⟨B, hB⟩ : ∃ B : Int, B = 8388608 := ⟨_, rfl⟩
  have hful : ∀ w : World, Calls Try.prog 31 #[.bool false] w fun e w' => e = .returned (.int .u64 B) ∧ w' = w := by rw [hB]; exact rfull_S
  have d2 : IntKind.u64.wrap (2 * B) = 2 * B := wrapU (by omega) (by omega)
  obtain ⟨Z, hZ⟩ : ∃ Z : Int, Z = ((wS (decide (z < 0)) (zr single z) : Nat) : Int) := ⟨_, rfl⟩
  rw [← hZ]
  obtain ⟨X, hX⟩ : ∃ X : Bool, X = exqS z := ⟨_, rfl⟩
  rw [← hX]
  by_cases cz : z = 0
  · subst cz
    have e1 : Z = 0 := by rw [hZ]; rfl
    have e2 : exqS 0 = true := by
      unfold exqS
      have : zr single 0 = 0 := rfl
      rw [this, show vlS 0 = 0 from vV_zero single]; simp
    have d3 : ¬ (2 * B ≤ 0) := by omega
    subst e1
    rw [e2] at hX
    subst hX
    clear hB hZ h1 h2 e2
    go_enter Try.func13, Try.ntmps13
    go_wp2
    go_loop [7, 8, 9, 10] (fun a b c d => a = .int .u64 0 ∧ b = .int .i64 0 ∧ c = .int .u64 0 ∧ d = .int .u64 1) (fun a _ _ _ => (intOf a).toNat)
    case atStart => exact ⟨rfl, rfl, rfl, rfl⟩
    case round =>
      obtain ⟨rfl, rfl, rfl, rfl⟩ := hrel
      go_wp2_with (first | (go_at_call 31; refine (hful _).mono ?_; rintro e w' ⟨rfl, rfl⟩) | (go_at_call 32; refine (rjoin0_S _ _ _).mono ?_; rintro e w' ⟨rfl, rfl⟩))
      exact bodyPost_ret (v := .tuple #[.int .u64 0, .bool true]) (by simp [results, Try.results13, go_sem] <;> simp only [*]) rfl ⟨rfl, (by repeat (with_reducible (first | assumption | exact Grown.refl _ | apply Grown.drew | apply Grown.alloc | apply gdrewN | (refine gtrans ?_ (by assumption)))))⟩
  have HM : Hid (z.natAbs ≤ 9223372036854775808) := (by omega : z.natAbs ≤ 9223372036854775808)
  have HZ : Hid (z ≠ 0) := cz
  have HB : Hid (B = 8388608) := hB
  by_cases cn : z < 0
  · have hg0 : GS z.natAbs (-z) 0 0 1 := ⟨by omega, by omega, by omega, by omega, rfl, by omega, Or.inl rfl, by omega⟩
    have n1 : decide (z < 0) = true := by simp [cn]
    have n2 : IntKind.u64.wrap z = z + 18446744073709551616 := by rw [IntKind.wrap_u64]; omega
    have n3 : IntKind.u64.wrap (-(z + 18446744073709551616)) = -z := by rw [IntKind.wrap_u64]; omega
    rw [n1] at hZ
    clear hB h1 h2 cz cn
    go_enter Try.func13, Try.ntmps13
    go_wp2
    go_loop [7, 8, 9, 10] (fun a b c d => ∃ s e l u : Int, a = .int .u64 s ∧ b = .int .i64 e ∧ c = .int .u64 l ∧ d = .int .u64 u ∧ GS z.natAbs s e l u) (fun a _ _ _ => (intOf a).toNat)
    case atStart => exact ⟨_, _, _, _, rfl, rfl, rfl, rfl, hg0⟩
    case round =>
      obtain ⟨s, e, l, u, rfl, rfl, rfl, rfl, hg⟩ := hrel
      have b0 := HB.out
      have HM' := HM.out
      have HZ' := HZ.out
      by_cases k1 : 2 * B ≤ s
      · have j2 := GS_step z.natAbs s e l u hg HM' (by omega)
        obtain ⟨q1, q2⟩ := GS_bound z.natAbs s e l u hg HM' (by omega)
        obtain ⟨a1, a2, a3, a4, a5, a6, a7, a8⟩ := id hg
        have hu0 : s % 2 * u ≤ u := by
          have : s % 2 * u ≤ 1 * u := Int.mul_le_mul_of_nonneg_right (by omega) (by omega)
          omega
        have hu1 : 0 ≤ s % 2 * u := Int.mul_nonneg (by omega) (by omega)
        have hsu : s ≤ 9223372036854775808 := by
          have : s * 1 ≤ s * u := Int.mul_le_mul_of_nonneg_left (by omega) a1
          omega
        have f1 : IntKind.u64.wrap (s.tmod 2) = s % 2 := by rw [Int.tmod_eq_emod_of_nonneg (by omega), wrapU (by omega) (by omega)]
        have f1' : s.tmod 2 = s % 2 := Int.tmod_eq_emod_of_nonneg (by omega)
        have f2 : IntKind.u64.wrap (s.tdiv 2) = s / 2 := by rw [Int.tdiv_eq_ediv_of_nonneg (by omega), wrapU (by omega) (by omega)]
        have f3 : wrap64 (e + 1) = e + 1 := wrapI (by omega) (by omega)
        have f4 : IntKind.u64.wrap (s % 2 * u) = s % 2 * u := wrapU (by omega) (by omega)
        have f5 : IntKind.u64.wrap (l + s % 2 * u) = l + s % 2 * u := wrapU (by omega) (by omega)
        have f6 : IntKind.u64.wrap (u * 2) = u * 2 := wrapU (by omega) (by omega)
        have f7 : (s / 2).toNat < s.toNat := by omega
        clear b0 HM' HZ' q1 q2 a1 a2 a3 a4 a5 a6 a7 a8 hu0 hu1 hsu hg hg0 HB HM HZ
        go_wp2_with (first | (go_at_call 31; refine (hful _).mono ?_; rintro e w' ⟨rfl, rfl⟩))
        simp only [f3]
        exact ⟨⟨_, _, _, _, rfl, rfl, rfl, rfl, j2⟩, f7⟩
      · obtain ⟨r, r1, r2, r3, r4, r5, r6⟩ := GS_end z HZ' HM' s e l u hg (by omega)
        obtain ⟨a1, a2, a3, a4, a5, a6, a7, a8⟩ := id hg
        have hu9 : u ≤ 9223372036854775808 := by
          rw [a5]
          have h1 : 2 ^ e.toNat ≤ 2 ^ 63 := Nat.pow_le_pow_right (by decide) (by omega)
          have h2 : (2 : Nat) ^ 63 = 9223372036854775808 := by decide
          omega
        have hjo := rjoin_S true (zr single z) r4 (r : Int) e (by omega) (by omega) a2 (by omega) r5
        have f1 : IntKind.u64.wrap (2 * l) = 2 * l ∨ (IntKind.u64.wrap (2 * l) = 2 * l) := Or.inl (wrapU (by omega) (by omega))
        have f2 : IntKind.u64.wrap (2 * l) = 2 * l := wrapU (by omega) (by omega)
        have f3 : s.tmod 2 = s % 2 := Int.tmod_eq_emod_of_nonneg (by omega)
        have f4 : IntKind.u64.wrap (s + 1) = s + 1 := wrapU (by omega) (by omega)
        rw [← hX] at r6
        rw [← hZ] at hjo
        by_cases c1 : u < 2 * l
        · rw [if_pos (Or.inl c1)] at r1
          rw [r1] at hjo
          clear b0 HM' HZ' a1 a2 a3 a4 a5 a6 a7 a8 hu9 r1 r2 r3 r4 r5 f1 hg hg0 HB HM HZ hZ hX
          go_wp2_with (first | (go_at_call 31; refine (hful _).mono ?_; rintro e w' ⟨rfl, rfl⟩) | (go_at_call 32; refine (hjo _).mono ?_; rintro e w' ⟨rfl, g1⟩))
          exact bodyPost_ret (v := .tuple #[.int .u64 Z, .bool (l == 0)]) (by simp [results, Try.results13, go_sem] <;> simp only [*]) rfl ⟨(by rw [r6]), (by repeat (with_reducible (first | assumption | exact Grown.refl _ | apply Grown.drew | apply Grown.alloc | apply gdrewN | (refine gtrans ?_ (by assumption)))))⟩
        · by_cases c2 : u = 2 * l ∧ s % 2 = 1
          · rw [if_pos (Or.inr c2)] at r1
            rw [r1] at hjo
            obtain ⟨c2, c3⟩ := c2
            have t2 : (2 * l == u) = true := by simp; omega
            have t3 : (s % 2 == 1) = true := by simp; omega
            clear b0 HM' HZ' a1 a2 a3 a4 a5 a6 a7 a8 hu9 r1 r2 r3 r4 r5 f1 hg hg0 HB HM HZ hZ hX c2 c3
            go_wp2_with (first | (go_at_call 31; refine (hful _).mono ?_; rintro e w' ⟨rfl, rfl⟩) | (go_at_call 32; refine (hjo _).mono ?_; rintro e w' ⟨rfl, g1⟩))
            exact bodyPost_ret (v := .tuple #[.int .u64 Z, .bool (l == 0)]) (by simp [results, Try.results13, go_sem] <;> simp only [*]) rfl ⟨(by rw [r6]), (by repeat (with_reducible (first | assumption | exact Grown.refl _ | apply Grown.drew | apply Grown.alloc | apply gdrewN | (refine gtrans ?_ (by assumption)))))⟩
          · rw [if_neg (fun hh => hh.elim c1 c2)] at r1
            rw [r1] at hjo
            by_cases c3 : 2 * l = u
            · have t2 : (2 * l == u) = true := by simp; omega
              have t3 : (s % 2 == 1) = false := by simp; omega
              clear b0 HM' HZ' a1 a2 a3 a4 a5 a6 a7 a8 hu9 r1 r2 r3 r4 r5 f1 hg hg0 HB HM HZ hZ hX c2 c3
              go_wp2_with (first | (go_at_call 31; refine (hful _).mono ?_; rintro e w' ⟨rfl, rfl⟩) | (go_at_call 32; refine (hjo _).mono ?_; rintro e w' ⟨rfl, g1⟩))
              exact bodyPost_ret (v := .tuple #[.int .u64 Z, .bool (l == 0)]) (by simp [results, Try.results13, go_sem] <;> simp only [*]) rfl ⟨(by rw [r6]), (by repeat (with_reducible (first | assumption | exact Grown.refl _ | apply Grown.drew | apply Grown.alloc | apply gdrewN | (refine gtrans ?_ (by assumption)))))⟩
            · have t2 : (2 * l == u) = false := by simp; omega
              clear b0 HM' HZ' a1 a2 a3 a4 a5 a6 a7 a8 hu9 r1 r2 r3 r4 r5 f1 hg hg0 HB HM HZ hZ hX c2 c3
              go_wp2_with (first | (go_at_call 31; refine (hful _).mono ?_; rintro e w' ⟨rfl, rfl⟩) | (go_at_call 32; refine (hjo _).mono ?_; rintro e w' ⟨rfl, g1⟩))
              exact bodyPost_ret (v := .tuple #[.int .u64 Z, .bool (l == 0)]) (by simp [results, Try.results13, go_sem] <;> simp only [*]) rfl ⟨(by rw [r6]), (by repeat (with_reducible (first | assumption | exact Grown.refl _ | apply Grown.drew | apply Grown.alloc | apply gdrewN | (refine gtrans ?_ (by assumption)))))⟩

  · have hg0 : GS z.natAbs z 0 0 1 := ⟨by omega, by omega, by omega, by omega, rfl, by omega, Or.inl rfl, by omega⟩
    have n1 : decide (z < 0) = false := by simp [cn]
    have n2 : IntKind.u64.wrap z = z := wrapU (by omega) (by omega)
    rw [n1] at hZ
    clear hB h1 h2 cz cn
    go_enter Try.func13, Try.ntmps13
    go_wp2
    go_loop [7, 8, 9, 10] (fun a b c d => ∃ s e l u : Int, a = .int .u64 s ∧ b = .int .i64 e ∧ c = .int .u64 l ∧ d = .int .u64 u ∧ GS z.natAbs s e l u) (fun a _ _ _ => (intOf a).toNat)
    case atStart => exact ⟨_, _, _, _, rfl, rfl, rfl, rfl, hg0⟩
    case round =>
      obtain ⟨s, e, l, u, rfl, rfl, rfl, rfl, hg⟩ := hrel
      have b0 := HB.out
      have HM' := HM.out
      have HZ' := HZ.out
      by_cases k1 : 2 * B ≤ s
      · have j2 := GS_step z.natAbs s e l u hg HM' (by omega)
        obtain ⟨q1, q2⟩ := GS_bound z.natAbs s e l u hg HM' (by omega)
        obtain ⟨a1, a2, a3, a4, a5, a6, a7, a8⟩ := id hg
        have hu0 : s % 2 * u ≤ u := by
          have : s % 2 * u ≤ 1 * u := Int.mul_le_mul_of_nonneg_right (by omega) (by omega)
          omega
        have hu1 : 0 ≤ s % 2 * u := Int.mul_nonneg (by omega) (by omega)
        have hsu : s ≤ 9223372036854775808 := by
          have : s * 1 ≤ s * u := Int.mul_le_mul_of_nonneg_left (by omega) a1
          omega
        have f1 : IntKind.u64.wrap (s.tmod 2) = s % 2 := by rw [Int.tmod_eq_emod_of_nonneg (by omega), wrapU (by omega) (by omega)]
        have f1' : s.tmod 2 = s % 2 := Int.tmod_eq_emod_of_nonneg (by omega)
        have f2 : IntKind.u64.wrap (s.tdiv 2) = s / 2 := by rw [Int.tdiv_eq_ediv_of_nonneg (by omega), wrapU (by omega) (by omega)]
        have f3 : wrap64 (e + 1) = e + 1 := wrapI (by omega) (by omega)
        have f4 : IntKind.u64.wrap (s % 2 * u) = s % 2 * u := wrapU (by omega) (by omega)
        have f5 : IntKind.u64.wrap (l + s % 2 * u) = l + s % 2 * u := wrapU (by omega) (by omega)
        have f6 : IntKind.u64.wrap (u * 2) = u * 2 := wrapU (by omega) (by omega)
        have f7 : (s / 2).toNat < s.toNat := by omega
        clear b0 HM' HZ' q1 q2 a1 a2 a3 a4 a5 a6 a7 a8 hu0 hu1 hsu hg hg0 HB HM HZ
        go_wp2_with (first | (go_at_call 31; refine (hful _).mono ?_; rintro e w' ⟨rfl, rfl⟩))
        simp only [f3]
        exact ⟨⟨_, _, _, _, rfl, rfl, rfl, rfl, j2⟩, f7⟩
      · obtain ⟨r, r1, r2, r3, r4, r5, r6⟩ := GS_end z HZ' HM' s e l u hg (by omega)
        obtain ⟨a1, a2, a3, a4, a5, a6, a7, a8⟩ := id hg
        have hu9 : u ≤ 9223372036854775808 := by
          rw [a5]
          have h1 : 2 ^ e.toNat ≤ 2 ^ 63 := Nat.pow_le_pow_right (by decide) (by omega)
          have h2 : (2 : Nat) ^ 63 = 9223372036854775808 := by decide
          omega
        have hjo := rjoin_S false (zr single z) r4 (r : Int) e (by omega) (by omega) a2 (by omega) r5
        have f1 : IntKind.u64.wrap (2 * l) = 2 * l ∨ (IntKind.u64.wrap (2 * l) = 2 * l) := Or.inl (wrapU (by omega) (by omega))
        have f2 : IntKind.u64.wrap (2 * l) = 2 * l := wrapU (by omega) (by omega)
        have f3 : s.tmod 2 = s % 2 := Int.tmod_eq_emod_of_nonneg (by omega)
        have f4 : IntKind.u64.wrap (s + 1) = s + 1 := wrapU (by omega) (by omega)
        rw [← hX] at r6
        rw [← hZ] at hjo
        by_cases c1 : u < 2 * l
        · rw [if_pos (Or.inl c1)] at r1
          rw [r1] at hjo
          clear b0 HM' HZ' a1 a2 a3 a4 a5 a6 a7 a8 hu9 r1 r2 r3 r4 r5 f1 hg hg0 HB HM HZ hZ hX
          go_wp2_with (first | (go_at_call 31; refine (hful _).mono ?_; rintro e w' ⟨rfl, rfl⟩) | (go_at_call 32; refine (hjo _).mono ?_; rintro e w' ⟨rfl, g1⟩))
          exact bodyPost_ret (v := .tuple #[.int .u64 Z, .bool (l == 0)]) (by simp [results, Try.results13, go_sem] <;> simp only [*]) rfl ⟨(by rw [r6]), (by repeat (with_reducible (first | assumption | exact Grown.refl _ | apply Grown.drew | apply Grown.alloc | apply gdrewN | (refine gtrans ?_ (by assumption)))))⟩
        · by_cases c2 : u = 2 * l ∧ s % 2 = 1
          · rw [if_pos (Or.inr c2)] at r1
            rw [r1] at hjo
            obtain ⟨c2, c3⟩ := c2
            have t2 : (2 * l == u) = true := by simp; omega
            have t3 : (s % 2 == 1) = true := by simp; omega
            clear b0 HM' HZ' a1 a2 a3 a4 a5 a6 a7 a8 hu9 r1 r2 r3 r4 r5 f1 hg hg0 HB HM HZ hZ hX c2 c3
            go_wp2_with (first | (go_at_call 31; refine (hful _).mono ?_; rintro e w' ⟨rfl, rfl⟩) | (go_at_call 32; refine (hjo _).mono ?_; rintro e w' ⟨rfl, g1⟩))
            exact bodyPost_ret (v := .tuple #[.int .u64 Z, .bool (l == 0)]) (by simp [results, Try.results13, go_sem] <;> simp only [*]) rfl ⟨(by rw [r6]), (by repeat (with_reducible (first | assumption | exact Grown.refl _ | apply Grown.drew | apply Grown.alloc | apply gdrewN | (refine gtrans ?_ (by assumption)))))⟩
          · rw [if_neg (fun hh => hh.elim c1 c2)] at r1
            rw [r1] at hjo
            by_cases c3 : 2 * l = u
            · have t2 : (2 * l == u) = true := by simp; omega
              have t3 : (s % 2 == 1) = false := by simp; omega
              clear b0 HM' HZ' a1 a2 a3 a4 a5 a6 a7 a8 hu9 r1 r2 r3 r4 r5 f1 hg hg0 HB HM HZ hZ hX c2 c3
              go_wp2_with (first | (go_at_call 31; refine (hful _).mono ?_; rintro e w' ⟨rfl, rfl⟩) | (go_at_call 32; refine (hjo _).mono ?_; rintro e w' ⟨rfl, g1⟩))
              exact bodyPost_ret (v := .tuple #[.int .u64 Z, .bool (l == 0)]) (by simp [results, Try.results13, go_sem] <;> simp only [*]) rfl ⟨(by rw [r6]), (by repeat (with_reducible (first | assumption | exact Grown.refl _ | apply Grown.drew | apply Grown.alloc | apply gdrewN | (refine gtrans ?_ (by assumption)))))⟩
            · have t2 : (2 * l == u) = false := by simp; omega
              clear b0 HM' HZ' a1 a2 a3 a4 a5 a6 a7 a8 hu9 r1 r2 r3 r4 r5 f1 hg hg0 HB HM HZ hZ hX c2 c3
              go_wp2_with (first | (go_at_call 31; refine (hful _).mono ?_; rintro e w' ⟨rfl, rfl⟩) | (go_at_call 32; refine (hjo _).mono ?_; rintro e w' ⟨rfl, g1⟩))
              exact bodyPost_ret (v := .tuple #[.int .u64 Z, .bool (l == 0)]) (by simp [results, Try.results13, go_sem] <;> simp only [*]) rfl ⟨(by rw [r6]), (by repeat (with_reducible (first | assumption | exact Grown.refl _ | apply Grown.drew | apply Grown.alloc | apply gdrewN | (refine gtrans ?_ (by assumption)))))⟩

end Go.Proofs.Ytkjcdhbhhiaaiaa
