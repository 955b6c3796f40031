import Derived.Test.YtkjcdhbhhiaaiaaProg
import Derived.Test.YtkjcdhbhhiaaiaaM
import Derived.Test.YtkjcdhbhhiaaiaaM5
import Derived.Test.YtkjcdhbhhiaaiaaM6
import Derived.Test.YtkjcdhbhhiaaiaaM7
import Derived.Test.YtkjcdhbhhiaaiaaA
import Derived.Test.YtkjcdhbhhiaaiaaRD
import Derived.Test.YtkjcdhbhhiaaiaaRS
import Derived.Test.YtkjcdhbhhiaaiaaSD
import Derived.Test.YtkjcdhbhhiaaiaaSS
import Derived.WalkKit
import Derived.ProofKit
import Derived.RowKit3
import Derived.Deep.RegionHeld3
import Derived.WalkSpells
import Derived.StillTactics
import Derived.Laws.FloatArith
import Derived.Deep.QuietTactic
import Derived.BigQuiet
import Derived.Below
namespace Go.Proofs.Ytkjcdhbhhiaaiaa
open Go.RowKit
set_option maxRecDepth 20000 in
set_option maxHeartbeats 4000000 in
theorem rjoin_S (neg : Bool) (r : Nat) (hr : r < 2139095040) (s0 x0 : Int) (h1 : 0 < s0) (h2 : s0 ≤ 16777216) (h3 : 0 ≤ x0) (h4 : x0 ≤ 64) (hv : s0.toNat * 2 ^ (x0 + 149).toNat = vlS r) (w : World) :
    Calls Try.prog 32 #[.bool false, .bool neg, .int .u64 s0, .int .i64 x0] w fun e w' => e = .returned (.tuple #[.int .u64 ((wS neg r : Nat) : Int), .bool true]) ∧ Grown w w' := by
  have hj : H1S r s0 x0 0 := ⟨h1, h2, Or.inr rfl, by omega, by omega, by omega, by omega, hv⟩
  obtain ⟨B, hB⟩ : ∃ B : Int, B = 8388608 := ⟨_, rfl⟩
  have hful : ∀ w : World, Calls Try.prog 31 #[.bool false] w fun e w' => e = .returned (.int .u64 B) ∧ w' = w := by rw [hB]; exact rfull_S
  have hbi := rbits_S neg r (by omega)
  obtain ⟨Z, hZ⟩ : ∃ Z : Int, Z = ((wS neg r : Nat) : Int) := ⟨_, rfl⟩
  rw [← hZ] at hbi ⊢
  have d1 : (s0 == 0) = false := by simp; omega
  have d2 : IntKind.u64.wrap (2 * B) = 2 * B := wrapU (by omega) (by omega)
  have HB : Hid (B = 8388608) := hB
  clear h1 h2 h3 h4 hv hZ hB
  go_enter Try.func32, Try.ntmps32
  go_wp2_with (first | (go_at_call 31; refine (hful _).mono ?_; rintro e w' ⟨rfl, rfl⟩))
  go_loop [2, 3, 11] (fun a b c => ∃ s e i : Int, a = .int .u64 s ∧ b = .int .i64 e ∧ c = .int .i64 i ∧ H1S r s e i) (fun _ _ c => (64 - intOf c).toNat)
  case atStart => exact ⟨_, _, _, rfl, rfl, rfl, hj⟩
  case round =>
    obtain ⟨s, e, i, rfl, rfl, rfl, hj1⟩ := hrel
    obtain ⟨a1, a2, a3, a4, a5, a6, a7, a8⟩ := id hj1
    clear hj d1
    by_cases ci : i < 64
    · by_cases c2 : s % 2 = 0
      · have j2 := H1S_step r s e i hj1 ci c2
        have f1 : (s.tmod 2 == 0) = true := by rw [Int.tmod_eq_emod_of_nonneg (by omega)]; simp [c2]
        have f2 : IntKind.u64.wrap (s.tdiv 2) = s / 2 := by rw [Int.tdiv_eq_ediv_of_nonneg (by omega), wrapU (by omega) (by omega)]
        have f3 : wrap64 (e + 1) = e + 1 := wrapI (by omega) (by omega)
        have f4 : wrap64 (i + 1) = i + 1 := wrapI (by omega) (by omega)
        have f5 : decide (e < 9223372036854775807) = true := by simp; omega
        have f6 : (64 - (i + 1)).toNat < (64 - i).toNat := by omega
        clear hj1 a1 a2 a3 a4 a5 a6 a7 a8 c2 hr HB d2
        go_wp2
        simp only [f3, f4]
        exact ⟨⟨_, _, _, rfl, rfl, rfl, j2⟩, f6⟩
      · have j0 := H1S_end r s e i hj1 (Or.inr c2)
        have f1 : (s.tmod 2 == 0) = false := by rw [Int.tmod_eq_emod_of_nonneg (by omega)]; simp; omega
        clear hj1 a1 a2 a3 a4 a5 a6 a7 a8 c2
        have b0 := HB.out
        have t1 : decide (2 * B ≤ s) = false := by have := j0.2.1; simp; omega
        have t2 : decide (e < -149) = false := by have := j0.2.2.1; simp; omega
        have t3 : decide (168 < e) = false := by have := j0.2.2.2.1; simp; omega
        clear b0
        go_wp2_with (first | (go_at_call 59; refine (rleast_S _).mono ?_; rintro e w' ⟨rfl, rfl⟩) | (go_at_call 60; refine (rtop_S _).mono ?_; rintro e w' ⟨rfl, rfl⟩))
        go_loop [2, 3] (fun a b => ∃ s e : Int, a = .int .u64 s ∧ b = .int .i64 e ∧ H2S r s e) (fun _ b => (intOf b + 149).toNat)
        case atStart => exact ⟨_, _, rfl, rfl, j0⟩
        case round =>
          clear j0 t1 t2 t3 ci d2
          obtain ⟨s, e, rfl, rfl, hj2⟩ := hrel
          have b0 := HB.out
          obtain ⟨a1, a2, a3, a4, a5⟩ := id hj2
          by_cases k1 : s < B
          · by_cases k2 : -149 < e
            · have j2 := H2S_step r s e hj2 (by omega) k2
              have f2 : IntKind.u64.wrap (s * 2) = s * 2 := wrapU (by omega) (by omega)
              have f3 : wrap64 (e - 1) = e - 1 := wrapI (by omega) (by omega)
              have f4 : (e - 1 + 149).toNat < (e + 149).toNat := by omega
              clear b0 a1 a2 a3 a4 a5 hj2 hr
              go_wp2_with (first | (go_at_call 59; refine (rleast_S _).mono ?_; rintro e w' ⟨rfl, rfl⟩))
              simp only [f3]
              exact ⟨⟨_, _, rfl, rfl, j2⟩, f4⟩
            · obtain ⟨e1, e2, e3, e4⟩ := H2S_end r hr s e hj2 (Or.inr k2)
              rw [e3, ← e1, ← e2] at hbi
              have t1 : decide (104 < e) = false := by simp; omega
              clear b0 a1 a2 a3 a4 a5 hj2 hr e1 e2 e3 e4
              go_wp2_with (first | (go_at_call 59; refine (rleast_S _).mono ?_; rintro e w' ⟨rfl, rfl⟩) | (go_at_call 60; refine (rtop_S _).mono ?_; rintro e w' ⟨rfl, rfl⟩) | (go_at_call 61; refine (hbi _).mono ?_; rintro e w' ⟨rfl, g1⟩))
              exact bodyPost_ret (v := .tuple #[.int .u64 Z, .bool true]) (by simp [results, Try.results32, go_sem] <;> simp only [*]) rfl ⟨rfl, (by repeat (with_reducible (first | assumption | exact Grown.refl _ | apply Grown.drew | apply Grown.alloc | apply gdrewN | (refine gtrans ?_ (by assumption)))))⟩
          · obtain ⟨e1, e2, e3, e4⟩ := H2S_end r hr s e hj2 (Or.inl (by omega))
            rw [e3, ← e1, ← e2] at hbi
            have t1 : decide (104 < e) = false := by simp; omega
            clear b0 a1 a2 a3 a4 a5 hj2 hr e1 e2 e3 e4
            go_wp2_with (first | (go_at_call 59; refine (rleast_S _).mono ?_; rintro e w' ⟨rfl, rfl⟩) | (go_at_call 60; refine (rtop_S _).mono ?_; rintro e w' ⟨rfl, rfl⟩) | (go_at_call 61; refine (hbi _).mono ?_; rintro e w' ⟨rfl, g1⟩))
            exact bodyPost_ret (v := .tuple #[.int .u64 Z, .bool true]) (by simp [results, Try.results32, go_sem] <;> simp only [*]) rfl ⟨rfl, (by repeat (with_reducible (first | assumption | exact Grown.refl _ | apply Grown.drew | apply Grown.alloc | apply gdrewN | (refine gtrans ?_ (by assumption)))))⟩
    · have j0 := H1S_end r s e i hj1 (Or.inl ci)
      clear hj1 a1 a2 a3 a4 a5 a6 a7 a8
      have b0 := HB.out
      have t1 : decide (2 * B ≤ s) = false := by have := j0.2.1; simp; omega
      have t2 : decide (e < -149) = false := by have := j0.2.2.1; simp; omega
      have t3 : decide (168 < e) = false := by have := j0.2.2.2.1; simp; omega
      clear b0
      go_wp2_with (first | (go_at_call 59; refine (rleast_S _).mono ?_; rintro e w' ⟨rfl, rfl⟩) | (go_at_call 60; refine (rtop_S _).mono ?_; rintro e w' ⟨rfl, rfl⟩))
      go_loop [2, 3] (fun a b => ∃ s e : Int, a = .int .u64 s ∧ b = .int .i64 e ∧ H2S r s e) (fun _ b => (intOf b + 149).toNat)
      case atStart => exact ⟨_, _, rfl, rfl, j0⟩
      case round =>
        clear j0 t1 t2 t3 ci d2
        obtain ⟨s, e, rfl, rfl, hj2⟩ := hrel
        have b0 := HB.out
        obtain ⟨a1, a2, a3, a4, a5⟩ := id hj2
        by_cases k1 : s < B
        · by_cases k2 : -149 < e
          · have j2 := H2S_step r s e hj2 (by omega) k2
            have f2 : IntKind.u64.wrap (s * 2) = s * 2 := wrapU (by omega) (by omega)
            have f3 : wrap64 (e - 1) = e - 1 := wrapI (by omega) (by omega)
            have f4 : (e - 1 + 149).toNat < (e + 149).toNat := by omega
            clear b0 a1 a2 a3 a4 a5 hj2 hr
            go_wp2_with (first | (go_at_call 59; refine (rleast_S _).mono ?_; rintro e w' ⟨rfl, rfl⟩))
            simp only [f3]
            exact ⟨⟨_, _, rfl, rfl, j2⟩, f4⟩
          · obtain ⟨e1, e2, e3, e4⟩ := H2S_end r hr s e hj2 (Or.inr k2)
            rw [e3, ← e1, ← e2] at hbi
            have t1 : decide (104 < e) = false := by simp; omega
            clear b0 a1 a2 a3 a4 a5 hj2 hr e1 e2 e3 e4
            go_wp2_with (first | (go_at_call 59; refine (rleast_S _).mono ?_; rintro e w' ⟨rfl, rfl⟩) | (go_at_call 60; refine (rtop_S _).mono ?_; rintro e w' ⟨rfl, rfl⟩) | (go_at_call 61; refine (hbi _).mono ?_; rintro e w' ⟨rfl, g1⟩))
            exact bodyPost_ret (v := .tuple #[.int .u64 Z, .bool true]) (by simp [results, Try.results32, go_sem] <;> simp only [*]) rfl ⟨rfl, (by repeat (with_reducible (first | assumption | exact Grown.refl _ | apply Grown.drew | apply Grown.alloc | apply gdrewN | (refine gtrans ?_ (by assumption)))))⟩
        · obtain ⟨e1, e2, e3, e4⟩ := H2S_end r hr s e hj2 (Or.inl (by omega))
          rw [e3, ← e1, ← e2] at hbi
          have t1 : decide (104 < e) = false := by simp; omega
          clear b0 a1 a2 a3 a4 a5 hj2 hr e1 e2 e3 e4
          go_wp2_with (first | (go_at_call 59; refine (rleast_S _).mono ?_; rintro e w' ⟨rfl, rfl⟩) | (go_at_call 60; refine (rtop_S _).mono ?_; rintro e w' ⟨rfl, rfl⟩) | (go_at_call 61; refine (hbi _).mono ?_; rintro e w' ⟨rfl, g1⟩))
          exact bodyPost_ret (v := .tuple #[.int .u64 Z, .bool true]) (by simp [results, Try.results32, go_sem] <;> simp only [*]) rfl ⟨rfl, (by repeat (with_reducible (first | assumption | exact Grown.refl _ | apply Grown.drew | apply Grown.alloc | apply gdrewN | (refine gtrans ?_ (by assumption)))))⟩

end Go.Proofs.Ytkjcdhbhhiaaiaa
