import Derived.Test.YtbdeppdjelcioaaDoorProg
import Derived.Test.YtbdeppdjelcioaaDoorM
import Derived.Test.YtbdeppdjelcioaaDoorM5
import Derived.Test.YtbdeppdjelcioaaDoorA
import Derived.Test.YtbdeppdjelcioaaDoorMJ
import Derived.Test.YtbdeppdjelcioaaDoorMG
import Derived.Test.YtbdeppdjelcioaaDoorMR
import Derived.Test.YtbdeppdjelcioaaDoorRS
import Derived.Test.YtbdeppdjelcioaaDoorSS
import Derived.WalkKit
import Derived.ProofKit
import Derived.RowKit3
import Derived.Deep.RegionHeld3
import Derived.WalkSpells
import Derived.StillTactics
import Derived.Laws.FloatArith
import Derived.Deep.QuietTactic
import Derived.BigQuiet
import Derived.Below
namespace Go.Proofs.YtbdeppdjelcioaaDoor
open Go.RowKit
set_option maxRecDepth 20000 in
set_option maxHeartbeats 1000000 in
theorem rjz_S (neg : Bool) (e : Int) (w : World) : Calls Tryd.prog 24 #[.bool false, .bool neg, .int .u64 0, .int .i64 e] w fun e w' => e = .returned (.tuple #[.int .u64 0, .bool true]) ∧ w' = w := by
  go_enter Tryd.func24, Tryd.ntmps24
  go_wp2
  exact bodyPost_ret (v := .tuple #[.int .u64 0, .bool true]) (by simp [results, Tryd.results24, go_sem] <;> simp only [*]) rfl ⟨rfl, rfl⟩

set_option maxRecDepth 20000 in
set_option maxHeartbeats 1500000 in
theorem rjg_S (neg : Bool) (o k : Nat) (ho : o % 2 = 1) (hx : o * 2 ^ k < 18446744073709551616) (e : Int) (he1 : -9223372036854775808 ≤ e) (he2 : e < 9223372036854775808) (q : Bool) (hq : jokS o (e + k) = q) (Z : Int) (hZ : Z = if q then ((wS neg (jrS o (e + k)) : Nat) : Int) else 0) (w : World) :
    Calls Tryd.prog 24 #[.bool false, .bool neg, .int .u64 ((o * 2 ^ k : Nat) : Int), .int .i64 e] w fun e w' => e = .returned (.tuple #[.int .u64 Z, .bool q]) ∧ Grown w w' := by
  have hp := Nat.two_pow_pos k
  have h64 : o < 18446744073709551616 := Nat.lt_of_le_of_lt (Nat.le_mul_of_pos_right o hp) hx
  have hk : k < 64 := by
    have e64 : (2 : Nat) ^ 64 = 18446744073709551616 := by decide
    have h1 : 2 ^ k ≤ o * 2 ^ k := Nat.le_mul_of_pos_left _ (by omega)
    exact (Nat.pow_lt_pow_iff_right (by decide : 1 < 2)).1 (Nat.lt_of_le_of_lt h1 (by rw [e64]; exact hx))
  have hj : A1 o k e ((o * 2 ^ k : Nat) : Int) e 0 := ⟨by omega, by omega, by omega, by omega, rfl⟩
  have hpos : 0 < o * 2 ^ k := Nat.mul_pos (by omega) hp
  obtain ⟨s0, hs0⟩ : ∃ s0 : Int, s0 = ((o * 2 ^ k : Nat) : Int) := ⟨_, rfl⟩
  rw [← hs0] at hj ⊢
  obtain ⟨B, hB⟩ : ∃ B : Int, B = 8388608 := ⟨_, rfl⟩
  have hful : ∀ w : World, Calls Tryd.prog 56 #[.bool false] w fun e w' => e = .returned (.int .u64 B) ∧ w' = w := by rw [hB]; exact rfull_S
  have d1 : (s0 == 0) = false := by simp; omega
  have d2 : IntKind.u64.wrap (2 * B) = 2 * B := wrapU (by omega) (by omega)
  have HB : Hid (B = 8388608) := hB
  have HX : Hid (o * 2 ^ k < 18446744073709551616) := hx
  have HQ : Hid (jokS o (e + k) = q) := hq
  have HZ : Hid (Z = if q then ((wS neg (jrS o (e + k)) : Nat) : Int) else 0) := hZ
  have HO : Hid (o % 2 = 1 ∧ o < 18446744073709551616 ∧ k < 64) := ⟨ho, h64, hk⟩
  have HE : Hid (-9223372036854775808 ≤ e ∧ e < 9223372036854775808) := ⟨he1, he2⟩
  have hbz : q = true → ∀ w : World, Calls Tryd.prog 59 #[.bool false, .agg #[.int .i64 0, .bool neg, .int .u64 ((sgS (jrS o (e + k)) : Nat) : Int), .int .i64 (epS (jrS o (e + k)))]] w fun e w' => e = .returned (.int .u64 Z) ∧ Grown w w' := fun hq' => by
    obtain ⟨r1, r2, r3, r4⟩ := jrS_spec o (by omega) h64 (e + k) (by rw [hq, hq'])
    have hb := rbits_S neg (jrS o (e + k)) (by omega)
    have hkd : kdS (jrS o (e + k)) = 0 := by unfold kdS kdG; rw [if_pos r2]
    rw [hkd] at hb
    rw [hZ, hq', if_pos rfl]
    exact hb
  have HBZ : Hid (q = true → ∀ w : World, Calls Tryd.prog 59 #[.bool false, .agg #[.int .i64 0, .bool neg, .int .u64 ((sgS (jrS o (e + k)) : Nat) : Int), .int .i64 (epS (jrS o (e + k)))]] w fun e w' => e = .returned (.int .u64 Z) ∧ Grown w w') := hbz
  clear hB hs0 hpos hp h64 hk hx hq hZ ho he1 he2 hbz
  go_enter Tryd.func24, Tryd.ntmps24
  go_wp2_with (first | (go_at_call 56; refine (hful _).mono ?_; rintro e w' ⟨rfl, rfl⟩))
  go_loop [2, 3, 11] (fun a b c => ∃ s x i : Int, a = .int .u64 s ∧ b = .int .i64 x ∧ c = .int .i64 i ∧ A1 o k e s x i) (fun _ _ c => (64 - intOf c).toNat)
  case atStart => exact ⟨_, _, _, rfl, rfl, rfl, hj⟩
  case round =>
    obtain ⟨s, x, i, rfl, rfl, rfl, hj1⟩ := hrel
    clear hj d1
    have hx := HX.out
    obtain ⟨ho, h64, hk⟩ := HO.out
    have hq := HQ.out
    have hZ := HZ.out
    obtain ⟨he1, he2⟩ := HE.out
    have b0 := HB.out
    obtain ⟨s1, s2⟩ := A1_bd o k hx e s x i hj1
    obtain ⟨a1, a2, a3, a4, a5⟩ := id hj1
    have ci : i < 64 := by omega
    by_cases c2 : s % 2 = 0
    · have f1 : (s.tmod 2 == 0) = true := by rw [Int.tmod_eq_emod_of_nonneg (by omega)]; simp [c2]
      by_cases c3 : x < 9223372036854775807
      · obtain ⟨j2, j3⟩ := A1_step o k ho e s x i hj1 c2 c3
        have f2 : IntKind.u64.wrap (s.tdiv 2) = s / 2 := by rw [Int.tdiv_eq_ediv_of_nonneg (by omega), wrapU (by omega) (by omega)]
        have f3 : wrap64 (x + 1) = x + 1 := wrapI (by omega) (by omega)
        have f4 : wrap64 (i + 1) = i + 1 := wrapI (by omega) (by omega)
        have f5 : decide (x < 9223372036854775807) = true := by simp; omega
        have f6 : (64 - (i + 1)).toNat < (64 - i).toNat := by omega
        clear hj1 a1 a2 a3 a4 a5 c2 hx HB d2 s1 s2 ho h64 hk hq hZ he1 he2 b0 HX HQ HZ HO HE HBZ j3
        go_wp2
        simp only [f3, f4]
        exact ⟨⟨_, _, _, rfl, rfl, rfl, j2⟩, f6⟩
      · -- the exponent is the greatest int
        have hqf : q = false := by rw [← hq]; exact jlenS o ho h64 (e + k) (Or.inr (Or.inr (by omega)))
        have f5 : decide (x < 9223372036854775807) = false := by simp; omega
        have hZ0 : Z = 0 := by rw [hZ, hqf]; rfl
        subst hqf
        subst hZ0
        have t2 : decide (x < -149) = false := by simp; omega
        have t3 : decide (168 < x) = true := by simp; omega
        have t4 : ¬ (x < -149) := by omega
        have t5 : 168 < x := by omega
        by_cases c4 : 2 * B ≤ s
        · clear hj1 a1 a2 a3 a4 a5 c2 hx HB s1 s2 ho h64 hk hq hZ he1 he2 b0 HX HQ HZ HO HE HBZ
          go_wp2_with (first | (go_at_call 57; refine (rleast_S _).mono ?_; rintro e w' ⟨rfl, rfl⟩) | (go_at_call 58; refine (rtop_S _).mono ?_; rintro e w' ⟨rfl, rfl⟩))
          exact bodyPost_ret (v := .tuple #[.int .u64 0, .bool false]) (by simp [results, Tryd.results24, go_sem] <;> simp only [*]) rfl ⟨rfl, (by repeat (with_reducible (first | assumption | exact Grown.refl _ | apply Grown.drew | apply Grown.alloc | apply gdrewN | (refine gtrans ?_ (by assumption)))))⟩
        · clear hj1 a1 a2 a3 a4 a5 c2 hx HB s1 s2 ho h64 hk hq hZ he1 he2 b0 HX HQ HZ HO HE HBZ
          go_wp2_with (first | (go_at_call 57; refine (rleast_S _).mono ?_; rintro e w' ⟨rfl, rfl⟩) | (go_at_call 58; refine (rtop_S _).mono ?_; rintro e w' ⟨rfl, rfl⟩))
          exact bodyPost_ret (v := .tuple #[.int .u64 0, .bool false]) (by simp [results, Tryd.results24, go_sem] <;> simp only [*]) rfl ⟨rfl, (by repeat (with_reducible (first | assumption | exact Grown.refl _ | apply Grown.drew | apply Grown.alloc | apply gdrewN | (refine gtrans ?_ (by assumption)))))⟩
    · have f1 : (s.tmod 2 == 0) = false := by rw [Int.tmod_eq_emod_of_nonneg (by omega)]; simp; omega
      obtain ⟨hso, hxe⟩ := A1_odd o k e s x i hj1 c2
      by_cases cx : 2 * B ≤ s ∨ x < -149 ∨ 168 < x
      · have hqf : q = false := by rw [← hq]; exact jlenS o ho h64 (e + k) (by omega)
        have hZ0 : Z = 0 := by rw [hZ, hqf]; rfl
        subst hqf
        subst hZ0
        by_cases c4 : 2 * B ≤ s
        · clear hj1 a1 a2 a3 a4 a5 c2 hx HB s1 s2 ho h64 hk hq hZ he1 he2 b0 HX HQ HZ HO HE HBZ hxe cx hso
          go_wp2_with (first | (go_at_call 57; refine (rleast_S _).mono ?_; rintro e w' ⟨rfl, rfl⟩) | (go_at_call 58; refine (rtop_S _).mono ?_; rintro e w' ⟨rfl, rfl⟩))
          exact bodyPost_ret (v := .tuple #[.int .u64 0, .bool false]) (by simp [results, Tryd.results24, go_sem] <;> simp only [*]) rfl ⟨rfl, (by repeat (with_reducible (first | assumption | exact Grown.refl _ | apply Grown.drew | apply Grown.alloc | apply gdrewN | (refine gtrans ?_ (by assumption)))))⟩
        · by_cases c5 : x < -149
          · clear hj1 a1 a2 a3 a4 a5 c2 hx HB s1 s2 ho h64 hk hq hZ he1 he2 b0 HX HQ HZ HO HE HBZ hxe cx hso
            go_wp2_with (first | (go_at_call 57; refine (rleast_S _).mono ?_; rintro e w' ⟨rfl, rfl⟩) | (go_at_call 58; refine (rtop_S _).mono ?_; rintro e w' ⟨rfl, rfl⟩))
            exact bodyPost_ret (v := .tuple #[.int .u64 0, .bool false]) (by simp [results, Tryd.results24, go_sem] <;> simp only [*]) rfl ⟨rfl, (by repeat (with_reducible (first | assumption | exact Grown.refl _ | apply Grown.drew | apply Grown.alloc | apply gdrewN | (refine gtrans ?_ (by assumption)))))⟩
          · have c6 : 168 < x := by omega
            clear hj1 a1 a2 a3 a4 a5 c2 hx HB s1 s2 ho h64 hk hq hZ he1 he2 b0 HX HQ HZ HO HE HBZ hxe cx hso
            go_wp2_with (first | (go_at_call 57; refine (rleast_S _).mono ?_; rintro e w' ⟨rfl, rfl⟩) | (go_at_call 58; refine (rtop_S _).mono ?_; rintro e w' ⟨rfl, rfl⟩))
            exact bodyPost_ret (v := .tuple #[.int .u64 0, .bool false]) (by simp [results, Tryd.results24, go_sem] <;> simp only [*]) rfl ⟨rfl, (by repeat (with_reducible (first | assumption | exact Grown.refl _ | apply Grown.drew | apply Grown.alloc | apply gdrewN | (refine gtrans ?_ (by assumption)))))⟩
      · have c4 : ¬ (2 * B ≤ s) := by omega
        have c5 : ¬ (x < -149) := by omega
        have c6 : ¬ (168 < x) := by omega
        have j0 : A2S o (e + k) s x := ⟨0, by rw [Nat.pow_zero, Nat.mul_one]; exact hso, by omega, by omega, by omega⟩
        have HC : Hid (o < 16777216 ∧ -149 ≤ e + k ∧ e + k ≤ 168) := (by omega : o < 16777216 ∧ -149 ≤ e + k ∧ e + k ≤ 168)
        clear hj1 a1 a2 a3 a4 a5 c2 hx s1 s2 ho h64 hk hq hZ he1 he2 b0 cx hxe hso
        go_wp2_with (first | (go_at_call 57; refine (rleast_S _).mono ?_; rintro e w' ⟨rfl, rfl⟩) | (go_at_call 58; refine (rtop_S _).mono ?_; rintro e w' ⟨rfl, rfl⟩))
        go_loop [2, 3] (fun a b => ∃ s x : Int, a = .int .u64 s ∧ b = .int .i64 x ∧ A2S o (e + k) s x) (fun _ b => (intOf b + 149).toNat)
        case atStart => exact ⟨_, _, rfl, rfl, j0⟩
        case round =>
          clear j0 c4 c5 c6 ci d2 f1
          obtain ⟨s, x, rfl, rfl, hj2⟩ := hrel
          have b0 := HB.out
          obtain ⟨ho, h64, hk⟩ := HO.out
          have hq := HQ.out
          have hZ := HZ.out
          obtain ⟨h1, h2, h3⟩ := HC.out
          have hbz := HBZ.out
          obtain ⟨j, a1, a2, a3, a4⟩ := id hj2
          by_cases k1 : s < B
          · by_cases k2 : -149 < x
            · have j2 := A2S_step o (e + k) s x hj2 (by omega) k2
              have f2 : IntKind.u64.wrap (s * 2) = s * 2 := wrapU (by omega) (by omega)
              have f3 : wrap64 (x - 1) = x - 1 := wrapI (by omega) (by omega)
              have f4 : (x - 1 + 149).toNat < (x + 149).toNat := by omega
              clear b0 a1 a2 a3 a4 hj2 ho h64 hk hq hZ h1 h2 h3 hbz HB HX HQ HZ HO HE HBZ HC
              go_wp2_with (first | (go_at_call 57; refine (rleast_S _).mono ?_; rintro e w' ⟨rfl, rfl⟩))
              simp only [f3]
              exact ⟨⟨_, _, rfl, rfl, j2⟩, f4⟩
            · cases q
              · have hT := A2S_endx o ho h64 (e + k) s x hj2 hq h1 h2
                have hZ0 : Z = 0 := hZ
                subst hZ0
                have t1 : 104 < x := hT
                clear b0 a1 a2 a3 a4 hj2 ho h64 hk hq hZ h1 h2 h3 hbz HB HX HQ HZ HO HE HBZ HC hT
                go_wp2_with (first | (go_at_call 57; refine (rleast_S _).mono ?_; rintro e w' ⟨rfl, rfl⟩) | (go_at_call 58; refine (rtop_S _).mono ?_; rintro e w' ⟨rfl, rfl⟩))
                all_goals (exact bodyPost_ret (v := .tuple #[.int .u64 0, .bool false]) (by simp [results, Tryd.results24, go_sem] <;> simp only [*]) rfl ⟨rfl, (by repeat (with_reducible (first | assumption | exact Grown.refl _ | apply Grown.drew | apply Grown.alloc | apply gdrewN | (refine gtrans ?_ (by assumption)))))⟩)
              · obtain ⟨e1, e2, e3, e4⟩ := A2S_end o ho h64 (e + k) s x hj2 (Or.inr k2) hq
                have hbi := hbz rfl
                rw [← e1, ← e2] at hbi
                have t1 : ¬ (104 < x) := Int.not_lt.mpr e4
                clear b0 a1 a2 a3 a4 hj2 ho h64 hk hq hZ h1 h2 h3 hbz HB HX HQ HZ HO HE HBZ HC e1 e2 e3 e4
                go_wp2_with (first | (go_at_call 57; refine (rleast_S _).mono ?_; rintro e w' ⟨rfl, rfl⟩) | (go_at_call 58; refine (rtop_S _).mono ?_; rintro e w' ⟨rfl, rfl⟩) | (go_at_call 59; refine (hbi _).mono ?_; rintro e w' ⟨rfl, g1⟩))
                exact bodyPost_ret (v := .tuple #[.int .u64 Z, .bool true]) (by simp [results, Tryd.results24, go_sem] <;> simp only [*]) rfl ⟨rfl, (by repeat (with_reducible (first | assumption | exact Grown.refl _ | apply Grown.drew | apply Grown.alloc | apply gdrewN | (refine gtrans ?_ (by assumption)))))⟩
          · cases q
            · have hT := A2S_endx o ho h64 (e + k) s x hj2 hq h1 h2
              have hZ0 : Z = 0 := hZ
              subst hZ0
              have t1 : 104 < x := hT
              clear b0 a1 a2 a3 a4 hj2 ho h64 hk hq hZ h1 h2 h3 hbz HB HX HQ HZ HO HE HBZ HC hT
              go_wp2_with (first | (go_at_call 57; refine (rleast_S _).mono ?_; rintro e w' ⟨rfl, rfl⟩) | (go_at_call 58; refine (rtop_S _).mono ?_; rintro e w' ⟨rfl, rfl⟩))
              all_goals (exact bodyPost_ret (v := .tuple #[.int .u64 0, .bool false]) (by simp [results, Tryd.results24, go_sem] <;> simp only [*]) rfl ⟨rfl, (by repeat (with_reducible (first | assumption | exact Grown.refl _ | apply Grown.drew | apply Grown.alloc | apply gdrewN | (refine gtrans ?_ (by assumption)))))⟩)
            · obtain ⟨e1, e2, e3, e4⟩ := A2S_end o ho h64 (e + k) s x hj2 (Or.inl (by rw [← b0]; exact k1)) hq
              have hbi := hbz rfl
              rw [← e1, ← e2] at hbi
              have t1 : ¬ (104 < x) := Int.not_lt.mpr e4
              clear b0 a1 a2 a3 a4 hj2 ho h64 hk hq hZ h1 h2 h3 hbz HB HX HQ HZ HO HE HBZ HC e1 e2 e3 e4
              go_wp2_with (first | (go_at_call 57; refine (rleast_S _).mono ?_; rintro e w' ⟨rfl, rfl⟩) | (go_at_call 58; refine (rtop_S _).mono ?_; rintro e w' ⟨rfl, rfl⟩) | (go_at_call 59; refine (hbi _).mono ?_; rintro e w' ⟨rfl, g1⟩))
              exact bodyPost_ret (v := .tuple #[.int .u64 Z, .bool true]) (by simp [results, Tryd.results24, go_sem] <;> simp only [*]) rfl ⟨rfl, (by repeat (with_reducible (first | assumption | exact Grown.refl _ | apply Grown.drew | apply Grown.alloc | apply gdrewN | (refine gtrans ?_ (by assumption)))))⟩
end Go.Proofs.YtbdeppdjelcioaaDoor
