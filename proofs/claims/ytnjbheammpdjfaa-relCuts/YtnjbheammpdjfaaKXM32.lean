import Derived.Test.YtnjbheammpdjfaaKXM
import Derived.Test.YtnjbheammpdjfaaKXY
import Derived.Test.YtnjbheammpdjfaaKMR7Q
import Derived.Test.YtnjbheammpdjfaaKXMR
import Derived.Test.YtnjbheammpdjfaaKXM3
import Derived.Test.YtnjbheammpdjfaaKXQF
import Derived.Test.YtnjbheammpdjfaaKXO
import Derived.Test.YtnjbheammpdjfaaKXO3
import Derived.Test.YtnjbheammpdjfaaKXEA
import Derived.Test.YtnjbheammpdjfaaKXEE
import Derived.RowKit
import Derived.Laws.FloatArith
namespace Go.Proofs.Ytnjbheammpdjfaa
open Go.RowKit
/-- a number that 53 bits tell has, from a unit on, the unit as a part -/
theorem FL.part {h : Nat} (hf : FL (h : Int)) (E : Nat) (hE : 0 < E) (hb : 4503599627370496 * 2 ^ E ≤ h) : 2 ^ E ∣ h := by
  have e0 : 4503599627370496 * 2 ^ E = 9007199254740992 * 2 ^ (E - 1) := by
    rw [show E = (E - 1) + 1 from by omega, Nat.pow_succ, show E - 1 + 1 - 1 = E - 1 from by omega]; omega
  by_cases c : h = 4503599627370496 * 2 ^ E
  · rw [c]; exact Nat.dvd_mul_left _ _
  · have g := FL.unit hf (E - 1) (by rw [Int.natAbs_natCast, ← e0]; omega)
    rw [show E - 1 + 1 = E from by omega, ← castpow] at g
    exact Int.natCast_dvd_natCast.1 g
theorem rU_under (d : Int) (A B h : Nat) (hB : 0 < B) (hf : FL (h : Int)) (hle : A ≤ B * h) : rU d 53 A B ≤ h := by
  obtain ⟨h1, h2⟩ := rE_spec 53 A B hB (by omega)
  obtain ⟨E, hE⟩ : ∃ E, E = rE 53 A B := ⟨_, rfl⟩
  unfold rU rS rR
  rw [← hE] at h1 h2 ⊢
  have hTp : 0 < B * 2 ^ E := Nat.mul_pos hB (Nat.two_pow_pos E)
  have hdv : ∃ t, h = t * 2 ^ E := by
    rcases h2 with z | z
    · exact ⟨h, by rw [z, Nat.pow_zero, Nat.mul_one]⟩
    · by_cases c : E = 0
      · exact ⟨h, by rw [c, Nat.pow_zero, Nat.mul_one]⟩
      · have hb : 4503599627370496 * 2 ^ E ≤ h := by
          rw [show E + 53 - 1 = 52 + E from by omega, Nat.pow_add, show (2 : Nat) ^ 52 = 4503599627370496 from by decide] at z
          exact Nat.le_of_mul_le_mul_left (Nat.le_trans z hle) hB
        obtain ⟨t, ht⟩ := hf.part E (by omega) hb
        exact ⟨t, by rw [ht, Nat.mul_comm]⟩
  obtain ⟨t, ht⟩ := hdv
  rw [ht]
  apply Nat.mul_le_mul_right
  rw [ht, Nat.mul_left_comm, Nat.mul_comm t] at hle
  have hdm := Nat.div_add_mod A (B * 2 ^ E)
  by_cases c : A % (B * 2 ^ E) = 0
  · rw [c, upw_none _ _ _ hTp]
    simp only [Bool.toNat_false, Nat.add_zero]
    exact Nat.le_of_mul_le_mul_left (Nat.le_trans (Nat.mul_div_le _ _) hle) hTp
  · have hlt : A / (B * 2 ^ E) < t := by
      rw [Nat.div_lt_iff_lt_mul hTp, Nat.mul_comm t]
      rcases Nat.lt_or_ge A (B * 2 ^ E * t) with g | g
      · exact g
      · exfalso
        have : A = B * 2 ^ E * t := Nat.le_antisymm hle g
        rw [this, Nat.mul_mod_right] at c
        exact c rfl
    have := Bool.toNat_le (upw d (A / (B * 2 ^ E)) (A % (B * 2 ^ E)) (B * 2 ^ E))
    omega
theorem rU_over (d : Int) (A B h : Nat) (hB : 0 < B) (hf : FL (h : Int)) (hle : B * h ≤ A) : h ≤ rU d 53 A B := by
  obtain ⟨h1, h2⟩ := rE_spec 53 A B hB (by omega)
  obtain ⟨E, hE⟩ : ∃ E, E = rE 53 A B := ⟨_, rfl⟩
  unfold rU rS rR
  rw [← hE] at h1 h2 ⊢
  have hTp : 0 < B * 2 ^ E := Nat.mul_pos hB (Nat.two_pow_pos E)
  by_cases c : ∃ t, h = t * 2 ^ E
  · obtain ⟨t, ht⟩ := c
    rw [ht]
    apply Nat.mul_le_mul_right
    have : t ≤ A / (B * 2 ^ E) := by
      rw [Nat.le_div_iff_mul_le hTp]
      rw [ht, Nat.mul_left_comm] at hle
      exact hle
    omega
  · have hE0 : E ≠ 0 := fun z => c ⟨h, by rw [z, Nat.pow_zero, Nat.mul_one]⟩
    have hS : 4503599627370496 ≤ A / (B * 2 ^ E) := by
      rcases h2 with z | z
      · exact absurd z hE0
      · rw [Nat.le_div_iff_mul_le hTp]
        rw [show E + 53 - 1 = 52 + E from by omega, Nat.pow_add, show (2 : Nat) ^ 52 = 4503599627370496 from by decide, Nat.mul_left_comm] at z
        exact z
    have hlt : h < 4503599627370496 * 2 ^ E := by
      rcases Nat.lt_or_ge h (4503599627370496 * 2 ^ E) with g | g
      · exact g
      · obtain ⟨t, ht⟩ := hf.part E (by omega) g
        exact absurd ⟨t, by rw [ht, Nat.mul_comm]⟩ c
    exact Nat.le_trans (Nat.le_of_lt hlt) (Nat.mul_le_mul_right _ (by omega))
theorem rep_fl (K E : Nat) (h : K ≤ 9007199254740992) : FL ((K * 2 ^ E : Nat) : Int) := by
  refine ⟨E, ?_, ?_⟩
  · rw [← castpow]; exact Int.natCast_dvd_natCast.2 (Nat.dvd_mul_left _ _)
  · rw [Int.natAbs_natCast]; exact Nat.mul_le_mul_right _ h
theorem rU_flB (d : Int) (A B : Nat) (hB : 0 < B) : FL ((rU d 53 A B : Nat) : Int) ∧ rU d 53 (rU d 53 A B) 1 = rU d 53 A B := by
  obtain ⟨h1, h2, -⟩ := rung_ofB A B hB d _ _ rfl rfl
  rw [h1]
  exact ⟨rep_fl _ _ h2, rU_rep d _ _ h2⟩
theorem fl_rung (U : Nat) (d : Int) (h : rU d 53 U 1 = U) : Fq.vV Ieee.double (rgU 53 U) = U := by
  have := vV_rung U d
  rw [h] at this
  exact this
theorem fin_mono (d : Int) (U U' : Nat) (hd : d ≠ -1) (h1 : rU d 53 U 1 = U) (h2 : rU d 53 U' 1 = U') (h : U ≤ U') : finU 53 2098 9218868437227405311 9218868437227405312 d U ≤ finU 53 2098 9218868437227405311 9218868437227405312 d U' := by
  by_cases c2 : blen U' ≤ 2098
  · have c1 : blen U ≤ 2098 := by
      rw [blen_le_iff] at c2 ⊢
      exact Nat.lt_of_le_of_lt h c2
    unfold finU
    rw [if_pos c1, if_pos c2]
    have e1 := fl_rung U d h1
    have e2 := fl_rung U' d h2
    rcases Nat.lt_or_ge (rgU 53 U') (rgU 53 U) with g | g
    · have := Fq.vV_lt Ieee.double g
      omega
    · exact g
  · have : finU 53 2098 9218868437227405311 9218868437227405312 d U' = 9218868437227405312 := by unfold finU; rw [if_neg c2, if_neg hd]
    rw [this]
    exact fin_leH d U
theorem sumW_mono (V V' : Int) (h0 : 0 ≤ V) (h : V ≤ V') : sumW 1 V ≤ sumW 1 V' := by
  unfold sumW
  by_cases z : V = 0
  · rw [if_pos z]; exact Nat.zero_le _
  · rw [if_neg z, if_neg (show ¬ V' = 0 by omega), decide_eq_false (by omega), decide_eq_false (by omega)]
    have hd : dirN false 1 = 1 := rfl
    rw [hd]
    have m := fin_mono 1 (rU 1 53 V.natAbs 1) (rU 1 53 V'.natAbs 1) (by decide) (rU_flB 1 V.natAbs 1 (by decide)).2 (rU_flB 1 V'.natAbs 1 (by decide)).2 ?_
    · unfold mdW
      by_cases c1 : finU 53 2098 9218868437227405311 9218868437227405312 1 (rU 1 53 V.natAbs 1) = 0
      · rw [if_pos c1]; exact Nat.zero_le _
      · rw [if_neg c1, if_neg (by decide), if_neg (by omega), if_neg (by decide)]
        exact m
    · apply rU_under _ _ _ _ (by decide) (rU_flB 1 V'.natAbs 1 (by decide)).1
      have : V'.natAbs ≤ rU 1 53 V'.natAbs 1 := by
        unfold rU rS rR
        rw [Nat.one_mul]
        have hTp := Nat.two_pow_pos (rE 53 V'.natAbs 1)
        have hdm := Nat.div_add_mod V'.natAbs (2 ^ rE 53 V'.natAbs 1)
        by_cases c : V'.natAbs % 2 ^ rE 53 V'.natAbs 1 = 0
        · rw [c, upw_none _ _ _ hTp]
          simp only [Bool.toNat_false, Nat.add_zero]
          rw [c, Nat.add_zero, Nat.mul_comm] at hdm
          omega
        · have hu : upw 1 (V'.natAbs / 2 ^ rE 53 V'.natAbs 1) (V'.natAbs % 2 ^ rE 53 V'.natAbs 1) (2 ^ rE 53 V'.natAbs 1) = true := by
            unfold upw; rw [if_pos rfl, decide_eq_true (by omega)]
          rw [hu]
          simp only [Bool.toNat_true]
          have hl := Nat.mod_lt V'.natAbs hTp
          rw [Nat.add_mul, Nat.one_mul, Nat.mul_comm]
          omega
      omega
/-- the middle of two numbers is a number between them -/
theorem mid_in (n g : Bool) (m r : Nat) (hm : m < 9218868437227405312) (hr : r < 9218868437227405312) (hle : Iv n m ≤ Iv g r) :
    ∃ s x, x < 9218868437227405312 ∧ hfW (Iv n m + Iv g r) = Fq.wD s x ∧ (x = 0 → s = false) ∧ Iv n m ≤ Iv s x ∧ Iv s x ≤ Iv g r := by
  obtain ⟨V, hV⟩ : ∃ V, V = Iv n m + Iv g r := ⟨_, rfl⟩
  obtain ⟨U, hU⟩ : ∃ U, U = rU 0 53 V.natAbs 2 := ⟨_, rfl⟩
  obtain ⟨fU, gU⟩ := rU_flB 0 V.natAbs 2 (by decide)
  rw [← hU] at fU gU
  have f1 : FL ((Fq.vV Ieee.double m : Nat) : Int) := iv_fl false m
  have f2 : FL ((Fq.vV Ieee.double r : Nat) : Int) := iv_fl false r
  have a1 := iv_abs n m
  have a2 := iv_abs g r
  rw [← hV]
  obtain ⟨α, hα⟩ : ∃ α, α = Fq.vV Ieee.double m := ⟨_, rfl⟩
  obtain ⟨β, hβ⟩ : ∃ β, β = Fq.vV Ieee.double r := ⟨_, rfl⟩
  rw [← hα] at f1 a1
  rw [← hβ] at f2 a2
  obtain ⟨a, ha⟩ : ∃ a, a = Iv n m := ⟨_, rfl⟩
  obtain ⟨b, hb⟩ : ∃ b, b = Iv g r := ⟨_, rfl⟩
  rw [← ha] at a1 hV hle ⊢
  rw [← hb] at a2 hV hle ⊢
  have hin : (a ≤ (if V < 0 then -(U : Int) else U) ∧ (if V < 0 then -(U : Int) else U) ≤ b) ∧ (U ≤ α ∨ U ≤ β) := by
    by_cases c : V < 0
    · rw [if_pos c]
      have u1 : U ≤ α := by rw [hU]; exact rU_under 0 _ 2 _ (by decide) f1 (by omega)
      refine ⟨⟨by omega, ?_⟩, Or.inl u1⟩
      by_cases d : 0 ≤ b
      · omega
      · have : β ≤ U := by rw [hU]; exact rU_over 0 _ 2 _ (by decide) f2 (by omega)
        omega
    · rw [if_neg c]
      have u1 : U ≤ β := by rw [hU]; exact rU_under 0 _ 2 _ (by decide) f2 (by omega)
      refine ⟨⟨?_, by omega⟩, Or.inr u1⟩
      by_cases d : a ≤ 0
      · omega
      · have : α ≤ U := by rw [hU]; exact rU_over 0 _ 2 _ (by decide) f1 (by omega)
        omega
  obtain ⟨J, hJ⟩ : ∃ J : Nat, J = 2044 := ⟨_, rfl⟩
  obtain ⟨T, hT⟩ : ∃ T : Nat, T = 2 ^ J := ⟨_, rfl⟩
  have hTp : 0 < T := by rw [hT]; exact Nat.two_pow_pos _
  have v1 := vV_top m T J hJ hT hm
  have v2 := vV_top r T J hJ hT hr
  rw [← hα] at v1
  rw [← hβ] at v2
  have hbl : blen U ≤ 2098 := by
    rw [blen_le_iff, show (2098 : Nat) = 54 + J from by omega, Nat.pow_add, ← hT, show (2 : Nat) ^ 54 = 18014398509481984 from by decide]
    have := hin.2
    omega
  have hx := fl_rung U 0 gU
  obtain ⟨x, hxx⟩ : ∃ x, x = rgU 53 U := ⟨_, rfl⟩
  rw [← hxx] at hx
  have hxl : x < 9218868437227405312 := by
    rcases hin.2 with h | h
    · have := Fq.vV_lt_iff Ieee.double m x
      rw [hx, ← hα] at this
      omega
    · have := Fq.vV_lt_iff Ieee.double r x
      rw [hx, ← hβ] at this
      omega
  have hfin : finU 53 2098 9218868437227405311 9218868437227405312 0 U = x := by unfold finU; rw [if_pos hbl, hxx]
  have hx0 : x = 0 ↔ U = 0 := by rw [← hx]; exact (vV_zero_iff x).symm
  have hV0 : V = 0 → U = 0 := fun z => by
    rw [hU, z, Int.natAbs_zero]
    unfold rU rS rR
    rw [Nat.zero_div, Nat.zero_mod, upw_none _ _ _ (Nat.mul_pos (by decide) (Nat.two_pow_pos _))]
    simp
  have hiv : ∀ s : Bool, Iv s x = if s then -(U : Int) else U := fun s => by unfold Iv; rw [hx]
  by_cases z : x = 0
  · have zU := hx0.1 z
    refine ⟨false, 0, by decide, ?_, fun _ => rfl, ?_, ?_⟩
    · unfold hfW
      by_cases c : V = 0
      · rw [if_pos c]; rfl
      · rw [if_neg c, ← hU, hfin, z]; rfl
    · have := hin.1.1; have e := hiv false; rw [z] at e; rw [e]; simp only [Bool.false_eq_true, if_false]; split at this <;> omega
    · have := hin.1.2; have e := hiv false; rw [z] at e; rw [e]; simp only [Bool.false_eq_true, if_false]; split at this <;> omega
  · have cV : V ≠ 0 := fun c => z (hx0.2 (hV0 c))
    refine ⟨decide (V < 0), x, hxl, ?_, fun h => absurd h z, ?_, ?_⟩
    · unfold hfW
      rw [if_neg cV, ← hU, hfin]
      unfold mdW Fq.wD
      rw [if_neg z]
    · rw [hiv]
      have := hin.1.1
      by_cases c : V < 0
      · rw [decide_eq_true c]; rw [if_pos c] at this; exact this
      · rw [decide_eq_false c]; rw [if_neg c] at this; exact this
    · rw [hiv]
      have := hin.1.2
      by_cases c : V < 0
      · rw [decide_eq_true c]; rw [if_pos c] at this; exact this
      · rw [decide_eq_false c]; rw [if_neg c] at this; exact this
/-- no number of 53 bits is nearer to the half of A than the rounded one -/
theorem nearB2 (A h : Nat) (hf : FL (h : Int)) : (2 * ((rU 0 53 A 2 : Nat) : Int) - (A : Int)).natAbs ≤ (2 * (h : Int) - (A : Int)).natAbs := by
  obtain ⟨h1, h2⟩ := rE_spec 53 A 2 (by decide) (by omega)
  unfold rU rS rR
  obtain ⟨E, hE⟩ : ∃ E, E = rE 53 A 2 := ⟨_, rfl⟩
  rw [← hE] at h1 h2 ⊢
  clear hE h1
  obtain ⟨T, hT⟩ : ∃ T, T = 2 ^ E := ⟨_, rfl⟩
  have hTp : 0 < T := by rw [hT]; exact Nat.two_pow_pos E
  rw [← hT]
  have hdm := Nat.div_add_mod A (2 * T)
  have hR := Nat.mod_lt A (show 0 < 2 * T by omega)
  obtain ⟨S, hS⟩ : ∃ S, S = A / (2 * T) := ⟨_, rfl⟩
  obtain ⟨R, hRe⟩ : ∃ R, R = A % (2 * T) := ⟨_, rfl⟩
  have hside : h ≤ S * T ∨ S * T + T ≤ h := by
    by_cases z0 : E = 0
    · have : T = 1 := by rw [hT, z0, Nat.pow_zero]
      rw [this, Nat.mul_one]
      omega
    · rcases h2 with z | z
      · exact absurd z z0
      · by_cases c : h ≤ S * T
        · exact Or.inl c
        · right
          have hS52 : 4503599627370496 ≤ S := by
            rw [hS, Nat.le_div_iff_mul_le (by omega)]
            rw [show E + 53 - 1 = 52 + E from by omega, Nat.pow_add, ← hT, show (2 : Nat) ^ 52 = 4503599627370496 from by decide] at z
            omega
          have hb : 4503599627370496 * 2 ^ E ≤ h := by
            rw [← hT]
            have := Nat.mul_le_mul_right T hS52
            omega
          obtain ⟨t, ht⟩ := hf.part E (by omega) hb
          rw [← hT] at ht
          have hlt : S < t := by
            rcases Nat.lt_or_ge S t with g | g
            · exact g
            · exfalso
              have := Nat.mul_le_mul_right T g
              rw [ht, Nat.mul_comm T t] at c
              omega
          have := Nat.mul_le_mul_right T (show S + 1 ≤ t from hlt)
          rw [Nat.add_mul, Nat.one_mul] at this
          rw [ht, Nat.mul_comm T t]
          exact this
  rw [← hS, ← hRe] at hdm ⊢
  rw [← hRe] at hR
  have hX : 2 * T * S = 2 * (S * T) := by rw [Nat.mul_assoc, Nat.mul_comm T S]
  rw [hX] at hdm
  unfold upw
  rw [if_neg (by decide), if_neg (by decide), Nat.add_mul]
  obtain ⟨X, hXX⟩ : ∃ X, X = S * T := ⟨_, rfl⟩
  rw [← hXX] at hdm hside ⊢
  clear hX hXX h2 hf hS hRe hT
  by_cases c1 : 2 * T < 2 * R
  · rw [decide_eq_true c1]
    simp only [Bool.true_or, Bool.toNat_true, Nat.one_mul]
    omega
  · rw [decide_eq_false c1]
    by_cases c2 : 2 * T = 2 * R
    · rw [decide_eq_true c2]
      rcases hb : decide (S % 2 = 1) with _ | _
      · simp only [Bool.false_or, Bool.and_false, Bool.toNat_false, Nat.zero_mul, Nat.add_zero]
        omega
      · simp only [Bool.false_or, Bool.and_true, Bool.toNat_true, Nat.one_mul]
        omega
    · rw [decide_eq_false c2]
      simp only [Bool.false_or, Bool.false_and, Bool.toNat_false, Nat.zero_mul, Nat.add_zero]
      omega
/-- the middle of two numbers that are no neighbours lies strictly between them -/
theorem mid_in2 (n g : Bool) (m r : Nat) (hm : m < 9218868437227405312) (hr : r < 9218868437227405312) (cc : Int) (fc : FL ((cc.natAbs : Nat) : Int)) (hac : Iv n m < cc) (hcb : cc < Iv g r) :
    ∃ s x, x < 9218868437227405312 ∧ hfW (Iv n m + Iv g r) = Fq.wD s x ∧ (x = 0 → s = false) ∧ Iv n m < Iv s x ∧ Iv s x < Iv g r := by
  have hle : Iv n m ≤ Iv g r := by omega
  obtain ⟨V, hV⟩ : ∃ V, V = Iv n m + Iv g r := ⟨_, rfl⟩
  obtain ⟨U, hU⟩ : ∃ U, U = rU 0 53 V.natAbs 2 := ⟨_, rfl⟩
  obtain ⟨fU, gU⟩ := rU_flB 0 V.natAbs 2 (by decide)
  rw [← hU] at fU gU
  have f1 : FL ((Fq.vV Ieee.double m : Nat) : Int) := iv_fl false m
  have f2 : FL ((Fq.vV Ieee.double r : Nat) : Int) := iv_fl false r
  have a1 := iv_abs n m
  have a2 := iv_abs g r
  rw [← hV]
  obtain ⟨α, hα⟩ : ∃ α, α = Fq.vV Ieee.double m := ⟨_, rfl⟩
  obtain ⟨β, hβ⟩ : ∃ β, β = Fq.vV Ieee.double r := ⟨_, rfl⟩
  rw [← hα] at f1 a1
  rw [← hβ] at f2 a2
  obtain ⟨a, ha⟩ : ∃ a, a = Iv n m := ⟨_, rfl⟩
  obtain ⟨b, hb⟩ : ∃ b, b = Iv g r := ⟨_, rfl⟩
  rw [← ha] at a1 hV hle hac ⊢
  rw [← hb] at a2 hV hle hcb ⊢
  have hin : (a ≤ (if V < 0 then -(U : Int) else U) ∧ (if V < 0 then -(U : Int) else U) ≤ b) ∧ (U ≤ α ∨ U ≤ β) := by
    by_cases c : V < 0
    · rw [if_pos c]
      have u1 : U ≤ α := by rw [hU]; exact rU_under 0 _ 2 _ (by decide) f1 (by omega)
      refine ⟨⟨by omega, ?_⟩, Or.inl u1⟩
      by_cases d : 0 ≤ b
      · omega
      · have : β ≤ U := by rw [hU]; exact rU_over 0 _ 2 _ (by decide) f2 (by omega)
        omega
    · rw [if_neg c]
      have u1 : U ≤ β := by rw [hU]; exact rU_under 0 _ 2 _ (by decide) f2 (by omega)
      refine ⟨⟨?_, by omega⟩, Or.inr u1⟩
      by_cases d : a ≤ 0
      · omega
      · have : α ≤ U := by rw [hU]; exact rU_over 0 _ 2 _ (by decide) f1 (by omega)
        omega
  replace hin : (a < (if V < 0 then -(U : Int) else U) ∧ (if V < 0 then -(U : Int) else U) < b) ∧ (U ≤ α ∨ U ≤ β) := by
    have n0 := nearB2 V.natAbs 0 (by simpa using rep_fl 0 0 (by decide))
    have nc := nearB2 V.natAbs cc.natAbs fc
    rw [← hU] at n0 nc
    obtain ⟨⟨h1, h2⟩, h3⟩ := hin
    refine ⟨?_, h3⟩
    clear h3
    by_cases c : V < 0
    · rw [if_pos c] at h1 h2 ⊢
      omega
    · rw [if_neg c] at h1 h2 ⊢
      omega
  obtain ⟨J, hJ⟩ : ∃ J : Nat, J = 2044 := ⟨_, rfl⟩
  obtain ⟨T, hT⟩ : ∃ T : Nat, T = 2 ^ J := ⟨_, rfl⟩
  have hTp : 0 < T := by rw [hT]; exact Nat.two_pow_pos _
  have v1 := vV_top m T J hJ hT hm
  have v2 := vV_top r T J hJ hT hr
  rw [← hα] at v1
  rw [← hβ] at v2
  have hbl : blen U ≤ 2098 := by
    rw [blen_le_iff, show (2098 : Nat) = 54 + J from by omega, Nat.pow_add, ← hT, show (2 : Nat) ^ 54 = 18014398509481984 from by decide]
    have := hin.2
    omega
  have hx := fl_rung U 0 gU
  obtain ⟨x, hxx⟩ : ∃ x, x = rgU 53 U := ⟨_, rfl⟩
  rw [← hxx] at hx
  have hxl : x < 9218868437227405312 := by
    rcases hin.2 with h | h
    · have := Fq.vV_lt_iff Ieee.double m x
      rw [hx, ← hα] at this
      omega
    · have := Fq.vV_lt_iff Ieee.double r x
      rw [hx, ← hβ] at this
      omega
  have hfin : finU 53 2098 9218868437227405311 9218868437227405312 0 U = x := by unfold finU; rw [if_pos hbl, hxx]
  have hx0 : x = 0 ↔ U = 0 := by rw [← hx]; exact (vV_zero_iff x).symm
  have hV0 : V = 0 → U = 0 := fun z => by
    rw [hU, z, Int.natAbs_zero]
    unfold rU rS rR
    rw [Nat.zero_div, Nat.zero_mod, upw_none _ _ _ (Nat.mul_pos (by decide) (Nat.two_pow_pos _))]
    simp
  have hiv : ∀ s : Bool, Iv s x = if s then -(U : Int) else U := fun s => by unfold Iv; rw [hx]
  by_cases z : x = 0
  · have zU := hx0.1 z
    refine ⟨false, 0, by decide, ?_, fun _ => rfl, ?_, ?_⟩
    · unfold hfW
      by_cases c : V = 0
      · rw [if_pos c]; rfl
      · rw [if_neg c, ← hU, hfin, z]; rfl
    · have := hin.1.1; have e := hiv false; rw [z] at e; rw [e]; simp only [Bool.false_eq_true, if_false]; split at this <;> omega
    · have := hin.1.2; have e := hiv false; rw [z] at e; rw [e]; simp only [Bool.false_eq_true, if_false]; split at this <;> omega
  · have cV : V ≠ 0 := fun c => z (hx0.2 (hV0 c))
    refine ⟨decide (V < 0), x, hxl, ?_, fun h => absurd h z, ?_, ?_⟩
    · unfold hfW
      rw [if_neg cV, ← hU, hfin]
      unfold mdW Fq.wD
      rw [if_neg z]
    · rw [hiv]
      have := hin.1.1
      by_cases c : V < 0
      · rw [decide_eq_true c]; rw [if_pos c] at this; exact this
      · rw [decide_eq_false c]; rw [if_neg c] at this; exact this
    · rw [hiv]
      have := hin.1.2
      by_cases c : V < 0
      · rw [decide_eq_true c]; rw [if_pos c] at this; exact this
      · rw [decide_eq_false c]; rw [if_neg c] at this; exact this
end Go.Proofs.Ytnjbheammpdjfaa
